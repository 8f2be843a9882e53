import Derived.Test.YtoakngmagoilnaaQ20
import Derived.Test.YtoakngmagoilnaaQ15
import Derived.Test.YtoakngmagoilnaaQ18
namespace Go.Proofs.Ytoakngmagoilnaa
open Go.RowKit
set_option maxHeartbeats 4000000 in
set_option maxRecDepth 100000 in
theorem refLeaf9_any (a : Option Addr) (n cap : Nat) (L : List It) (w : World) (hl : Il w a L) (hn : L.length = n) (hm : n ≤ 5000) (hcap : n ≤ cap) (hc2 : cap ≤ 9223372036854775807) (hk : ∀ x ∈ L, x.key.length ≤ 140737488351240) :
  Calls Try.prog 13 #[.slice a n cap] w fun en w' => (∃ r : Nat, en = .returned (.int .i64 r) ∧ Best (fun i => size (L.take i)) (fun i => size (L.drop i)) (n - 1) r) ∧ w.grownBy w' none := by
 have HL := hid_intro hl
 have HK := hid_intro hk
 clear hl hk
 go_enter Try.func13, Try.ntmps13
 go_wp2
 go_loopw [3, 4, 5, 6, 7] (fun sb sl si _ _ wr => ∃ (k b l : Nat), (k + 1 ≤ n ∨ k = 0) ∧ si = .int .i64 ((k + 1 : Nat) : Int) ∧ sb = .int .i64 b ∧ sl = .int .i64 l ∧ Scan (fun i => size (L.take i)) (fun i => size (L.drop i)) k b l ∧ w.grownBy wr none) (fun _ _ si _ _ _ => n - (intOf si).toNat)
 case atStart => exact ⟨0, 0, 0, .inr rfl, rfl, rfl, rfl, Scan.none _ _, World.grownBy.refl _ _⟩
 case round =>
  obtain ⟨k, bb, ll, hkn, rfl, rfl, rfl, hsc, hg⟩ := hrel
  have HS := hid_intro hsc
  have HG := hid_intro hg
  clear hsc hg
  obtain ⟨i, hi⟩ : ∃ i : Nat, k + 1 = i := ⟨_, rfl⟩
  rw [hi]
  by_cases hlt : i < n
  ·obtain ⟨b, off, rfl⟩ : ∃ b off, a = some ⟨b, off, none⟩ := by
    obtain ⟨b, off, _, _, _, _, _, _, e, _⟩ := HL.out.row 0 (by omega)
    exact ⟨b, off, e⟩
   have hlen1 : (L.take i).length = i := by rw [List.length_take]; omega
   have hlen2 : (L.drop i).length = n - i := by rw [List.length_drop]; omega
   have HA := hid_intro (refSize_any (some ⟨b, off, none⟩) i cap (L.take i) wr ((HL.out.keptN HG.out).take i) hlen1 (by omega) (fun x hx => HK.out x (List.mem_of_mem_take hx)))
   have HB := hid_intro (fun (W : World) (h : w.grownBy W none) => refSize_any (some ⟨b, off + i * 4, none⟩) (n - i) (cap - i) (L.drop i) W ((HL.out.keptN h).drop i) hlen2 (by omega) (fun x hx => HK.out x (List.mem_of_mem_drop hx)))
   clear hlen1 hlen2
   have hci : ¬ cap = i := by omega
   have hic : i < cap := by omega
   have HSK := hid_intro (fun (h : 4092 < size (L.take i) ∨ 4092 < size (L.drop i)) => by
    have := HS.out.skip (f := fun i => size (L.take i)) (g := fun i => size (L.drop i)) (by rw [hi]; exact h)
    rwa [hi] at this)
   have HTK := hid_intro (fun (h1 : size (L.take i) ≤ 4092) (h2 : size (L.drop i) ≤ 4092) (h3 : bb = 0 ∨ max (size (L.take i)) (size (L.drop i)) < ll) => by
    have := HS.out.take (f := fun i => size (L.take i)) (g := fun i => size (L.drop i)) (by rw [hi]; exact h1) (by rw [hi]; exact h2) (by rw [hi]; exact h3)
    rwa [hi] at this)
   have HLV := hid_intro (fun (h1 : bb ≠ 0) (h2 : ll ≤ max (size (L.take i)) (size (L.drop i))) => by
    have := HS.out.leave (f := fun i => size (L.take i)) (g := fun i => size (L.drop i)) h1 (by rw [hi]; exact h2)
    rwa [hi] at this)
   have hM : Hid (mx (fun i => size (L.take i)) (fun i => size (L.drop i)) i = max (size (L.take i)) (size (L.drop i))) := rfl
   rw [hM.out] at HTK
   clear HS hM
   go_wp2_with fail
   refine HA.out.mono ?_
   rintro en w1 ⟨rfl, hq1⟩
   have HG1 := hid_intro (grown_trans HG.out (hq1.qt.grown none))
   clear hq1 HG HA
   go_wp2_with fail
   refine (HB.out _ HG1.out).mono ?_
   rintro en w2 ⟨rfl, hq2⟩
   have HG2 := hid_intro (grown_trans HG1.out (hq2.qt.grown none))
   clear hq2 HG1 HB
   obtain ⟨x, hx⟩ : ∃ x, size (L.take i) = x := ⟨_, rfl⟩
   obtain ⟨y, hy⟩ : ∃ y, size (L.drop i) = y := ⟨_, rfl⟩
   rw [hx, hy] at HSK HTK HLV
   rw [hx, hy]
   clear hx hy
   obtain ⟨M, hM⟩ : ∃ M : Nat, max x y = M := ⟨_, rfl⟩
   have hmax : ∀ (ts : Array TypeId) (t : TypeId) (W : World), (Builtin.max_ ts t #[.int .i64 x, .int .i64 y]).run Try.prog W = .ok (.int .i64 M) W := fun ts t W => by rw [run_max_int2, max_int, hM]
   rw [hM] at HTK HLV
   clear hM
   by_cases h1 : 4092 < x
   ·have HR := hid_intro (HSK.out (.inl h1))
    clear HSK HTK HLV
    go_wp2
    go_roundw
    case rel => exact ⟨i, bb, ll, .inl (by omega), by go_num, rfl, rfl, HR.out, HG2.out⟩
    case measure => simp [intOf]; omega
   ·by_cases h2 : 4092 < y
    ·have HR := hid_intro (HSK.out (.inr h2))
     clear HSK HTK HLV
     go_wp2
     go_roundw
     case rel => exact ⟨i, bb, ll, .inl (by omega), by go_num, rfl, rfl, HR.out, HG2.out⟩
     case measure => simp [intOf]; omega
    ·by_cases h3 : bb = 0
     ·have HR := hid_intro (HTK.out (by omega) (by omega) (.inl h3))
      subst h3
      clear HSK HTK HLV
      go_wp2
      go_roundw
      case rel => exact ⟨i, i, M, .inl (by omega), by go_num, rfl, rfl, HR.out, HG2.out⟩
      case measure => simp [intOf]; omega
     ·by_cases h4 : M < ll
      ·have HR := hid_intro (HTK.out (by omega) (by omega) (.inr h4))
       clear HSK HTK HLV
       go_wp2
       go_roundw
       case rel => exact ⟨i, i, M, .inl (by omega), by go_num, rfl, rfl, HR.out, HG2.out⟩
       case measure => simp [intOf]; omega
      ·have HR := hid_intro (HLV.out h3 (by omega))
       clear HSK HTK HLV
       go_wp2
       go_roundw
       case rel => exact ⟨i, bb, ll, .inl (by omega), by go_num, rfl, rfl, HR.out, HG2.out⟩
       case measure => simp [intOf]; omega
  ·have hk1 : k = n - 1 := by omega
   have HR := hid_intro HS.out.1
   rw [hk1] at HR
   clear HS
   go_wp2
   go_ret
   exact ⟨⟨bb, rfl, HR.out⟩, HG.out⟩
set_option maxHeartbeats 4000000 in
set_option maxRecDepth 100000 in
theorem refBranch9_any (a : Option Addr) (n cap : Nat) (L : List (List Int)) (w : World) (hl : Lz w a L) (hn : L.length = n) (hm : n ≤ 5000) (hcap : n ≤ cap) (hc2 : cap ≤ 9223372036854775807) (hk : ∀ x ∈ L, x.length ≤ 140737488351240) :
  Calls Try.prog 14 #[.slice a n cap] w fun en w' => (∃ r : Nat, en = .returned (.int .i64 r) ∧ Best (fun i => bsize (L.take (i - 1))) (fun i => bsize (L.drop i)) n r) ∧ w.grownBy w' none := by
 have HL := hid_intro hl
 have HK := hid_intro hk
 clear hl hk
 go_enter Try.func14, Try.ntmps14
 go_wp2
 go_loopw [3, 4, 5, 6, 7] (fun sb sl si _ _ wr => ∃ (k b l : Nat), k ≤ n ∧ si = .int .i64 ((k + 1 : Nat) : Int) ∧ sb = .int .i64 b ∧ sl = .int .i64 l ∧ Scan (fun i => bsize (L.take (i - 1))) (fun i => bsize (L.drop i)) k b l ∧ w.grownBy wr none) (fun _ _ si _ _ _ => n + 1 - (intOf si).toNat)
 case atStart => exact ⟨0, 0, 0, Nat.zero_le _, rfl, rfl, rfl, Scan.none _ _, World.grownBy.refl _ _⟩
 case round =>
  obtain ⟨k, bb, ll, hkn, rfl, rfl, rfl, hsc, hg⟩ := hrel
  have HS := hid_intro hsc
  have HG := hid_intro hg
  clear hsc hg
  obtain ⟨i, hi⟩ : ∃ i : Nat, k + 1 = i := ⟨_, rfl⟩
  rw [hi]
  by_cases hlt : i ≤ n
  ·obtain ⟨b, off, rfl⟩ : ∃ b off, a = some ⟨b, off, none⟩ := by
    obtain ⟨b, off, _, _, _, e, _⟩ := HL.out.row 0 (by omega)
    exact ⟨b, off, e⟩
   have hlen1 : (L.take (i - 1)).length = i - 1 := by rw [List.length_take]; omega
   have hlen2 : (L.drop i).length = n - i := by rw [List.length_drop]; omega
   have HA := hid_intro (refSize5_any (some ⟨b, off, none⟩) k cap (L.take (i - 1)) wr ((HL.out.keptN HG.out).take (i - 1)) (by rw [hlen1]; omega) (by omega) (fun x hx => HK.out x (List.mem_of_mem_take hx)))
   have HB : Hid (∀ (W : World), w.grownBy W none → (¬ cap = i → Calls Try.prog 30 #[.slice (some ⟨b, off + i, none⟩) (n - i) (cap - i)] W fun en w' => en = .returned (.int .i64 ((bsize (L.drop i) : Nat) : Int)) ∧ Qt W w') ∧ (cap = i → Calls Try.prog 30 #[.slice (some ⟨b, off, none⟩) 0 0] W fun en w' => en = .returned (.int .i64 ((bsize (L.drop i) : Nat) : Int)) ∧ Qt W w')) := by
    intro W h
    refine ⟨fun _ => refSize5_any (some ⟨b, off + i, none⟩) (n - i) (cap - i) (L.drop i) W ((HL.out.keptN h).drop i) hlen2 (by omega) (fun x hx => HK.out x (List.mem_of_mem_drop hx)), fun e => ?_⟩
    have h0 : L.drop i = [] := List.eq_nil_of_length_eq_zero (by omega)
    exact refSize5_any (some ⟨b, off, none⟩) 0 0 (L.drop i) W (by rw [h0]; exact Lz.zero _ _) (by rw [h0]; rfl) (by omega) (fun x hx => HK.out x (List.mem_of_mem_drop hx))
   clear hlen1 hlen2
   have e1 : (i : Int) - 1 = (k : Int) := by omega
   have hkc : k ≤ cap := by omega
   have hicap : i ≤ cap := by omega
   have HSK := hid_intro (fun (h : 4092 < bsize (L.take (i - 1)) ∨ 4092 < bsize (L.drop i)) => by
    have := HS.out.skip (f := fun i => bsize (L.take (i - 1))) (g := fun i => bsize (L.drop i)) (by rw [hi]; exact h)
    rwa [hi] at this)
   have HTK := hid_intro (fun (h1 : bsize (L.take (i - 1)) ≤ 4092) (h2 : bsize (L.drop i) ≤ 4092) (h3 : bb = 0 ∨ max (bsize (L.take (i - 1))) (bsize (L.drop i)) < ll) => by
    have := HS.out.take (f := fun i => bsize (L.take (i - 1))) (g := fun i => bsize (L.drop i)) (by rw [hi]; exact h1) (by rw [hi]; exact h2) (by rw [hi]; exact h3)
    rwa [hi] at this)
   have HLV := hid_intro (fun (h1 : bb ≠ 0) (h2 : ll ≤ max (bsize (L.take (i - 1))) (bsize (L.drop i))) => by
    have := HS.out.leave (f := fun i => bsize (L.take (i - 1))) (g := fun i => bsize (L.drop i)) h1 (by rw [hi]; exact h2)
    rwa [hi] at this)
   have hM : Hid (mx (fun i => bsize (L.take (i - 1))) (fun i => bsize (L.drop i)) i = max (bsize (L.take (i - 1))) (bsize (L.drop i))) := rfl
   rw [hM.out] at HTK
   clear HS hM
   go_wp2_with fail
   refine HA.out.mono ?_
   rintro en w1 ⟨rfl, hq1⟩
   have HG1 := hid_intro (grown_trans HG.out (hq1.grown none))
   clear hq1 HG HA
   go_upto_region 7 with fail
   go_cut [7] from 8 to 41 (fun s7 wx => s7 = .int .i64 ((bsize (L.drop i) : Nat) : Int) ∧ w.grownBy wx none)
   case first =>
    by_cases hci : cap = i
    ·have hni : n = i := by omega
     have HBB := hid_intro ((HB.out _ HG1.out).2 hci)
     clear HB HSK HTK HLV
     subst hci
     subst hni
     go_wp2_with fail
     refine HBB.out.mono ?_
     rintro en w2 ⟨rfl, hq2⟩
     have HG2 := hid_intro (grown_trans HG1.out (hq2.grown none))
     clear hq2
     go_wp2_with fail
     go_meet
     exact ⟨rfl, HG2.out⟩
    ·have HBB := hid_intro ((HB.out _ HG1.out).1 hci)
     have hic : i < cap := by omega
     clear HB HSK HTK HLV
     go_wp2_with fail
     refine HBB.out.mono ?_
     rintro en w2 ⟨rfl, hq2⟩
     have HG2 := hid_intro (grown_trans HG1.out (hq2.grown none))
     clear hq2
     go_wp2_with fail
     go_meet
     exact ⟨rfl, HG2.out⟩
   case rest =>
   obtain ⟨rfl, hg2⟩ := hcut
   have HG2 := hid_intro hg2
   clear hg2 HG1 HB
   obtain ⟨x, hx⟩ : ∃ x, bsize (L.take (i - 1)) = x := ⟨_, rfl⟩
   obtain ⟨y, hy⟩ : ∃ y, bsize (L.drop i) = y := ⟨_, rfl⟩
   rw [hx, hy] at HSK HTK HLV
   rw [hx, hy]
   clear hx hy
   obtain ⟨M, hM⟩ : ∃ M : Nat, max x y = M := ⟨_, rfl⟩
   have hmax : ∀ (ts : Array TypeId) (t : TypeId) (W : World), (Builtin.max_ ts t #[.int .i64 x, .int .i64 y]).run Try.prog W = .ok (.int .i64 M) W := fun ts t W => by rw [run_max_int2, max_int, hM]
   rw [hM] at HTK HLV
   clear hM
   by_cases h1 : 4092 < x
   ·have HR := hid_intro (HSK.out (.inl h1))
    clear HSK HTK HLV
    go_wp2
    go_roundw
    case rel => exact ⟨i, bb, ll, (by omega), by go_num, rfl, rfl, HR.out, HG2.out⟩
    case measure => simp [intOf]; omega
   ·by_cases h2 : 4092 < y
    ·have HR := hid_intro (HSK.out (.inr h2))
     clear HSK HTK HLV
     go_wp2
     go_roundw
     case rel => exact ⟨i, bb, ll, (by omega), by go_num, rfl, rfl, HR.out, HG2.out⟩
     case measure => simp [intOf]; omega
    ·by_cases h3 : bb = 0
     ·have HR := hid_intro (HTK.out (by omega) (by omega) (.inl h3))
      subst h3
      clear HSK HTK HLV
      go_wp2
      go_roundw
      case rel => exact ⟨i, i, M, (by omega), by go_num, rfl, rfl, HR.out, HG2.out⟩
      case measure => simp [intOf]; omega
     ·by_cases h4 : M < ll
      ·have HR := hid_intro (HTK.out (by omega) (by omega) (.inr h4))
       clear HSK HTK HLV
       go_wp2
       go_roundw
       case rel => exact ⟨i, i, M, (by omega), by go_num, rfl, rfl, HR.out, HG2.out⟩
       case measure => simp [intOf]; omega
      ·have HR := hid_intro (HLV.out h3 (by omega))
       clear HSK HTK HLV
       go_wp2
       go_roundw
       case rel => exact ⟨i, bb, ll, (by omega), by go_num, rfl, rfl, HR.out, HG2.out⟩
       case measure => simp [intOf]; omega
  ·have hk1 : k = n := by omega
   have HR := hid_intro HS.out.1
   rw [hk1] at HR
   clear HS
   go_wp2
   go_ret
   exact ⟨⟨bb, rfl, HR.out⟩, HG.out⟩
set_option maxHeartbeats 2000000 in
set_option maxRecDepth 100000 in
theorem refJoinLeaves_any (a : Option Addr) (n cap : Nat) (A : List It) (b : Option Addr) (m d : Nat) (B : List It) (w : World) (ha : Il w a A) (hn : A.length = n) (ha0 : a = none → cap = 0) (hb : Il w b B) (hm : B.length = m) (hb0 : b = none → d = 0)
  (hs : n + m ≤ 5000) (hk : ∀ x ∈ A ++ B, x.key.length ≤ 140737488351240) :
  Calls Try.prog 15 #[.slice a n cap, .slice b m d] w fun en w' => en = .returned (.bool (decide (size (A ++ B) ≤ 3000))) ∧ w.grownBy w' none := by
 have hdec : decide (size (A ++ B) ≤ 3000) = decide (((size (A ++ B) : Nat) : Int) ≤ 3000) := by congr 1; apply propext; omega
 rw [hdec]
 have HA := hid_intro ha
 have HB := hid_intro hb
 have HK := hid_intro hk
 have hlen : (A ++ B).length = n + m := by rw [List.length_append, hn, hm]
 have HN := hid_intro hlen
 clear ha hb hk hdec hlen
 go_enter Try.func15, Try.ntmps15
 go_wp2_with (at_builtin; refine wpList_append_il (w0 := w) rfl _ _ rfl w.heap.size (.slice none 0 0) 0 [] [] rfl ⟨rfl, .inl ⟨rfl, rfl⟩⟩ (Iw.nil _) a n cap A rfl HA.out (World.grownBy.refl _ _) hn ha0 (by omega) (Nat.le_refl _) ?_)
 intro v1 w1 xs1 ho1 hi1 hg1
 have HO1 := hid_intro ho1
 have HI1 := hid_intro hi1
 have HG1 : Hid (w.grownBy w1 none) := hg1
 have hsz := hg1.size
 clear ho1 hi1 hg1
 try rw [Nat.zero_add] at HO1
 go_wp2_with (at_builtin; refine wpList_append_il (w0 := w) rfl _ _ rfl w.heap.size v1 n xs1 A rfl HO1.out HI1.out b m d B rfl HB.out HG1.out hm hb0 (by omega) hsz ?_)
 intro v2 w2 xs2 ho2 hi2 hg2
 have HG2 := hid_intro (grown_own9 HG1.out HO1.out (Nat.le_refl _) hg2)
 obtain ⟨a2, cap2, e1, e2, e3⟩ := hi2.il HG2.out ho2
 subst e1
 have HM := hid_intro e2
 clear ho2 hi2 hg2 e2 e3 HO1 HI1 HG1
 go_wp2_with fail
 refine (refSize_any a2 (n + m) cap2 (A ++ B) _ HM.out HN.out hs HK.out).mono ?_
 rintro en w3 ⟨rfl, hq⟩
 have HG3 := hid_intro (grown_trans HG2.out (hq.qt.grown none))
 clear hq HG2
 go_wp2
 go_ret
 exact ⟨rfl, HG3.out⟩
set_option maxHeartbeats 2000000 in
set_option maxRecDepth 100000 in
theorem refJoinBranches_any (a : Option Addr) (n cap : Nat) (A : List (List Int)) (so : Option Addr) (sn sc : Nat) (S : List Int) (b : Option Addr) (m d : Nat) (B : List (List Int)) (w : World) (ha : Lz w a A) (hn : A.length = n) (ha0 : a = none → cap = 0) (hS : Byt w so sn sc S) (hs1 : sn ≤ sc) (hs2 : sc ≤ 9223372036854775807) (hb : Lz w b B) (hm : B.length = m) (hb0 : b = none → d = 0)
  (hs : n + m ≤ 4900) (hk : ∀ x ∈ A ++ ([S] ++ B), x.length ≤ 140737488351240) :
  Calls Try.prog 16 #[.slice a n cap, .slice so sn sc, .slice b m d] w fun en w' => en = .returned (.bool (decide (bsize (A ++ ([S] ++ B)) ≤ 3000))) ∧ w.grownBy w' none := by
 obtain ⟨i0, hi, hz0, hz1, hz2⟩ := info_parts info_bytesS
 have hdec : decide (bsize (A ++ ([S] ++ B)) ≤ 3000) = decide (((bsize (A ++ ([S] ++ B)) : Nat) : Int) ≤ 3000) := by congr 1; apply propext; omega
 rw [hdec]
 have HA := hid_intro ha
 have HB := hid_intro hb
 have HS := hid_intro hS
 have HK := hid_intro hk
 have hlen : (A ++ ([S] ++ B)).length = n + 1 + m := by rw [List.length_append, List.length_append, hn, hm]; simp; omega
 have HN := hid_intro hlen
 clear ha hb hk hdec hlen hS
 go_enter Try.func16, Try.ntmps16
 go_wp2_with (at_builtin; refine wpList_append_lz (w0 := w) rfl _ _ rfl w.heap.size (.slice none 0 0) 0 [] [] rfl ⟨rfl, .inl ⟨rfl, rfl⟩⟩ (Sw.nil _) a n cap A rfl HA.out (World.grownBy.refl _ _) hn ha0 (by omega) (Nat.le_refl _) ?_)
 intro v1 w1 xs1 ho1 hi1 hg1
 have HO1 := hid_intro ho1
 have HI1 := hid_intro hi1
 have HG1 : Hid (w.grownBy w1 none) := hg1
 have hsz := hg1.size
 clear ho1 hi1 hg1
 try rw [Nat.zero_add] at HO1
 go_wp2_with (at_builtin; refine wpList_append_own _ rfl _ _ 23 rfl w.heap.size 26 i0 (.slice none 0 0) 1 24 Try.underlying23 hi hz0 hz1 hz2 rfl (by decide) v1 n xs1 rfl (HO1.out.alloc _) ⟨w1.heap.size, 0, none⟩ 1 1 [.slice so sn sc] rfl rfl (cell_one_new _ _ _) (by intro u hu; simp at hu; subst hu; rfl) (by unfold maxLen; omega) (by omega) (by simp; omega) ?_)
 intro v2 w2 ho2 hg2 _
 have HG2 := hid_intro (grown_own9 (grown_trans HG1.out (World.grownBy_alloc w1 (.cells #[.slice so sn sc] 26) none)) (HO1.out.alloc (.cells #[.slice so sn sc] 26)) (Nat.le_refl _) hg2)
 have HO2 := hid_intro ho2
 have HI2 := hid_intro (HI1.out.snoc HS.out hs1 hs2)
 have hsz2 := HG2.out.size
 clear ho2 hg2 HO1 HI1 HG1
 go_wp2_with (at_builtin; refine wpList_append_lz (w0 := w) rfl _ _ rfl w.heap.size v2 (n + 1) (xs1 ++ [.slice so sn sc]) (A ++ [S]) rfl HO2.out HI2.out b m d B rfl HB.out HG2.out hm hb0 (by omega) hsz2 ?_)
 intro v3 w3 xs3 ho3 hi3 hg3
 have HG3 := hid_intro (grown_own9 HG2.out HO2.out (Nat.le_refl _) hg3)
 obtain ⟨a2, cap2, e1, e2, e3, e4, e5⟩ := hi3.lz HG3.out ho3
 subst e1
 have HM : Hid (Lz w3 a2 (A ++ ([S] ++ B))) := by
  show Lz w3 a2 _
  have e6 := e2
  exact e6
 clear ho3 hi3 hg3 e2 e3 HO2 HI2 HG2
 go_wp2_with fail
 refine (refSize5_any a2 (n + 1 + m) cap2 (A ++ ([S] ++ B)) _ HM.out HN.out (by omega) HK.out).mono ?_
 rintro en w4 ⟨rfl, hq⟩
 have HG4 := hid_intro (grown_trans HG3.out (hq.grown none))
 clear hq HG3
 go_wp2
 go_ret
 exact ⟨rfl, HG4.out⟩
end Go.Proofs.Ytoakngmagoilnaa
