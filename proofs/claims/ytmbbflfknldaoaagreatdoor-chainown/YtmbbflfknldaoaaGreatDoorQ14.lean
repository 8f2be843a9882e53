import Derived.Test.YtmbbflfknldaoaaGreatDoorQ13
import Derived.Deep.CutBlock
import Derived.Test.YtmbbflfknldaoaaGreatDoorQ9
namespace Go.Proofs.YtmbbflfknldaoaaGreatDoor
open Go.RowKit
set_option maxHeartbeats 1000000 in
set_option maxRecDepth 100000 in
theorem number6_any (x d : Nat) (w : World) (hd : d ≤ 4) :
  Calls Tryz.prog 37 #[.int .i64 x, .int .i64 d] w fun e w' => ∃ ao c, e = .returned (.slice ao d c) ∧ Byt w' ao d c (lb d x) ∧ w.grownBy w' none := by
 go_enter Tryz.func37, Tryz.ntmps37
 go_wp2
 go_loopw [5, 6] (fun out si wr => ∃ (k : Nat), k ≤ d ∧ si = .int .i64 k ∧ wr.ownsRow w.heap.size 5 1 out k ((lb k x).map (Value.int .u8)) ∧ w.grownBy wr none) (fun _ si _ => d - (intOf si).toNat)
 case atStart => exact ⟨0, by omega, rfl, World.ownsRow_nil _ _ _ _, World.grownBy.refl _ _⟩
 case round =>
  obtain ⟨k, hk, rfl, hown, hg⟩ := hrel
  by_cases hlt : k < d
  ·go_wp2_with (at_builtin; refine wpList_append_byt rfl _ _ rfl w.heap.size _ k (lb k x) rfl (hown.alloc _) (some ⟨wr.heap.size, 0, none⟩) 1 1 [(x : Int) / 2 ^ (8 * k) % 256] rfl (Byt.lit wr 5 _ [(x : Int) / 2 ^ (8 * k) % 256] 1 rfl rfl) (by omega) (by have := hg.size; simp; omega) ?_)
   intro v' w1 h1 h2
   have hg2 := grown_own hg hown (Nat.le_refl _) h2
   have hown2 : w1.ownsRow w.heap.size 5 1 v' (k + 1) ((lb (k + 1) x).map (Value.int .u8)) := by
    rw [lb_snoc, List.map_append, ← shift_byte]
    simpa using h1
   clear h1 h2 hown
   go_wp2
   go_roundw
   case rel => exact ⟨k + 1, by omega, by go_num, hown2, hg2⟩
   case measure => simp [intOf]; omega
  ·have hkd : k = d := by omega
   subst hkd
   obtain ⟨ao', cap', hv, hB⟩ := owns_any hown
   subst hv
   have HB := hid_intro hB
   have HG := hid_intro hg
   clear hB hown hg
   go_wp2
   go_ret
   exact ⟨_, _, rfl, HB.out, HG.out⟩
theorem number_at (X : Int) (x d : Nat) (w : World) (hX : X = (x : Int)) (hd : d ≤ 4) :
  Calls Tryz.prog 37 #[.int .i64 X, .int .i64 d] w fun e w' => ∃ ao c, e = .returned (.slice ao d c) ∧ Byt w' ao d c (lb d x) ∧ w.grownBy w' none := by
 subst hX
 exact number6_any x d w hd
theorem own_kept6 {w w' : World} {base n sz : Nat} {e : TypeId} {v : Value} {xs : List Value} (h : w.ownsRow base e sz v n xs) (hg : w.grownBy w' none) : w'.ownsRow base e sz v n xs :=
 h.kept hg (by cases v.ownBlock with | none => exact .inl rfl | some g => exact .inr (by simp))
theorem own_lt6 {w : World} {base n sz : Nat} {e : TypeId} {v : Value} {xs : List Value} (h : w.ownsRow base e sz v n xs) (g : Nat) (hv : v.ownBlock = some g) : base ≤ g := (h.lt g hv).1
theorem grown_own6 {a b c : World} {base n sz : Nat} {e : TypeId} {v : Value} {xs : List Value} (h : a.grownBy b none) (k : b.grownBy c v.ownBlock) (ho : b.ownsRow base e sz v n xs) (hb : a.heap.size ≤ base) : a.grownBy c none :=
 grown_ownN h k (fun g hg => Nat.le_trans hb (own_lt6 ho g hg))
set_option maxHeartbeats 1000000 in
set_option maxRecDepth 100000 in
theorem body_any (kd x n : Nat) (ro : Option Addr) (m rc : Nat) (zs : List Int) (w : World) (hb : Byt w ro m rc zs) (hm : m ≤ 4085) (hk : kd < 256) :
  Calls Tryz.prog 32 #[.int .i64 kd, .int .i64 x, .int .i64 n, .slice ro m rc] w fun e w' => ∃ ao c, e = .returned (.slice ao 4092 c) ∧ Byt w' ao 4092 c (hd kd x n ++ (zs ++ List.replicate (4085 - m) 0)) ∧ w.grownBy w' none := by
 have HB := hid_intro hb
 have hl := hb.len
 clear hb
 have hwk : IntKind.u8.wrap (kd : Int) = (kd : Int) := by simp [IntKind.wrap, IntKind.bits, IntKind.signed]; omega
 have HO : Hid ((w.alloc (.cells #[.int .u8 (kd : Int)] 5)).ownsRow w.heap.size 5 1 (.slice (some ⟨w.heap.size, 0, none⟩) 1 1) 1 ([(kd : Int)].map (Value.int .u8))) :=
  ⟨rfl, .inr ⟨w.heap.size, 1, #[.int .u8 (kd : Int)], rfl, Nat.le_refl _, heap_alloc_new w _, Nat.le_refl _, by decide, rfl, rfl⟩⟩
 have G1 := hid_intro (World.grownBy_alloc w (.cells #[.int .u8 (kd : Int)] 5) none)
 go_enter Tryz.func32, Tryz.ntmps32
 go_wp2_with fail
 generalize w.alloc (.cells #[.int .u8 (kd : Int)] 5) = w1 at *
 refine (number6_any x 4 w1 (by omega)).mono ?_
 rintro en w2 ⟨a2, c2, rfl, hb2, hg2⟩
 have O2 := hid_intro (own_kept6 HO.out hg2)
 have G2 := hid_intro (grown_trans G1.out hg2)
 have B2 := hid_intro hb2
 clear hg2 hb2 HO G1
 go_wp2_with (at_builtin; refine wpList_append_byt rfl _ _ rfl w.heap.size _ 1 [(kd : Int)] rfl O2.out a2 4 c2 (lb 4 x) rfl B2.out (by omega) G2.out.size ?_)
 intro v3 w3 h3 g3
 have G3 := hid_intro (grown_own6 G2.out g3 O2.out (Nat.le_refl _))
 have O3 := hid_intro h3
 clear h3 g3 O2 G2 B2
 go_wp2_with fail
 refine (number6_any n 2 w3 (by omega)).mono ?_
 rintro en w4 ⟨a4, c4, rfl, hb4, hg4⟩
 have O4 := hid_intro (own_kept6 O3.out hg4)
 have G4 := hid_intro (grown_trans G3.out hg4)
 have B4 := hid_intro hb4
 clear hg4 hb4 O3 G3
 go_wp2_with (at_builtin; refine wpList_append_byt rfl _ _ rfl w.heap.size _ 5 ([(kd : Int)] ++ lb 4 x) rfl O4.out a4 2 c4 (lb 2 n) rfl B4.out (by omega) G4.out.size ?_)
 intro v5 w5 h5 g5
 have G5 := hid_intro (grown_own6 G4.out g5 O4.out (Nat.le_refl _))
 have h5' : w5.ownsRow w.heap.size 5 1 v5 7 ((hd kd x n).map (Value.int .u8)) := by
  have e : hd kd x n = [(kd : Int)] ++ lb 4 x ++ lb 2 n := by simp [hd]
  rw [e]
  exact h5
 have O5 := hid_intro h5'
 have B5 := hid_intro (HB.out.keptN G5.out)
 clear h5 h5' g5 O4 G4 B4 HB
 go_wp2_with (at_builtin; refine wpList_append_byt rfl _ _ rfl w.heap.size _ 7 (hd kd x n) rfl O5.out ro m rc zs rfl B5.out (by omega) G5.out.size ?_)
 intro v6 w6 h6 g6
 have G6 := hid_intro (grown_own6 G5.out g6 O5.out (Nat.le_refl _))
 have h6' : w6.ownsRow w.heap.size 5 1 v6 (7 + m + 0) ((hd kd x n ++ (zs ++ List.replicate 0 0)).map (Value.int .u8)) := by
  rw [List.replicate_zero, List.append_nil]
  exact h6
 have O6 := hid_intro h6'
 clear h6 h6' g6 O5 G5 B5
 go_wp2
 go_loopw [9] (fun out wr => ∃ k : Nat, 7 + m + k ≤ 4092 ∧ wr.ownsRow w.heap.size 5 1 out (7 + m + k) ((hd kd x n ++ (zs ++ List.replicate k 0)).map (Value.int .u8)) ∧ w.grownBy wr none) (fun out _ => 4092 - (match out with | .slice _ l _ => l | _ => 0))
 case atStart => exact ⟨0, by omega, O6.out, G6.out⟩
 case round =>
  obtain ⟨k, hk', ho, hg⟩ := hrel
  obtain ⟨ao, c, hv, hB⟩ := owns_any ho
  subst hv
  by_cases hlt : 7 + m + k < 4092
  ·have hg1 := World.grownBy_alloc wr (.cells #[.int .u8 0] 5) none
   have HBL := hid_intro (Byt.lit wr 5 _ [0] 1 rfl rfl)
   have O7 := hid_intro (ho.alloc (.cells #[.int .u8 0] 5))
   have G7 := hid_intro (grown_trans hg hg1)
   have HOO := hid_intro ho
   have HGG := hid_intro hg
   obtain ⟨N, hN⟩ : ∃ N, N = 7 + m + k := ⟨_, rfl⟩
   rw [← hN] at O7 hlt hB hk' HOO ⊢
   have HNN := hid_intro hN
   clear hg1 ho hg hB hN
   have hlt2 : (N : Int) < 4092 := by omega
   go_wp2_with (at_builtin; refine wpList_append_byt rfl _ _ rfl w.heap.size _ N (hd kd x n ++ (zs ++ List.replicate k 0)) rfl O7.out (some ⟨wr.heap.size, 0, none⟩) 1 1 [0] rfl HBL.out (by omega) G7.out.size ?_)
   intro v8 w8 h8 g8
   have hg8 := grown_own HGG.out HOO.out (Nat.le_refl _) g8
   have h8' : w8.ownsRow w.heap.size 5 1 v8 (N + 1) ((hd kd x n ++ (zs ++ List.replicate (k + 1) 0)).map (Value.int .u8)) := by
    rw [List.replicate_succ', List.map_append, List.map_append, List.map_append, List.map_replicate]
    exact h8
   have O8 := hid_intro h8'
   have G8 := hid_intro hg8
   obtain ⟨ao8, c8, hv8, _⟩ := owns_any h8'
   subst hv8
   clear h8 h8' g8 hg8 O7 G7 HBL
   go_wp2
   go_roundw
   case rel =>
    refine ⟨k + 1, by have := HNN.out; omega, ?_, G8.out⟩
    rw [← Nat.add_assoc, ← HNN.out]
    exact O8.out
   case measure => simp; omega
  ·have hkk : k = 4085 - m := by omega
   have hN : 7 + m + k = 4092 := by omega
   rw [hN] at hB
   rw [hN]
   subst hkk
   have HBB := hid_intro hB
   have HGG := hid_intro hg
   clear hB ho hg hk' hN hlt
   go_wp2
   go_ret
   exact ⟨_, _, rfl, HBB.out, HGG.out⟩
theorem body_at (X : Int) (kd x n : Nat) (ro : Option Addr) (m rc : Nat) (zs : List Int) (w : World) (hX : X = (x : Int)) (hb : Byt w ro m rc zs) (hm : m ≤ 4085) (hk : kd < 256) :
  Calls Tryz.prog 32 #[.int .i64 kd, .int .i64 X, .int .i64 n, .slice ro m rc] w fun e w' => ∃ ao c, e = .returned (.slice ao 4092 c) ∧ Byt w' ao 4092 c (hd kd x n ++ (zs ++ List.replicate (4085 - m) 0)) ∧ w.grownBy w' none := by
 subst hX
 exact body_any kd x n ro m rc zs w hb hm hk
def gd (xs : List Int) (i : Nat) : Prop := ∀ j, j < i → inR (xs.getD j 0) = true ∧ (0 < j → xs.getD (j - 1) 0 < xs.getD j 0)
theorem inR_lo {x : Int} (h : x < 2) : inR x = false := by unfold inR; rw [decide_eq_false (by omega)]; rfl
theorem inR_hi {x : Int} (h : 524286 < x) : inR x = false := by unfold inR; rw [decide_eq_false (p := x ≤ 524286) (by omega), Bool.and_false]
theorem inR_in {x : Int} (h1 : ¬ x < 2) (h2 : ¬ 524286 < x) : inR x = true := inR_iff.2 ⟨by omega, by omega⟩
theorem gd_all {xs : List Int} (h : gd xs xs.length) : xs.all inR = true ∧ ris xs = true := by
 refine ⟨List.all_eq_true.2 fun x hx => ?_, ris_true fun j hj => ?_⟩
 ·obtain ⟨j, hj, rfl⟩ := List.getElem_of_mem hx
  have := (h j hj).1
  simpa [List.getD, List.getElem?_eq_getElem hj] using this
 ·exact (h (j + 1) hj).2 (by omega)
theorem gd_next {xs : List Int} {i : Nat} (h : gd xs i) (h1 : inR (xs.getD i 0) = true) (h2 : 0 < i → xs.getD (i - 1) 0 < xs.getD i 0) : gd xs (i + 1) := by
 intro j hj
 by_cases e : j = i
 ·subst e; exact ⟨h1, h2⟩
 ·exact h j (by omega)
set_option maxHeartbeats 2000000 in
set_option maxRecDepth 100000 in
theorem refEncodeList_any (x : Int) (ao : Option Addr) (n cap : Nat) (xs : List Int) (w : World) (hb : Nt w ao xs) (hl : xs.length = n) (hn : n ≤ 9223372036854775806) :
  Calls Tryz.prog 15 #[.int .i64 x, .slice ao n cap] w fun en w' => ∃ bo m c, en = .returned (.tuple #[.slice bo m c, .int .i64 (eL x xs)]) ∧ Byt w' bo m c (oL x xs) ∧ w.grownBy w' none := by
 have HB := hid_intro hb
 clear hb
 cases hk : nOk x with
 | false =>
  have e : Hid (eL x xs = 51) := by show _ = _; unfold eL; rw [if_pos hk]
  have e2 : Hid (oL x xs = []) := oL_no (by rw [e.out]; decide)
  clear hl
  go_enter Tryz.func15, Tryz.ntmps15
  go_wp2_with fail
  refine (refKid6_any x _).mono ?_
  rintro en w ⟨rfl, rfl⟩
  rw [hk]
  go_wp2
  go_ret2
  rw [e.out, e2.out]
  exact ⟨none, 0, 0, rfl, Byt.empty _, World.grownBy.refl _ _⟩
 | true =>
  have HBD : Hid (badL x xs = (cnt x n 1021 || (!(xs.all inR) || !(ris xs)))) := by show _ = _; rw [← hl]; rfl
  have EB : Hid (badL x xs = true → eL x xs = 63) := fun h => by unfold eL; rw [if_neg (by rw [hk]; decide), if_pos h]
  have EO : Hid (badL x xs = true → oL x xs = []) := fun h => oL_no (by rw [EB.out h]; decide)
  cases hc : cnt x n 1021 with
  | true =>
   have e : Hid (eL x xs = 63) := EB.out (by rw [HBD.out, hc]; rfl)
   have e2 : Hid (oL x xs = []) := EO.out (by rw [HBD.out, hc]; rfl)
   simp only [cnt, Bool.or_eq_true, decide_eq_true_eq, Bool.and_eq_true] at hc
   by_cases h2 : 1021 < n
   ·have h2' : (1021 : Int) < (n : Int) := by omega
    clear hc hl HBD EB EO
    go_enter Tryz.func15, Tryz.ntmps15
    go_wp2_with fail
    refine (refKid6_any x _).mono ?_
    rintro en w ⟨rfl, rfl⟩
    rw [hk]
    go_wp2
    go_ret2
    rw [e.out, e2.out]
    exact ⟨none, 0, 0, rfl, Byt.empty _, World.grownBy.refl _ _⟩
   ·have h3 : x ≠ 0 := by omega
    have h3a : (x != 0) = true := by simp [h3]
    have h3b : (x == 0) = false := by simp [h3]
    have h2' : ¬ (1021 : Int) < (n : Int) := by omega
    have h4' : ((n : Int) != 1021) = true := by simp; omega
    have h4b : ((n : Int) == 1021) = false := by simp; omega
    clear hc hl HBD EB EO
    go_enter Tryz.func15, Tryz.ntmps15
    go_wp2_with fail
    refine (refKid6_any x _).mono ?_
    rintro en w ⟨rfl, rfl⟩
    rw [hk]
    go_wp2
    go_ret2
    rw [e.out, e2.out]
    exact ⟨none, 0, 0, rfl, Byt.empty _, World.grownBy.refl _ _⟩
  | false =>
   have hm : n ≤ 1021 := by simp only [cnt, Bool.or_eq_false_iff, decide_eq_false_iff_not] at hc; omega
   have hx1021 : x = 0 ∨ n = 1021 := by
    simp only [cnt, Bool.or_eq_false_iff, decide_eq_false_iff_not, Bool.and_eq_false_iff, Decidable.not_not] at hc
    omega
   have h2' : ¬ (1021 : Int) < (n : Int) := by omega
   have HBAD : Hid (xs.all inR = false ∨ ris xs = false → badL x xs = true) := by
    rintro (h | h)
    ·rw [HBD.out, hc, h]; rfl
    ·rw [HBD.out, hc, h]; simp
   have HGOOD : Hid (gd xs n → eL x xs = 0) := fun h => by
    rw [← hl] at h
    have := gd_all h
    unfold eL
    rw [if_neg (by rw [hk]; decide), if_neg (by rw [HBD.out, hc, this.1, this.2]; decide)]
   clear HBD hc
   have hdec : ((x == 0) = true ∧ (x != 0) = false) ∨ ((x == 0) = false ∧ (x != 0) = true ∧ ((n : Int) == 1021) = true ∧ ((n : Int) != 1021) = false) := by
    by_cases h3 : x = 0
    ·left; simp [h3]
    ·right; have : n = 1021 := by omega
     simp [h3, this]
   clear hx1021
   obtain ⟨y, hy, hy2⟩ := nOk_nat hk
   have HY := hid_intro hy
   clear hy
   rcases hdec with ⟨f1, f2⟩ | ⟨f1, f2, f3, f4⟩
   all_goals
    go_enter Tryz.func15, Tryz.ntmps15
    go_wp2_with fail
    refine (refKid6_any x _).mono ?_
    rintro en w ⟨rfl, rfl⟩
    rw [hk]
    go_wp2
    go_loopw [7, 8] (fun out si wr => ∃ i : Nat, i ≤ n ∧ si = .int .i64 i ∧ wr.ownsRow w.heap.size 5 1 out (4 * i) ((fl (xs.take i)).map (Value.int .u8)) ∧ gd xs i ∧ w.grownBy wr none) (fun _ si _ => n - (intOf si).toNat)
    case atStart => exact ⟨0, Nat.zero_le _, rfl, World.ownsRow_nil _ _ _ _, fun j hj => by omega, World.grownBy.refl _ _⟩
    case round =>
     obtain ⟨i, hi, rfl, ho, hgd, hg⟩ := hrel
     have O1 := hid_intro ho
     have GD := hid_intro hgd
     have G1 := hid_intro hg
     clear hgd hg
     by_cases hlt : i < n
     ·obtain ⟨b, off, rfl, c0⟩ := (HB.out.keptN G1.out).row i (by omega)
      obtain ⟨sb, sc, hv0, _⟩ := owns_any ho
      subst hv0
      clear ho
      have HN0 := hid_intro (nall_no (xs := xs) (i := i) (by omega))
      have HNX := hid_intro (gd_next GD.out)
      have HTK := hid_intro (ntake (xs := xs) (i := i) (by omega))
      by_cases h1 : xs.getD i 0 < 2
      ·have hbad := HBAD.out (.inl (HN0.out (inR_lo h1)))
       have E1 := hid_intro (EB.out hbad)
       have E2 := hid_intro (EO.out hbad)
       clear hbad HN0 HNX HTK
       generalize xs.getD i 0 = v at *
       have d1 : decide (v < 2) = true := decide_eq_true h1
       go_wp2
       go_quiet (fail)
       go_wp2
       go_ret2
       rw [E1.out, E2.out]
       exact ⟨none, 0, 0, rfl, Byt.empty _, grown_trans G1.out ((Qt.drewN _ _).grown none)⟩
      ·by_cases h2 : 524286 < xs.getD i 0
       ·have hbad := HBAD.out (.inl (HN0.out (inR_hi h2)))
        have E1 := hid_intro (EB.out hbad)
        have E2 := hid_intro (EO.out hbad)
        clear hbad HN0 HNX HTK
        generalize xs.getD i 0 = v at *
        have d1 : decide (v < 2) = false := decide_eq_false h1
        have d2 : decide (524286 < v) = true := decide_eq_true h2
        go_wp2
        go_quiet (fail)
        go_wp2
        go_ret2
        rw [E1.out, E2.out]
        exact ⟨none, 0, 0, rfl, Byt.empty _, grown_trans G1.out ((Qt.drewN _ _).grown none)⟩
       ·have HIN := hid_intro (inR_in h1 h2)
        obtain ⟨vn, hvn⟩ : ∃ vn : Nat, xs.getD i 0 = (vn : Int) := ⟨(xs.getD i 0).toNat, by omega⟩
        have HVN := hid_intro hvn
        clear hvn
        have d1 : decide (xs.getD i 0 < 2) = false := decide_eq_false h1
        have d2 : decide (524286 < xs.getD i 0) = false := decide_eq_false h2
        by_cases h3 : 0 < i
        ·obtain ⟨u, hu⟩ : ∃ u, u = xs.getD (i - 1) 0 := ⟨_, rfl⟩
         have q1 := (HB.out.keptN G1.out).at (i - 1) (by omega)
         rw [← hu] at q1
         have d3 : decide ((0 : Int) < (i : Int)) = true := decide_eq_true (by omega)
         have d3' : decide (0 < i) = true := decide_eq_true h3
         have ix : (i : Int) - 1 = ((i - 1 : Nat) : Int) := by omega
         by_cases h4 : xs.getD i 0 ≤ u
         ·have hbad := HBAD.out (.inr (ris_false (j := i - 1) (by omega) (by rw [show i - 1 + 1 = i by omega, ← hu]; omega)))
          have E1 := hid_intro (EB.out hbad)
          have E2 := hid_intro (EO.out hbad)
          clear hbad HN0 HNX HTK HIN HVN hu
          generalize xs.getD i 0 = v at *
          have d4 : decide (v ≤ u) = true := decide_eq_true h4
          go_wp2
          go_quiet (fail)
          go_wp2
          go_ret2
          rw [E1.out, E2.out]
          exact ⟨none, 0, 0, rfl, Byt.empty _, grown_trans G1.out ((Qt.drewN _ _).grown none)⟩
         ·have NX := hid_intro (HNX.out HIN.out (fun _ => by rw [← hu]; omega))
          clear HN0 HNX HIN hu
          generalize xs.getD i 0 = v at *
          have d4 : decide (v ≤ u) = false := decide_eq_false h4
          go_wp2
          go_quiet (fail)
          go_wp2_with fail
          refine (number_at _ vn 4 _ HVN.out (by omega)).mono ?_
          rintro en w2 ⟨a2, c2, rfl, hb2, hg2⟩
          have GD2 := hid_intro (grown_trans ((Qt.drewN _ _).grown none) hg2)
          have O2 := hid_intro (own_kept6 O1.out GD2.out)
          have G2 := hid_intro (grown_trans G1.out GD2.out)
          have B2 := hid_intro hb2
          clear hb2 hg2 O1 G1
          go_wp2_with (at_builtin; refine wpList_append_byt rfl _ _ rfl w.heap.size _ (4 * i) (fl (xs.take i)) rfl O2.out a2 4 c2 (lb 4 vn) rfl B2.out (by omega) G2.out.size ?_)
          intro v3 w3 h3 g3
          have G3 := hid_intro (grown_own6 G2.out g3 O2.out (Nat.le_refl _))
          have h3' : w3.ownsRow w.heap.size 5 1 v3 (4 * (i + 1)) ((fl (xs.take (i + 1))).map (Value.int .u8)) := by
           rw [HTK.out, fl_app, fl_cons, fl_nil, List.append_nil, HVN.out, Int.toNat_natCast, List.map_append]
           exact h3
          have O3 := hid_intro h3'
          obtain ⟨ao3, c3, hv3, _⟩ := owns_any h3'
          subst hv3
          clear h3 h3' g3 O2 G2 B2
          go_wp2
          go_roundw
          case rel => exact ⟨i + 1, by omega, by go_num, O3.out, NX.out, G3.out⟩
          case measure => simp [intOf]; omega
        ·have NX := hid_intro (HNX.out HIN.out (fun h => absurd h h3))
         clear HN0 HNX HIN
         have d3 : decide ((0 : Int) < (i : Int)) = false := decide_eq_false (by omega)
         have d3' : decide (0 < i) = false := decide_eq_false h3
         generalize xs.getD i 0 = v at *
         go_wp2
         go_quiet (fail)
         go_wp2_with fail
         refine (number_at _ vn 4 _ HVN.out (by omega)).mono ?_
         rintro en w2 ⟨a2, c2, rfl, hb2, hg2⟩
         have GD2 := hid_intro (grown_trans ((Qt.drewN _ _).grown none) hg2)
         have O2 := hid_intro (own_kept6 O1.out GD2.out)
         have G2 := hid_intro (grown_trans G1.out GD2.out)
         have B2 := hid_intro hb2
         clear hb2 hg2 O1 G1
         go_wp2_with (at_builtin; refine wpList_append_byt rfl _ _ rfl w.heap.size _ (4 * i) (fl (xs.take i)) rfl O2.out a2 4 c2 (lb 4 vn) rfl B2.out (by omega) G2.out.size ?_)
         intro v3 w3 h3 g3
         have G3 := hid_intro (grown_own6 G2.out g3 O2.out (Nat.le_refl _))
         have h3' : w3.ownsRow w.heap.size 5 1 v3 (4 * (i + 1)) ((fl (xs.take (i + 1))).map (Value.int .u8)) := by
          rw [HTK.out, fl_app, fl_cons, fl_nil, List.append_nil, HVN.out, Int.toNat_natCast, List.map_append]
          exact h3
         have O3 := hid_intro h3'
         obtain ⟨ao3, c3, hv3, _⟩ := owns_any h3'
         subst hv3
         clear h3 h3' g3 O2 G2 B2
         go_wp2
         go_roundw
         case rel => exact ⟨i + 1, by omega, by go_num, O3.out, NX.out, G3.out⟩
         case measure => simp [intOf]; omega
     ·have hin : i = n := by omega
      obtain ⟨sb, sc, hv0, hB⟩ := owns_any ho
      subst hv0
      clear ho O1
      subst hin
      have E1 := hid_intro (HGOOD.out GD.out)
      have hB' : Byt wr sb (4 * i) sc (fl xs) := by
       have := hB
       rw [← hl, List.take_length] at this
       rw [← hl]
       exact this
      have B1 := hid_intro hB'
      have E2 : Hid (oL x xs = hd 4 y i ++ (fl xs ++ List.replicate (4085 - 4 * i) 0)) := by
       show _ = _
       rw [oL_yes E1.out, HY.out, Int.toNat_natCast]
       unfold lB
       rw [hl]
      clear hB hB' HGOOD EB EO HBAD
      go_wp2_with fail
      refine (body_at x 4 y i sb (4 * i) sc (fl xs) _ HY.out B1.out (by omega) (by omega)).mono ?_
      rintro en w2 ⟨bo, c, rfl, hb2, hg2⟩
      have B2 := hid_intro hb2
      have G2 := hid_intro (grown_trans G1.out hg2)
      clear hb2 hg2
      go_wp2
      go_ret2
      rw [E1.out, E2.out]
      exact ⟨_, _, _, rfl, B2.out, G2.out⟩
theorem cell_one6 (w : World) (t : TypeId) (v : Value) : ∀ j u, [v][j]? = some u → (w.alloc (.cells #[v] t)).cell? ((⟨w.heap.size, 0, none⟩ : Addr).add j) = some u := by
 intro j u hu
 cases j with
 | zero =>
  simp only [List.getElem?_cons_zero, Option.some.injEq] at hu
  subst hu
  rw [Addr.add_lit]
  have := cell_of_row (w.alloc (.cells #[v] t)) w.heap.size 0 _ t (0, 0) (heap_alloc_new w _)
  rw [this]; rfl
 | succ j => simp at hu
theorem info_bytes6 : (Tryz.prog.info? 22).map (fun i => (i.zero, i.size, i.bytes)) = some (some (.slice none 0 0), 1, 24) := by kernel_rfl
structure Pr (w : World) (G n i base : Nat) (zs : List Int) : Prop where
 ex : ∃ cur : Array Value, w.heap[G]? = some (.cells cur 22 (0, 0)) ∧ cur.size = n ∧ ∀ j, j < i → ∃ g, cur[j]? = some (.slice (some ⟨g, 0, none⟩) (pc zs j).length (pc zs j).length) ∧ base ≤ g ∧ g ≠ G ∧ Rw w g (pc zs j)
theorem Pr.lt {w : World} {G n i base : Nat} {zs : List Int} (h : Pr w G n i base zs) : G < w.heap.size := by
 obtain ⟨cur, h1, _⟩ := h.ex
 exact (Array.getElem?_eq_some_iff.1 h1).1
theorem Pr.keptN {w w' : World} {G n i base : Nat} {zs : List Int} (h : Pr w G n i base zs) (hg : w.grownBy w' none) : Pr w' G n i base zs := by
 have hl := h.lt
 obtain ⟨cur, h1, h2, h3⟩ := h.ex
 refine ⟨cur, (hg.block G hl (by simp)).trans h1, h2, fun j hj => ?_⟩
 obtain ⟨g, k1, k2, k3, k4⟩ := h3 j hj
 exact ⟨g, k1, k2, k3, k4.keptN hg⟩
theorem Pr.frozen {w : World} {G n i base : Nat} {zs : List Int} (h : Pr w G n i base zs) (j : Nat) : w.frozen? ⟨G, j, none⟩ = false := by
 obtain ⟨cur, h1, _⟩ := h.ex
 exact frozen_of_row w G j _ _ h1
theorem Pr.cell {w : World} {G n i base : Nat} {zs : List Int} (h : Pr w G n i base zs) (j : Nat) (hj : j < n) : ∃ v, w.cell? ⟨G, j, none⟩ = some v := by
 obtain ⟨cur, h1, h2, _⟩ := h.ex
 exact ⟨cur[j]'(by omega), by rw [cell_of_row w G j _ _ _ h1]; exact Array.getElem?_eq_getElem (by omega)⟩
theorem Pr.set {w : World} {G n i base g k : Nat} {zs : List Int} (h : Pr w G n i base zs) (hi : i < n) (hk : (pc zs i).length = k) (hr : Rw w g (pc zs i)) (hg : g ≠ G) (hb : base ≤ g) :
  Pr (w.setCell ⟨G, i, none⟩ (.slice (some ⟨g, 0, none⟩) k k)) G n (i + 1) base zs := by
 subst hk
 obtain ⟨cur, h1, h2, h3⟩ := h.ex
 refine ⟨cur.setIfInBounds i _, heap_setCell_same w G i cur _ _ h1, by simpa using h2, fun j hj => ?_⟩
 by_cases e : i = j
 ·subst e
  exact ⟨g, by simp [h2, hi], hb, hg, hr.kept (grown_cell w G i _) (fun e => hg (Option.some.inj e))⟩
 ·obtain ⟨g', k1, k2, k3, k4⟩ := h3 j (by omega)
  exact ⟨g', by rw [Array.getElem?_setIfInBounds_ne e]; exact k1, k2, k3, k4.kept (grown_cell w G i _) (fun e => k3 (Option.some.inj e))⟩
theorem Pr.start {w : World} {base b G n : Nat} {xs : List Value} {zs : List Int} (h : w.ownsRow base 22 1 (.slice (some ⟨G, 0, none⟩) n n) n xs) : Pr w G n 0 b zs := by
 rcases h.2 with ⟨e, _⟩ | ⟨g', cap', cur, hv, hb, hg, hc, hm, hs, ht⟩
 ·cases e
 ·injection hv with e1 _ e3
  simp only [Option.some.injEq, Addr.mk.injEq] at e1
  obtain ⟨rfl, _⟩ := e1
  subst e3
  exact ⟨cur, hg, by simpa using hs, fun j hj => by omega⟩
theorem Pr.lz {w : World} {G n base : Nat} {zs : List Int} (h : Pr w G n n base zs) : Lz w (some ⟨G, 0, none⟩) (pcs zs n) := by
 obtain ⟨cur, h1, h2, h3⟩ := h.ex
 refine ⟨fun i hi => ?_⟩
 rw [pcs_len] at hi
 obtain ⟨g, k1, k2, k3, k4⟩ := h3 i hi
 refine ⟨G, 0, _, _, _, rfl, by rw [Nat.zero_add, cell_of_row w G i _ _ _ h1]; exact k1, ?_, Nat.le_refl _, ?_⟩
 ·rw [pcs_get zs n i hi]; exact k4.all _ _ rfl
 ·rw [pc_len]; omega
theorem byt_part {w : World} {ao : Option Addr} {n c : Nat} {zs : List Int} (h : Byt w ao n c zs) {b off : Nat} (e : ao = some ⟨b, off, none⟩) (p k c' : Nat) (hk : p + k ≤ n) : Byt w (some ⟨b, off + p, none⟩) k c' ((zs.drop p).take k) := by
 subst e
 have := (h.drop p c' (by omega)).take k c' (by omega) (fun e => by cases e)
 exact this
set_option maxHeartbeats 2000000 in
set_option maxRecDepth 100000 in
theorem refPieces_any (ao : Option Addr) (n cap : Nat) (zs : List Int) (w : World) (hb : Byt w ao n cap zs) (hc : n ≤ cap ∧ cap ≤ 9223372036854775807) :
  Calls Tryz.prog 9 #[.slice ao n cap] w fun en w' => ∃ a c, en = .returned (.slice a (pg n) c) ∧ Lz w' a (pcs zs (pg n)) ∧ w.grownBy w' none := by
 obtain ⟨i0, hi, hz0, hz1, hz2⟩ := info_parts info_bytes6
 have hl := hb.len
 have HB := hid_intro hb
 clear hb
 have HPG := hid_intro (pgI_nat n)
 obtain ⟨N, hN⟩ : ∃ N, N = pg n := ⟨_, rfl⟩
 rw [← hN] at HPG ⊢
 have hN65 : N ≤ 65 := by rw [hN]; exact pg_le n
 have HIN : Hid (∀ i, i < N → 4085 * i < n ∧ n ≤ 262144) := fun i h => by rw [hN] at h; exact ⟨(pg_in h).2.2, (pg_in h).2.1⟩
 clear hN
 go_enter Tryz.func9, Tryz.ntmps9
 go_wp2_with fail
 refine (refPages_any _ _).mono ?_
 rw [HPG.out]
 rintro en w ⟨rfl, rfl⟩
 go_wp2
 go_loopw [3, 5, 6, 7, 8] (fun out si _ _ _ wr => ∃ (i : Nat) (ys : List Value), i ≤ N ∧ si = .int .i64 i ∧ wr.ownsRow w.heap.size 22 1 out i ys ∧ Sx wr ys (pcs zs i) ∧ w.grownBy wr none) (fun _ si _ _ _ _ => N - (intOf si).toNat)
 case atStart => exact ⟨0, [], Nat.zero_le _, rfl, World.ownsRow_nil _ _ _ _, Sx.nil _, World.grownBy.refl _ _⟩
 case round =>
  obtain ⟨i, ys, hi', rfl, ho, hs, hg⟩ := hrel
  have OI := hid_intro ho
  have SI := hid_intro hs
  have GI := hid_intro hg
  obtain ⟨ro, rc, hv0, hlz, hln, _, _⟩ := hs.lz ho
  subst hv0
  clear ho hs hg
  by_cases hlt : i < N
  ·clear hlz hln
   obtain ⟨hin, hbig⟩ := HIN.out i hlt
   obtain ⟨b, off, hao, _, _⟩ := HB.out.at (by omega)
   subst hao
   obtain ⟨k, hk⟩ : ∃ k, k = min 4085 (n - 4085 * i) := ⟨_, rfl⟩
   have HK : Hid ((pc zs i).length = k) := by show _ = _; rw [pc_len, hl, hk]
   have hk2 : k ≤ 4085 := by omega
   have hk3 : 4085 * i + k ≤ n := by omega
   have hk0 : 0 < k := by omega
   have HPC : Hid ((zs.drop (4085 * i)).take k = pc zs i) := by
    show _ = _
    unfold pc
    by_cases h : k = 4085
    ·rw [h]
    ·rw [List.take_of_length_le (by rw [List.length_drop]; omega), List.take_of_length_le (by rw [List.length_drop]; omega)]
   obtain ⟨T, hT⟩ : ∃ T, T = 4085 * i + k := ⟨_, rfl⟩
   have hmin : ∀ (ts : Array TypeId) (ty : TypeId) (W : World), (Builtin.min_ ts ty #[.int .i64 ((i : Int) * 4085 + 4085), .int .i64 (n : Int)]).run Tryz.prog W = .ok (.int .i64 (T : Int)) W := by
    intro ts ty W
    rw [run_min_int2, hT, hk]
    congr 2
    split <;> omega
   obtain ⟨F, hF⟩ : ∃ F : Nat, F = 4085 * i := ⟨_, rfl⟩
   rw [← hF] at hT HPC hin hk3
   have hF2 : (i : Int) * 4085 = (F : Int) := by omega
   rw [hF2] at hmin
   clear hk
   have BI := hid_intro (HB.out.keptN GI.out)
   have CI : Hid (Byt wr (some ⟨b, off + F, none⟩) k (cap - F) (pc zs i)) := by
    have := byt_part BI.out rfl F k (cap - F) (by omega)
    rw [HPC.out] at this
    exact this
   have hTF : F + k = T := by omega
   have HTF : Hid (T - F = k) := by show _ = _; omega
   have hTn : T ≤ n := by omega
   clear hT hF
   have HF2 := hid_intro hF2
   go_wp2_with fail
   rw [HTF.out]
   refine (refBytes_any _ k (cap - F) (pc zs i) _ CI.out (by omega)).mono ?_
   rintro en w3 ⟨rfl, ho3, hg3, _⟩
   have O3 := hid_intro (own_kept6 OI.out hg3)
   have S3 := hid_intro (SI.out.keptN hg3)
   have G3 := hid_intro (grown_trans GI.out hg3)
   have X3 := hid_intro ho3
   have HPS := hid_intro (pcs_snoc zs i)
   clear ho3 hg3 OI SI GI BI CI
   go_wp2_with (at_builtin; refine wpList_append_own _ rfl _ _ 26 rfl w.heap.size 22 i0 (.slice none 0 0) 1 24 Tryz.underlying26 hi hz0 hz1 hz2 rfl (by decide) _ i ys rfl (O3.out.alloc _) ⟨w3.heap.size, 0, none⟩ 1 1 [.slice (some ⟨wr.heap.size, 0, none⟩) k k] rfl rfl (cell_one6 _ _ _) (by intro u hu; simp at hu; subst hu; rfl) (by unfold maxLen; omega) (by omega) (by have := G3.out.size; simp; omega) ?_)
   intro v4 w4 h4 g4 _
   have ga := World.grownBy_alloc w3 (.cells #[.slice (some ⟨wr.heap.size, 0, none⟩) k k] 22) none
   have O3' := own_kept6 O3.out ga
   have S4 := hid_intro ((Sx.snoc (S3.out.keptN ga) (own_kept6 X3.out ga) HK.out).kept g4 O3')
   have O4 := hid_intro h4
   have G4 := hid_intro (grown_ownN (grown_trans G3.out ga) g4 (fun g hg => own_lt6 O3.out g hg))
   clear h4 g4 ga O3' O3 S3 G3 X3
   go_wp2
   go_roundw
   case rel => exact ⟨i + 1, _, by omega, by go_num, O4.out, by rw [HPS.out]; exact S4.out, G4.out⟩
   case measure => simp [intOf]; omega
  ·have hin : i = N := by omega
   subst hin
   have LZ := hid_intro hlz
   clear hlz OI SI
   go_wp2
   go_ret
   exact ⟨_, _, rfl, LZ.out, GI.out⟩
def marks : List Int := (List.range 40).map fun i => ((47 + 11 * i : Nat) : Int) % 256
theorem marks_len : marks.length = 40 := by simp [marks]
theorem marks_snoc {i : Nat} (h : i < 40) : marks.take (i + 1) = marks.take i ++ [((47 + 11 * i : Nat) : Int) % 256] := by
 have hl : i < marks.length := by rw [marks_len]; exact h
 rw [List.take_add_one, List.getElem?_eq_getElem hl]
 have : marks[i] = ((47 + 11 * i : Nat) : Int) % 256 := by unfold marks; simp
 rw [this]
 rfl
theorem marks_all : marks.take 40 = marks := List.take_of_length_le (by rw [marks_len]; omega)
set_option maxHeartbeats 2000000 in
set_option maxRecDepth 100000 in
theorem roomy6_any (ao : Option Addr) (n c : Nat) (zs : List Int) (w : World) (hb : Byt w ao n c zs) (hn : n ≤ 20000) :
  Calls Tryz.prog 5 #[.slice ao n c] w fun en w' => ∃ g cap, en = .returned (.slice (some ⟨g, 0, none⟩) (n + 40) cap) ∧ Ow w' g cap (zs ++ marks) ∧ w.heap.size ≤ g ∧ w.grownBy w' none := by
 have HB := hid_intro hb
 clear hb
 go_enter Tryz.func5, Tryz.ntmps5
 go_wp2_with fail
 refine (refBytes_any ao n c zs w HB.out (by omega)).mono ?_
 rintro en w1 ⟨rfl, ho, hg, hs⟩
 have O1 := hid_intro ho
 have G1 := hid_intro hg
 clear ho hg
 go_wp2
 go_loopw [3, 4] (fun sl si wr => ∃ i : Nat, i ≤ 40 ∧ si = .int .i64 i ∧ wr.ownsRow w.heap.size 5 1 sl (n + i) ((zs ++ marks.take i).map (Value.int .u8)) ∧ w.grownBy wr none) (fun _ si _ => 40 - (intOf si).toNat)
 case atStart => exact ⟨0, by omega, rfl, by rw [List.take_zero, List.append_nil]; exact O1.out, G1.out⟩
 case round =>
  obtain ⟨i, hi, rfl, ho, hg⟩ := hrel
  have OO := hid_intro ho
  have GG := hid_intro hg
  by_cases hlt : i < 40
  ·have HM := hid_intro (marks_snoc hlt)
   have hg0 := hg.size
   clear ho hg
   obtain ⟨v, hv⟩ : ∃ v : Int, ((47 + 11 * i : Nat) : Int) % 256 = v := ⟨_, rfl⟩
   have hw : (47 + 11 * (i : Int)) % 256 = v := by omega
   rw [hv] at HM
   clear hv
   go_wp2_with (at_builtin; refine wpList_append_byt rfl _ _ rfl w.heap.size _ (n + i) (zs ++ marks.take i) rfl (OO.out.alloc _) (some ⟨wr.heap.size, 0, none⟩) 1 1 [v] (by simp [Act.eval]) (Byt.lit wr 5 _ [v] 1 rfl (by simp)) (by omega) (by simp; omega) ?_)
   intro v' w' ho' hg'
   have O2 : Hid (w'.ownsRow w.heap.size 5 1 v' (n + (i + 1)) ((zs ++ marks.take (i + 1)).map (Value.int .u8))) := by
    show World.ownsRow _ _ _ _ _ _ _
    rw [HM.out, ← Nat.add_assoc]
    simpa using ho'
   have G2 := hid_intro (grown_own GG.out OO.out (Nat.le_refl _) hg')
   clear ho' hg' OO GG
   go_wp2
   go_roundw
   case rel => exact ⟨i + 1, by omega, by go_num, O2.out, G2.out⟩
   case measure => simp [intOf]; omega
  ·have : i = 40 := by omega
   subst this
   rw [marks_all] at ho
   obtain ⟨g, cap, rfl, _, _, _⟩ := owns_shape ho (by omega)
   obtain ⟨h1, _, h3, _⟩ := Ow.of_owns ho
   have X := hid_intro h1
   have Y := hid_intro h3
   clear h1 h3 ho hg OO
   go_wp2
   go_ret
   exact ⟨g, cap, rfl, X.out, Y.out, GG.out⟩
structure Pq (w : World) (G n i base : Nat) (zs : List Int) : Prop where
 ex : ∃ (cur : Array Value) (gf : Nat → Nat), w.heap[G]? = some (.cells cur 22 (0, 0)) ∧ cur.size = n ∧ (∀ j, j < i → cur[j]? = some (.slice (some ⟨gf j, 0, none⟩) (pc zs j).length (pc zs j).length) ∧ base ≤ gf j ∧ gf j ≠ G ∧ Rw w (gf j) (pc zs j)) ∧ ∀ j j', j < j' → j' < i → gf j < gf j'
theorem Pq.pr {w : World} {G n i base : Nat} {zs : List Int} (h : Pq w G n i base zs) : Pr w G n i base zs := by
 obtain ⟨cur, gf, h1, h2, h3, _⟩ := h.ex
 exact ⟨cur, h1, h2, fun j hj => ⟨gf j, h3 j hj⟩⟩
theorem Pq.lt {w : World} {G n i base : Nat} {zs : List Int} (h : Pq w G n i base zs) : G < w.heap.size := h.pr.lt
theorem Pq.frozen {w : World} {G n i base : Nat} {zs : List Int} (h : Pq w G n i base zs) (j : Nat) : w.frozen? ⟨G, j, none⟩ = false := h.pr.frozen j
theorem Pq.cell {w : World} {G n i base : Nat} {zs : List Int} (h : Pq w G n i base zs) (j : Nat) (hj : j < n) : ∃ v, w.cell? ⟨G, j, none⟩ = some v := h.pr.cell j hj
theorem Pq.keptN {w w' : World} {G n i base : Nat} {zs : List Int} (h : Pq w G n i base zs) (hg : w.grownBy w' none) : Pq w' G n i base zs := by
 have hl := h.lt
 obtain ⟨cur, gf, h1, h2, h3, h4⟩ := h.ex
 exact ⟨cur, gf, (hg.block G hl (by simp)).trans h1, h2, fun j hj => ⟨(h3 j hj).1, (h3 j hj).2.1, (h3 j hj).2.2.1, (h3 j hj).2.2.2.keptN hg⟩, h4⟩
theorem Pq.start {w : World} {base b G n : Nat} {xs : List Value} {zs : List Int} (h : w.ownsRow base 22 1 (.slice (some ⟨G, 0, none⟩) n n) n xs) : Pq w G n 0 b zs := by
 obtain ⟨cur, h1, h2, _⟩ := (Pr.start (b := b) (zs := zs) h).ex
 exact ⟨cur, fun _ => 0, h1, h2, fun j hj => by omega, fun j j' _ hj => by omega⟩
theorem Pq.next {w w' : World} {G n i base k : Nat} {zs : List Int} (h : Pq w G n i base zs) (hi : i < n) (hk : (pc zs i).length = k) (hg : w.grownBy w' none) (hr : Rw w' w.heap.size (pc zs i)) (hgG : w.heap.size ≠ G) (hb : base ≤ w.heap.size) :
  Pq (w'.setCell ⟨G, i, none⟩ (.slice (some ⟨w.heap.size, 0, none⟩) k k)) G n (i + 1) base zs := by
 subst hk
 have hl : ∀ (cur : Array Value) (gf : Nat → Nat), (∀ j, j < i → cur[j]? = some (Value.slice (some ⟨gf j, 0, none⟩) (pc zs j).length (pc zs j).length) ∧ base ≤ gf j ∧ gf j ≠ G ∧ Rw w (gf j) (pc zs j)) → ∀ j, j < i → gf j < w.heap.size := fun cur gf h3 j hj => (h3 j hj).2.2.2.lt
 obtain ⟨cur, gf, h1, h2, h3, h4⟩ := h.ex
 have hlt := hl cur gf h3
 have h1' := (hg.block G h.lt (by simp)).trans h1
 refine ⟨cur.setIfInBounds i (.slice (some ⟨w.heap.size, 0, none⟩) (pc zs i).length (pc zs i).length), fun j => if j = i then w.heap.size else gf j, heap_setCell_same w' G i cur _ _ h1', by simpa using h2, fun j hj => ?_, fun j j' hj hj' => ?_⟩
 ·by_cases e : j = i
  ·subst e
   simp only [if_true]
   exact ⟨by simp [h2, hi], hb, hgG, hr.kept (grown_cell w' G j _) (fun e => hgG (Option.some.inj e))⟩
  ·simp only [if_neg e]
   obtain ⟨k1, k2, k3, k4⟩ := h3 j (by omega)
   exact ⟨by rw [Array.getElem?_setIfInBounds_ne (fun e' => e e'.symm)]; exact k1, k2, k3, (k4.keptN hg).kept (grown_cell w' G i _) (fun e => k3 (Option.some.inj e))⟩
 ·by_cases e : j' = i
  ·simp only [if_pos e, if_neg (show j ≠ i by omega)]
   exact hlt j (by omega)
  ·simp only [if_neg e, if_neg (show j ≠ i by omega)]
   exact h4 j j' hj (by omega)
set_option maxHeartbeats 2000000 in
set_option maxRecDepth 100000 in
theorem pieces_own (ao : Option Addr) (n cap : Nat) (zs : List Int) (w : World) (hb : Byt w ao n cap zs) (hc : n ≤ cap ∧ cap ≤ 9223372036854775807) :
  Calls Tryz.prog 7 #[.slice ao n cap] w fun en w' => en = .returned (.slice (some ⟨w.heap.size, 0, none⟩) (pg n) (pg n)) ∧ Pq w' w.heap.size (pg n) (pg n) w.heap.size zs ∧ w.grownBy w' none := by
 obtain ⟨i0, hi, hz0, hz1, hz2⟩ := info_parts info_bytes6
 have hl := hb.len
 have HB := hid_intro hb
 clear hb
 have HPG := hid_intro (pgI_nat n)
 obtain ⟨N, hN⟩ : ∃ N, N = pg n := ⟨_, rfl⟩
 rw [← hN] at HPG ⊢
 have hN65 : N ≤ 65 := by rw [hN]; exact pg_le n
 have HIN : Hid (∀ i, i < N → 4085 * i < n ∧ n ≤ 262144) := fun i h => by rw [hN] at h; exact ⟨(pg_in h).2.2, (pg_in h).2.1⟩
 clear hN
 go_enter Tryz.func7, Tryz.ntmps7
 go_wp2_with fail
 refine (pages_any _ _).mono ?_
 rw [HPG.out]
 rintro en w ⟨rfl, rfl⟩
 go_wp2_with (at_make; refine wpList_make_full _ rfl _ _ 26 rfl w.heap.size 22 i0 (.slice none 0 0) 1 Tryz.underlying26 hi hz0 hz1 _ _ _ _ N rfl rfl rfl rfl ?b2 ?b3 (Nat.le_refl _) ?_)
 case b2 => rw [hz2]; omega
 case b3 => unfold maxLen; omega
 intro w1 hown hg1
 have P1 := hid_intro (Pq.start (b := w.heap.size) (zs := zs) hown)
 have G1 := hid_intro hg1
 clear hown hg1
 go_wp2
 go_loopw [4, 5, 12] (fun _ _ si wr => ∃ i : Nat, i ≤ N ∧ si = .int .i64 i ∧ Pq wr w.heap.size N i w.heap.size zs ∧ w.grownBy wr none) (fun _ _ si _ => N - (intOf si).toNat)
 case atStart => exact ⟨0, Nat.zero_le _, rfl, P1.out, G1.out⟩
 case round =>
  obtain ⟨i, hi', rfl, hp, hg⟩ := hrel
  have PI := hid_intro hp
  have GI := hid_intro hg
  clear hp hg P1 G1
  by_cases hlt : i < N
  ·obtain ⟨hin, hbig⟩ := HIN.out i hlt
   obtain ⟨b, off, hao, _, _⟩ := HB.out.at (by omega)
   subst hao
   obtain ⟨k, hk⟩ : ∃ k, k = min 4085 (n - 4085 * i) := ⟨_, rfl⟩
   have HK : Hid ((pc zs i).length = k) := by show _ = _; rw [pc_len, hl, hk]
   have hk2 : k ≤ 4085 := by omega
   have hk3 : 4085 * i + k ≤ n := by omega
   have hk0 : 0 < k := by omega
   have HPC : Hid ((zs.drop (4085 * i)).take k = pc zs i) := by
    show _ = _
    unfold pc
    by_cases h : k = 4085
    ·rw [h]
    ·rw [List.take_of_length_le (by rw [List.length_drop]; omega), List.take_of_length_le (by rw [List.length_drop]; omega)]
   have hmin : ∀ (ts : Array TypeId) (ty : TypeId) (W : World), (Builtin.min_ ts ty #[.int .i64 4085, .int .i64 ((n : Int) - (i : Int) * 4085)]).run Tryz.prog W = .ok (.int .i64 (k : Int)) W := by
    intro ts ty W
    rw [run_min_int2, hk]
    congr 2
    split <;> omega
   clear hk
   have BI := hid_intro (HB.out.keptN GI.out)
   go_wp2_with fail
   refine (cut_at b off n cap (4085 * i) k _ _ (by omega) (by omega) (by omega)).mono ?_
   rintro en wr ⟨⟨q, rfl, hq⟩, rfl⟩
   have hq := hq hk0
   rw [hq]
   clear hq
   have CI : Hid (Byt wr (some ⟨b, off + 4085 * i, none⟩) k k (pc zs i)) := by
    have := byt_part BI.out rfl (4085 * i) k k (by omega)
    rw [HPC.out] at this
    exact this
   go_wp2_with fail
   refine (copyOf_any _ k k (pc zs i) _ CI.out (by omega)).mono ?_
   rintro en w3 ⟨rfl, hr3, hg3⟩
   have HG3 := hid_intro hg3
   have P3 := hid_intro (PI.out.keptN hg3)
   have G3 := hid_intro (grown_trans GI.out hg3)
   have R3 := hid_intro hr3
   have HPL := hid_intro PI.out.lt
   have HSZ := hid_intro GI.out.size
   clear hr3 hg3 GI BI CI
   have f2 := P3.out.frozen i
   obtain ⟨v2, e2⟩ := P3.out.cell i hlt
   go_wp2
   go_roundw
   case rel => exact ⟨i + 1, by omega, by go_num, PI.out.next hlt HK.out HG3.out R3.out (by have := HPL.out; omega) HSZ.out, grown_new G3.out (grown_cell _ _ _ _) (Nat.le_refl _)⟩
   case measure => simp [intOf]; omega
  ·have hin : i = N := by omega
   subst hin
   go_wp2
   go_ret
   exact ⟨rfl, PI.out, GI.out⟩
set_option maxHeartbeats 2000000 in
set_option maxRecDepth 100000 in
theorem decodeData_own (ao : Option Addr) (n cap : Nat) (zs : List Int) (w : World) (hb : Byt w ao n cap zs) (hbt : Bt zs) :
  Calls Tryz.prog 18 #[.slice ao n cap] w fun en w' => ∃ bo m, en = .returned (.tuple #[.int .i64 (vN zs), .slice bo m m, .int .i64 (vE zs)]) ∧ Byt w' bo m m (vD zs) ∧ (0 < m → bo = some ⟨w.heap.size, 7, none⟩ ∧ ∃ cur, w'.heap[w.heap.size]? = some (.cells cur 5 (0, 0))) ∧ w.grownBy w' none := by
 have hl := hb.len
 have HB := hid_intro hb
 clear hb
 by_cases h0 : n = 4092
 ·subst h0
  have hrd := sB_rD hl
  have HRB := hid_intro (rD_bt hbt)
  have HIF := hid_intro (dD_iff hl)
  obtain ⟨x, hx⟩ : ∃ x, x = rN zs := ⟨_, rfl⟩
  obtain ⟨c, hc⟩ : ∃ c, c = rC zs := ⟨_, rfl⟩
  have HX := hid_intro hx
  have HC := hid_intro hc
  rw [← hc] at hrd
  have HRD := hid_intro hrd
  clear hx hc hrd
  go_enter Tryz.func18, Tryz.ntmps18
  go_wp2_with fail
  refine (newReader_any ao 4092 cap zs _ HB.out (by omega)).mono ?_
  rintro en w1 ⟨R, rfl, hr1, hg1, hs1⟩
  have B1 := hid_intro (HB.out.keptN hg1)
  have HLT : Hid (∀ ad, ao = some ad → 0 < 4092 → ad.block < w.heap.size) := fun ad h1 h2 => HB.out.lt h1 h2
  have G1 := hid_intro hg1
  clear hg1
  go_wp2_with fail
  refine (readHead_any R w.heap.size zs _ hr1 hbt hl).mono ?_
  rw [← HX.out, ← HC.out]
  rintro en w2 ⟨rfl, hr2, hg2⟩
  have B2 := hid_intro (B1.out.kept hg2 (fun ad h1 h2 e => by have := HLT.out ad h1 (by omega); have := Option.some.inj e; omega))
  have G2 := hid_intro (grown_new G1.out hg2 (by omega))
  clear hg2 hr1 G1 B1
  go_wp2_with fail
  refine (rd_B R w.heap.size zs (7, 0) (c : Int) _ hr2).mono ?_
  rw [HRD.out]
  rintro en w3 ⟨⟨bo, k, rfl, hb3, hp3, hk3⟩, hr3, hg3⟩
  have U3 : Hid (∃ cur, w3.heap[w.heap.size]? = some (.cells cur 5 (0, 0))) := by obtain ⟨cur, hc, _⟩ := hr3.row; exact ⟨cur, hc⟩
  clear hr3
  have B3 := hid_intro (B2.out.kept hg3 (fun ad h1 h2 e => by have := HLT.out ad h1 (by omega); have := Option.some.inj e; omega))
  have G3 := hid_intro (grown_new G2.out hg3 (by omega))
  have D3 := hid_intro hb3
  have hk := hb3.len
  have P3 := hid_intro hp3
  clear hg3 hr2 G2 B2 hb3 hp3
  go_wp2_with fail
  refine (encodeData_any (x : Int) bo k k (rD zs) _ D3.out (by omega)).mono ?_
  rintro en w4 ⟨so, m, rfl, hb4, _, hg4⟩
  have B4 := hid_intro (B3.out.keptN hg4)
  have G4 := hid_intro (grown_trans G3.out hg4)
  have D4 := hid_intro (D3.out.keptN hg4)
  have U4 : Hid (∃ cur, w4.heap[w.heap.size]? = some (.cells cur 5 (0, 0))) := by obtain ⟨cur, hc⟩ := U3.out; exact ⟨cur, (hg4.block _ (Array.getElem?_eq_some_iff.1 hc).1 (by simp)).trans hc⟩
  clear U3
  have S4 := hid_intro hb4
  rw [← hk]
  obtain ⟨er, her⟩ : ∃ er, er = eD (x : Int) (rD zs).length := ⟨_, rfl⟩
  rw [← her]
  have HER := hid_intro her
  have HK := hid_intro hk
  clear hg4 G3 B3 D3 hb4 her hk
  by_cases he : er = 0
  ·subst he
   by_cases hq : oD (x : Int) (rD zs) = zs
   ·have HT : Hid (dD zs = true) := HIF.out.2 ⟨by rw [← HX.out]; exact HER.out.symm, by rw [← HX.out]; exact hq⟩
    have HQ := hid_intro hq
    clear hq
    go_wp2_with fail
    refine (equal_yes so ao m 4092 m cap _ _ _ S4.out B4.out HQ.out).mono ?_
    rintro en w5 ⟨rfl, rfl⟩
    go_wp2
    go_ret3
    rw [(v_yes HT.out).1, (v_yes HT.out).2.1, (v_yes HT.out).2.2, ← HX.out]
    exact ⟨bo, k, by rw [HK.out]; rfl, D4.out, fun h0 => ⟨P3.out h0, U4.out⟩, G4.out⟩
   ·have HT : Hid (dD zs = false) := by
     cases hh : dD zs with
     | false => rfl
     | true => exact absurd (by rw [HX.out]; exact (HIF.out.1 hh).2) hq
    have HQ := hid_intro hq
    clear hq
    go_wp2_with fail
    refine (equal_no so ao m 4092 m cap _ _ _ S4.out B4.out (oD_bt HRB.out) hbt HQ.out).mono ?_
    rintro en w5 ⟨rfl, rfl⟩
    go_wp2
    go_ret3
    rw [(v_no HT.out).1, (v_no HT.out).2.1, (v_no HT.out).2.2]
    exact ⟨none, 0, rfl, Byt.empty _, fun h => by omega, G4.out⟩
  ·have HT : Hid (dD zs = false) := by
    cases hh : dD zs with
    | false => rfl
    | true => exact absurd (by rw [HER.out, HX.out]; exact (HIF.out.1 hh).1) he
   have he2 : (er == 0) = false := by simp [he]
   have he3 : (er != 0) = true := by simp [he]
   go_wp2
   go_ret3
   rw [(v_no HT.out).1, (v_no HT.out).2.1, (v_no HT.out).2.2]
   exact ⟨none, 0, rfl, Byt.empty _, fun h => by omega, G4.out⟩
 ·have HT : Hid (dD zs = false) := by show _ = _; simp [dD, hl, h0]
  have h0' : ¬ (n : Int) = 4092 := by omega
  go_enter Tryz.func18, Tryz.ntmps18
  go_wp2
  go_ret3
  rw [(v_no HT.out).1, (v_no HT.out).2.1, (v_no HT.out).2.2]
  exact ⟨none, 0, rfl, Byt.empty _, fun h => by omega, World.grownBy.refl _ _⟩
set_option maxHeartbeats 1000000 in
set_option maxRecDepth 100000 in
theorem refEncodeData_any (x : Int) (ao : Option Addr) (n cap : Nat) (zs : List Int) (w : World) (hb : Byt w ao n cap zs) (hn : n ≤ 9223372036854775807) :
  Calls Tryz.prog 12 #[.int .i64 x, .slice ao n cap] w fun en w' => ∃ bo m c, en = .returned (.tuple #[.slice bo m c, .int .i64 (eD x n)]) ∧ Byt w' bo m c (oD x zs) ∧ w.grownBy w' none := by
 have hl := hb.len
 have HB := hid_intro hb
 clear hb
 cases hk : nOk x with
 | false =>
  have e : Hid (eD x n = 51) := by show _ = _; unfold eD; rw [if_pos hk]
  have e2 : Hid (oD x zs = []) := oD_no (by rw [hl, e.out]; decide)
  clear hl
  go_enter Tryz.func12, Tryz.ntmps12
  go_wp2_with fail
  refine (refKid6_any x _).mono ?_
  rintro en w ⟨rfl, rfl⟩
  rw [hk]
  go_wp2
  go_ret2
  rw [e.out, e2.out]
  exact ⟨none, 0, 0, rfl, Byt.empty _, World.grownBy.refl _ _⟩
 | true =>
  cases hc : (decide (n = 0) || cnt x n 4085) with
  | true =>
   have e : Hid (eD x n = 62) := by show _ = _; unfold eD; rw [if_neg (by rw [hk]; decide), if_pos hc]
   have e2 : Hid (oD x zs = []) := oD_no (by rw [hl, e.out]; decide)
   clear hl
   simp only [cnt, Bool.or_eq_true, decide_eq_true_eq, Bool.and_eq_true] at hc
   by_cases h1 : n < 1
   ·go_enter Tryz.func12, Tryz.ntmps12
    go_wp2_with fail
    refine (refKid6_any x _).mono ?_
    rintro en w ⟨rfl, rfl⟩
    rw [hk]
    have h1' : (n : Int) < 1 := by omega
    clear hc
    go_wp2
    go_ret2
    rw [e.out, e2.out]
    exact ⟨none, 0, 0, rfl, Byt.empty _, World.grownBy.refl _ _⟩
   ·by_cases h2 : 4085 < n
    ·go_enter Tryz.func12, Tryz.ntmps12
     go_wp2_with fail
     refine (refKid6_any x _).mono ?_
     rintro en w ⟨rfl, rfl⟩
     rw [hk]
     have h1' : ¬ (n : Int) < 1 := by omega
     have h2' : (4085 : Int) < (n : Int) := by omega
     clear hc
     go_wp2
     go_ret2
     rw [e.out, e2.out]
     exact ⟨none, 0, 0, rfl, Byt.empty _, World.grownBy.refl _ _⟩
    ·have h3 : x ≠ 0 := by omega
     have h4 : n < 4085 := by omega
     have h3a : (x != 0) = true := by simp [h3]
     have h3b : (x == 0) = false := by simp [h3]
     have h1' : ¬ (n : Int) < 1 := by omega
     have h2' : ¬ (4085 : Int) < (n : Int) := by omega
     have h4' : ((n : Int) != 4085) = true := by simp; omega
     have h4b : ((n : Int) == 4085) = false := by simp; omega
     clear hc
     go_enter Tryz.func12, Tryz.ntmps12
     go_wp2_with fail
     refine (refKid6_any x _).mono ?_
     rintro en w ⟨rfl, rfl⟩
     rw [hk]
     go_wp2
     go_ret2
     rw [e.out, e2.out]
     exact ⟨none, 0, 0, rfl, Byt.empty _, World.grownBy.refl _ _⟩
  | false =>
   have e : Hid (eD x n = 0) := by show _ = _; unfold eD; rw [if_neg (by rw [hk]; decide), if_neg (by rw [hc]; simp)]
   have e2 : Hid (oD x zs = dB x.toNat zs) := oD_yes (by rw [hl, e.out])
   obtain ⟨_, h0, hm, _⟩ := eD_zero e.out
   obtain ⟨y, hy, hy2⟩ := nOk_nat hk
   subst hy
   have e2 : Hid (oD y zs = dB y zs) := e2
   have HD : Hid (dB y zs = hd 3 y n ++ (zs ++ List.replicate (4085 - n) 0)) := by show _ = _; unfold dB; rw [hl]
   simp only [cnt, Bool.or_eq_false_iff, decide_eq_false_iff_not, Bool.and_eq_false_iff, Decidable.not_not] at hc
   have h1' : ¬ (n : Int) < 1 := by omega
   have h2' : ¬ (4085 : Int) < (n : Int) := by omega
   by_cases h3 : y = 0
   ·subst h3
    clear hc hl
    go_enter Tryz.func12, Tryz.ntmps12
    go_wp2_with fail
    refine (refKid6_any _ _).mono ?_
    rintro en w ⟨rfl, rfl⟩
    rw [show nOk 0 = true from rfl]
    go_wp2_with fail
    refine (body_any 3 0 n ao n cap zs _ HB.out (by omega) (by omega)).mono ?_
    rintro en w2 ⟨bo, c, rfl, hb2, hg2⟩
    have B2 := hid_intro hb2
    have G2 := hid_intro hg2
    clear hb2 hg2
    go_wp2
    go_ret2
    rw [e.out, e2.out, HD.out]
    exact ⟨_, _, _, rfl, B2.out, G2.out⟩
   ·have h4 : n = 4085 := by omega
    have h3a : ((y : Int) != 0) = true := by simp [h3]
    have h3b : ((y : Int) == 0) = false := by simp [h3]
    have h4' : ((n : Int) != 4085) = false := by simp; omega
    have h4b : ((n : Int) == 4085) = true := by simp; omega
    have H4 := hid_intro h4
    clear hc hl h4
    go_enter Tryz.func12, Tryz.ntmps12
    go_wp2_with fail
    refine (refKid6_any _ _).mono ?_
    rintro en w ⟨rfl, rfl⟩
    rw [hk]
    go_wp2_with fail
    refine (body_any 3 y n ao n cap zs _ HB.out (by omega) (by omega)).mono ?_
    rintro en w2 ⟨bo, c, rfl, hb2, hg2⟩
    have B2 := hid_intro hb2
    have G2 := hid_intro hg2
    clear hb2 hg2
    go_wp2
    go_ret2
    rw [e.out, e2.out, HD.out]
    exact ⟨_, _, _, rfl, B2.out, G2.out⟩
end Go.Proofs.YtmbbflfknldaoaaGreatDoor
