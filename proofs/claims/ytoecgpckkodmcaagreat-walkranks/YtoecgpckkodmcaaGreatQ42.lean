import Derived.Test.YtoecgpckkodmcaaGreatQ31
namespace Go.Proofs.YtoecgpckkodmcaaGreat
open Go.RowKit
set_option maxHeartbeats 1000000 in
set_option maxRecDepth 100000 in
theorem samePair11 (a1 b1 a2 b2 : Option Addr) (n1 m1 c1 d1 c2 d2 : Nat) (k v : List Int) (w : World) (h1 : Byt w a1 n1 c1 k) (h2 : Byt w b1 m1 d1 v) (h3 : Byt w a2 n1 c2 k) (h4 : Byt w b2 m1 d2 v) :
  Calls Tryz.prog 29 #[.agg #[.slice a1 n1 c1, .slice b1 m1 d1], .agg #[.slice a2 n1 c2, .slice b2 m1 d2]] w fun en w' => en = .returned (.bool true) ∧ w.grownBy w' none := by
 have ga := World.grownBy_alloc w (.cells #[.slice a1 n1 c1, .slice b1 m1 d1] 38) none
 have gb := grown_trans ga (World.grownBy_alloc (w.alloc (.cells #[.slice a1 n1 c1, .slice b1 m1 d1] 38)) (.cells #[.slice a2 n1 c2, .slice b2 m1 d2] 38) none)
 have HG := hid_intro gb
 have HC1 := hid_intro (same_yes a1 a2 n1 n1 c1 c2 k k _ (h1.keptN gb) (h3.keptN gb) rfl)
 have HC2 := hid_intro (same_yes b1 b2 m1 m1 d1 d2 v v _ (h2.keptN gb) (h4.keptN gb) rfl)
 clear h1 h2 h3 h4 ga gb
 go_enter Tryz.func29, Tryz.ntmps29
 go_wp2_with fail
 refine HC1.out.mono ?_
 rintro en w2 ⟨rfl, hw2⟩
 subst hw2
 go_wp2_with fail
 refine HC2.out.mono ?_
 rintro en w3 ⟨rfl, hw3⟩
 subst hw3
 go_wp2
 go_ret
 exact ⟨rfl, HG.out⟩
set_option maxHeartbeats 4000000 in
set_option maxRecDepth 100000 in
theorem samePairs11 (a b : Option Addr) (n c d : Nat) (L : List PrT) (w : World) (h1 : MpW w a n c L) (h2 : MpW w b n d L) (h0 : n ≤ 100000000) :
  Calls Tryz.prog 21 #[.slice a n c, .slice b n d] w fun en w' => en = .returned (.bool true) ∧ w.grownBy w' none := by
 have HL := hid_intro h1
 have HK := hid_intro h2
 have HN := hid_intro h1.1
 clear h1 h2
 have g0 : ((n : Int) == (n : Int)) = true := by simp
 go_enter Tryz.func21, Tryz.ntmps21
 go_wp2
 go_loopw [5, 6] (fun si _ wr => ∃ i : Nat, i ≤ n ∧ si = .int .i64 (i : Nat) ∧ w.grownBy wr none) (fun si _ _ => n - (intOf si).toNat)
 case atStart => exact ⟨0, Nat.zero_le _, rfl, World.grownBy.refl _ _⟩
 case round =>
  obtain ⟨i, hi, rfl, hg⟩ := hrel
  have HG := hid_intro hg
  clear hg
  by_cases hlt : i < n
  ·obtain ⟨p, hp⟩ : ∃ p, L[i]? = some p := ⟨_, List.getElem?_eq_getElem (by have := HN.out; omega)⟩
   obtain ⟨b1, off1, ao1, c1, bo1, d1, rfl, q1, q2, q3, q5⟩ := HL.out.get hp
   obtain ⟨b2, off2, ao2, c2, bo2, d2, rfl, r1, r2, r3, r5⟩ := HK.out.get hp
   have HSP := hid_intro (fun (W : World) (hW : W.heap = wr.heap) => samePair11 ao1 bo1 ao2 bo2 _ _ c1 d1 c2 d2 p.key p.val W ((q3.keptN HG.out).heap hW) ((q5.keptN HG.out).heap hW) ((r3.keptN HG.out).heap hW) ((r5.keptN HG.out).heap hW))
   have x1 := HG.out.cell q1 (by simp)
   have x2 := HG.out.cell q2 (by simp)
   have y1 := HG.out.cell r1 (by simp)
   have y2 := HG.out.cell r2 (by simp)
   clear q1 q2 q3 q5 r1 r2 r3 r5 hp
   generalize p.key.length = n1 at *
   generalize p.val.length = m1 at *
   have g1 : (0 : Int) ≤ (i : Int) := by omega
   have g2 : (i : Int) < (n : Int) := by omega
   go_upto_region 6 with fail
   go_region_with ((go_at_call 29; refine (HSP.out wr.drew rfl).mono ?_; rintro en w3 ⟨rfl, hg3⟩; have G3 := hid_intro (grown_trans HG.out (undrewW hg3)); clear hg3))
   all_goals
    go_wp2
    go_roundw
    case rel => exact ⟨i + 1, by omega, by go_num, G3.out⟩
    case measure => simp [intOf]; omega
  ·obtain rfl : i = n := by omega
   go_wp2
   go_ret
   exact ⟨rfl, HG.out⟩
def inW (lo hi : List Int) (p : PrT) : Bool := !decide (cmpZ p.key lo < 0) && (decide (hi.length = 0) || decide (cmpZ p.key hi < 0))
theorem filt_ge {key : List Int} : ∀ {L : List PrT}, Srt L → L.drop (findT L key) = L.filter fun p => !decide (cmpZ p.key key < 0)
 | [], _ => by simp [findT]
 | x :: L, hs => by
  rw [find_cons]
  have ih := filt_ge (key := key) (L := L) (List.pairwise_cons.1 hs).2
  by_cases h : cmpZ x.key key < 0
  ·rw [if_pos h, List.drop_succ_cons, ih, List.filter_cons]
   simp [h]
  ·rw [if_neg h, List.drop_zero]
   refine (List.filter_eq_self.2 fun p hp => ?_).symm
   rcases List.mem_cons.1 hp with rfl | hp
   ·simpa using h
   ·have := above_all hs h p hp
    simp
    omega
theorem within_filter {L : List PrT} (lo hi : List Int) (hs : Srt L) : withinT L lo hi = L.filter (inW lo hi) := by
 unfold withinT
 have hsu : Srt (upT L hi) := hs.sublist (upT_sub L hi)
 rw [filt_ge hsu]
 unfold upT
 by_cases h : hi.length = 0
 ·rw [if_pos h]
  refine List.filter_congr fun p _ => ?_
  simp [inW, h]
 ·rw [if_neg h, (leaf_cut hs).1, List.filter_filter]
  refine List.filter_congr fun p _ => ?_
  simp [inW, h]
set_option maxHeartbeats 1000000 in
set_option maxRecDepth 100000 in
theorem within11 (ka : Option Addr) (kn kc : Nat) (la : Option Addr) (ln lc : Nat) (ha : Option Addr) (hn hc : Nat) (p : PrT) (lo hi : List Int) (w : World) (hk : Byt w ka kn kc p.key) (hlo : Byt w la ln lc lo) (hhi : Byt w ha hn hc hi) (bk : Bt p.key) (bl : Bt lo) (bh : Bt hi) :
  Calls Tryz.prog 50 #[.slice ka kn kc, .slice la ln lc, .slice ha hn hc] w fun en w' => en = .returned (.bool (inW lo hi p)) ∧ w' = w := by
 have C1 := hid_intro (lessW ka la kn ln kc lc p.key lo w hk hlo bk bl)
 have C2 := hid_intro (lessW ka ha kn hn kc hc p.key hi w hk hhi bk bh)
 have lh := hhi.len
 have HR : Hid (inW lo hi p = (!decide (cmpZ p.key lo < 0) && (decide (hn = 0) || decide (cmpZ p.key hi < 0)))) := by show _ = _; unfold inW; rw [lh]
 clear hk hlo hhi lh
 generalize decide (cmpZ p.key lo < 0) = f1 at *
 generalize decide (cmpZ p.key hi < 0) = f2 at *
 cases f1 with
 | true =>
  go_enter Tryz.func50, Tryz.ntmps50
  go_wp2_with fail
  refine C1.out.mono ?_
  rintro en w2 ⟨rfl, hw⟩
  rw [hw]
  clear hw
  go_wp2
  go_ret
  exact ⟨by rw [HR.out]; rfl, rfl⟩
 | false =>
  by_cases h0 : hn = 0
  ·have z1 : ((hn : Int) == 0) = true := by rw [beq_iff_eq]; omega
   have HR2 : Hid (inW lo hi p = true) := by show _ = _; rw [HR.out]; simp [h0]
   clear h0
   go_enter Tryz.func50, Tryz.ntmps50
   go_wp2_with fail
   refine C1.out.mono ?_
   rintro en w2 ⟨rfl, hw⟩
   rw [hw]
   clear hw
   go_wp2
   go_ret
   exact ⟨by rw [HR2.out]; rfl, rfl⟩
  ·have z1 : ((hn : Int) == 0) = false := by rw [beq_eq_false_iff_ne]; omega
   have HR2 : Hid (inW lo hi p = f2) := by show _ = _; rw [HR.out]; simp [h0]
   clear h0
   go_enter Tryz.func50, Tryz.ntmps50
   go_wp2_with fail
   refine C1.out.mono ?_
   rintro en w2 ⟨rfl, hw⟩
   rw [hw]
   clear hw
   go_wp2_with fail
   refine C2.out.mono ?_
   rintro en w2 ⟨rfl, hw⟩
   rw [hw]
   clear hw
   go_wp2
   go_ret
   exact ⟨by rw [HR2.out]; rfl, rfl⟩
set_option maxHeartbeats 8000000 in
set_option maxRecDepth 100000 in
theorem refRange11 (a : Option Addr) (n c : Nat) (L : List PrT) (la : Option Addr) (ln lc : Nat) (lo : List Int) (ha : Option Addr) (hn hc : Nat) (hi : List Int) (w : World) (hl : MpW w a n c L) (hlo : Byt w la ln lc lo) (hhi : Byt w ha hn hc hi) (bl : Bt lo) (bh : Bt hi) (bL : ∀ p ∈ L, Bt p.key) (hs : Srt L) (h0 : n ≤ 100000) :
  Calls Tryz.prog 17 #[.slice a n c, .slice la ln lc, .slice ha hn hc] w fun en w' => DoneP w (withinT L lo hi) en w' := by
 obtain ⟨ip, hip, hp0, hp1, hp2⟩ := info_parts info_pair10
 rw [within_filter lo hi hs]
 have HL := hid_intro hl
 have HN := hid_intro hl.1
 have HLO := hid_intro hlo
 have HHI := hid_intro hhi
 have HB := hid_intro bL
 clear hl hlo hhi bL hs
 go_enter Tryz.func17, Tryz.ntmps17
 go_wp2
 go_loopw [7, 8, 9] (fun s7 s8 _ wr => ∃ (i : Nat) (es : List (List Value)), i ≤ n ∧ s8 = .int .i64 (i : Nat) ∧ w.grownBy wr none ∧ wr.ownsRow w.heap.size 38 2 s7 ((L.take i).filter (inW lo hi)).length es.flatten ∧ PsW w es ((L.take i).filter (inW lo hi))) (fun _ s8 _ _ => n - (intOf s8).toNat)
 case atStart => exact ⟨0, [], Nat.zero_le _, rfl, World.grownBy.refl _ _, ⟨rfl, .inl ⟨rfl, rfl⟩⟩, PsW.nil _⟩
 case round =>
  obtain ⟨i, es, hi9, rfl, hg, ho, hps⟩ := hrel
  obtain ⟨ra, rc, hv⟩ := own_shape10 ho
  subst hv
  have HG := hid_intro hg
  have HO := hid_intro ho
  have HPS := hid_intro hps
  have hsz := hg.size
  clear hg ho hps
  by_cases hlt : i < n
  ·obtain ⟨p, hp⟩ : ∃ p, L[i]? = some p := ⟨_, List.getElem?_eq_getElem (by have := HN.out; omega)⟩
   obtain ⟨b1, off1, ao1, c1, bo1, d1, rfl, q1, q2, q3, q5⟩ := HL.out.get hp
   have WC := hid_intro (within11 ao1 p.key.length c1 la ln lc ha hn hc p lo hi wr (q3.keptN HG.out) (HLO.out.keptN HG.out) (HHI.out.keptN HG.out) (HB.out p (List.mem_of_getElem? hp)) bl bh)
   have x1 := HG.out.cell q1 (by simp)
   have x2 := HG.out.cell q2 (by simp)
   have HBP : Hid (BpW w [.slice ao1 p.key.length c1, .slice bo1 p.val.length d1] p) := ⟨_, _, _, _, rfl, q3, q5⟩
   have HTK := hid_intro (takeS hp)
   have HF : Hid ((L.take (i + 1)).filter (inW lo hi) = (L.take i).filter (inW lo hi) ++ if inW lo hi p then [p] else []) := by
    show _ = _
    rw [takeS hp, List.filter_append, List.filter_cons, List.filter_nil]
   have g1 : (0 : Int) ≤ (i : Int) := by omega
   have g2 : (i : Int) < (n : Int) := by omega
   have hM0 : ((L.take i).filter (inW lo hi)).length ≤ n := by
    have h1 := List.length_filter_le (inW lo hi) (L.take i)
    rw [List.length_take, HN.out] at h1
    omega
   clear q1 q2 q3 q5 hp
   obtain ⟨M, hM⟩ : ∃ M, ((L.take i).filter (inW lo hi)).length = M := ⟨_, rfl⟩
   rw [hM] at hM0 HO ⊢
   have HM := hid_intro hM
   clear hM
   obtain ⟨n1, hn1⟩ : ∃ n1, p.key.length = n1 := ⟨_, rfl⟩
   obtain ⟨m1, hm1⟩ : ∃ m1, p.val.length = m1 := ⟨_, rfl⟩
   rw [hn1] at x1 WC HBP
   rw [hm1] at x2 HBP
   clear hn1 hm1
   cases hin : inW lo hi p with
   | false =>
    rw [hin] at WC HF
    clear hin
    go_wp2_with fail
    refine WC.out.mono ?_
    rintro en w2 ⟨rfl, hw⟩
    rw [hw]
    clear hw
    go_wp2_with fail
    go_roundw
    case rel => exact ⟨i + 1, es, by omega, by go_num, HG.out, by rw [HF.out]; simpa [HM.out] using HO.out, by rw [HF.out]; simpa using HPS.out⟩
    case measure => simp [intOf]; omega
   | true =>
    rw [hin] at WC HF
    clear hin
    go_wp2_with fail
    refine WC.out.mono ?_
    rintro en w2 ⟨rfl, hw⟩
    rw [hw]
    clear hw
    go_wp2_with (at_builtin; refine append_at10 rfl _ _ 26 rfl w.heap.size 38 ip (.agg #[.slice none 0 0, .slice none 0 0]) 2 48 Tryz.underlying26 hip hp0 hp1 hp2 rfl (by decide) (.slice ra M rc) M es.flatten rfl (HO.out.alloc _) ⟨wr.heap.size, 0, none⟩ 1 1 [.slice ao1 n1 c1, .slice bo1 m1 d1] rfl rfl ?c1 ?c2 ?c3 ?c4 ?c5 ?_)
    case c1 =>
     intro j u hu
     rw [Addr.add_lit, cell_of_row _ wr.heap.size _ _ _ (0, 0) (heap_alloc_new wr _), Nat.zero_add]
     simpa using hu
    case c2 => simp [Value.oneCell']
    case c3 => unfold maxLen; omega
    case c4 => omega
    case c5 => first | omega | (simp; omega)
    intro v9 w9 ho9 hg9 _
    have O9 := hid_intro ho9
    have G9 : Hid (w.grownBy w9 none) := gr_turn (grown_al HG.out _) hg9 (fun r e => (own_lt10 HO.out e).1)
    clear ho9 hg9
    go_wp2_with fail
    go_roundw
    case rel => exact ⟨i + 1, es ++ [[.slice ao1 n1 c1, .slice bo1 m1 d1]], by omega, by go_num, G9.out, by rw [HF.out]; simpa [HM.out] using O9.out, by rw [HF.out]; simpa using HPS.out.app (PsW.one HBP.out)⟩
    case measure => simp [intOf]; omega
  ·have hin : i = n := by omega
   have hta : L.take i = L := List.take_of_length_le (by have := HN.out; omega)
   rw [hta] at HO HPS
   obtain ⟨a9, c9, e9, m9⟩ := MpW.of HO.out (HPS.out.cef (CeF.of HG.out)) rfl
   have M9 := hid_intro m9
   injection e9 with e1 e2 e3
   subst e1 e3
   rw [hta]
   obtain ⟨M, hM⟩ : ∃ M, (L.filter (inW lo hi)).length = M := ⟨_, rfl⟩
   rw [hM] at M9 ⊢
   clear hin hta HO HPS m9 e2 hM
   go_wp2
   go_ret
   exact ⟨_, _, _, rfl, HG.out, M9.out⟩
set_option maxHeartbeats 2000000 in
set_option maxRecDepth 100000 in
theorem refTake11 (a : Option Addr) (n c : Nat) (L : List PrT) (la : Option Addr) (ln lc : Nat) (lo : List Int) (ha : Option Addr) (hn hc : Nat) (hi : List Int) (lim : Int) (w : World) (hl : MpW w a n c L) (hlo : Byt w la ln lc lo) (hhi : Byt w ha hn hc hi) (bl : Bt lo) (bh : Bt hi) (bL : ∀ p ∈ L, Bt p.key) (hs : Srt L) (h0 : n ≤ 100000) :
  Calls Tryz.prog 23 #[.slice a n c, .slice la ln lc, .slice ha hn hc, .int .i64 lim] w fun en w' => DoneP w ((withinT L lo hi).take lim.toNat) en w' := by
 have RC := hid_intro (refRange11 a n c L la ln lc lo ha hn hc hi w hl hlo hhi bl bh bL hs h0)
 clear hl hlo hhi bL hs
 go_enter Tryz.func23, Tryz.ntmps23
 go_wp2_with fail
 refine RC.out.mono ?_
 rintro en w1 ⟨ra, rn, rc, rfl, hg, hm⟩
 have HG := hid_intro hg
 have HM := hid_intro hm
 have hl := hm.1
 have hcap : rn ≤ rc := by obtain ⟨_, _, he, _⟩ := hm; exact he.cap
 clear hg hm RC
 by_cases h1 : lim ≤ 0
 ·have HE : Hid (lim.toNat = 0) := by show _ = _; omega
  go_wp2
  go_ret
  exact ⟨_, _, _, rfl, HG.out, by rw [HE.out]; exact MpW.nil _⟩
 ·by_cases h2 : lim < (rn : Int)
  ·obtain ⟨k, hk⟩ : ∃ k : Nat, lim = (k : Int) := ⟨lim.toNat, by omega⟩
   subst hk
   have q1 : (0 : Int) ≤ (k : Int) := by omega
   have q2 : (k : Int) ≤ (rc : Int) := by omega
   have HT : Hid (MpW w1 ra k rc ((withinT L lo hi).take (k : Int).toNat)) := by
    obtain ⟨h3, es, he, hp⟩ := HM.out
    have e9 : (k : Int).toNat = k := by omega
    rw [e9]
    exact ⟨by rw [List.length_take]; omega, es.take k, he.take (by omega), hp.take k⟩
   go_wp2
   go_ret
   exact ⟨_, _, _, rfl, HG.out, HT.out⟩
  ·have HE : Hid ((withinT L lo hi).take lim.toNat = withinT L lo hi) := List.take_of_length_le (by omega)
   go_wp2
   go_ret
   exact ⟨_, _, _, rfl, HG.out, by rw [HE.out]; exact HM.out⟩
end Go.Proofs.YtoecgpckkodmcaaGreat
