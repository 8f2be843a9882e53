import Derived.Test.YtoecgpckkodmcabGreatQ31
namespace Go.Proofs.YtoecgpckkodmcabGreat
open Go.RowKit
set_option maxHeartbeats 1000000 in
set_option maxRecDepth 100000 in
theorem samePair11 (a1 b1 a2 b2 : Option Addr) (n1 m1 c1 d1 c2 d2 : Nat) (k v : List Int) (w : World) (h1 : Byt w a1 n1 c1 k) (h2 : Byt w b1 m1 d1 v) (h3 : Byt w a2 n1 c2 k) (h4 : Byt w b2 m1 d2 v) :
  Calls Tryz.prog 15 #[.agg #[.slice a1 n1 c1, .slice b1 m1 d1], .agg #[.slice a2 n1 c2, .slice b2 m1 d2]] w fun en w' => en = .returned (.bool true) ∧ w.grownBy w' none := by
 have ga := World.grownBy_alloc w (.cells #[.slice a1 n1 c1, .slice b1 m1 d1] 30) none
 have gb := grown_trans ga (World.grownBy_alloc (w.alloc (.cells #[.slice a1 n1 c1, .slice b1 m1 d1] 30)) (.cells #[.slice a2 n1 c2, .slice b2 m1 d2] 30) none)
 have HG := hid_intro gb
 have HC1 := hid_intro (same_yes a1 a2 n1 n1 c1 c2 k k _ (h1.keptN gb) (h3.keptN gb) rfl)
 have HC2 := hid_intro (same_yes b1 b2 m1 m1 d1 d2 v v _ (h2.keptN gb) (h4.keptN gb) rfl)
 clear h1 h2 h3 h4 ga gb
 go_enter Tryz.func15, Tryz.ntmps15
 go_wp2_with fail
 refine HC1.out.mono ?_
 rintro en w2 ⟨rfl, hw2⟩
 subst hw2
 go_wp2_with fail
 refine HC2.out.mono ?_
 rintro en w3 ⟨rfl, hw3⟩
 subst hw3
 go_wp2
 go_ret
 exact ⟨rfl, HG.out⟩
set_option maxHeartbeats 4000000 in
set_option maxRecDepth 100000 in
theorem samePairs11 (a b : Option Addr) (n c d : Nat) (L : List PrT) (w : World) (h1 : MpW w a n c L) (h2 : MpW w b n d L) (h0 : n ≤ 100000000) :
  Calls Tryz.prog 21 #[.slice a n c, .slice b n d] w fun en w' => en = .returned (.bool true) ∧ w.grownBy w' none := by
 have HL := hid_intro h1
 have HK := hid_intro h2
 have HN := hid_intro h1.1
 clear h1 h2
 have g0 : ((n : Int) == (n : Int)) = true := by simp
 go_enter Tryz.func21, Tryz.ntmps21
 go_wp2
 go_loopw [5, 6] (fun si _ wr => ∃ i : Nat, i ≤ n ∧ si = .int .i64 (i : Nat) ∧ w.grownBy wr none) (fun si _ _ => n - (intOf si).toNat)
 case atStart => exact ⟨0, Nat.zero_le _, rfl, World.grownBy.refl _ _⟩
 case round =>
  obtain ⟨i, hi, rfl, hg⟩ := hrel
  have HG := hid_intro hg
  clear hg
  by_cases hlt : i < n
  ·obtain ⟨p, hp⟩ : ∃ p, L[i]? = some p := ⟨_, List.getElem?_eq_getElem (by have := HN.out; omega)⟩
   obtain ⟨b1, off1, ao1, c1, bo1, d1, rfl, q1, q2, q3, q5⟩ := HL.out.get hp
   obtain ⟨b2, off2, ao2, c2, bo2, d2, rfl, r1, r2, r3, r5⟩ := HK.out.get hp
   have HSP := hid_intro (fun (W : World) (hW : W.heap = wr.heap) => samePair11 ao1 bo1 ao2 bo2 _ _ c1 d1 c2 d2 p.key p.val W ((q3.keptN HG.out).heap hW) ((q5.keptN HG.out).heap hW) ((r3.keptN HG.out).heap hW) ((r5.keptN HG.out).heap hW))
   have x1 := HG.out.cell q1 (by simp)
   have x2 := HG.out.cell q2 (by simp)
   have y1 := HG.out.cell r1 (by simp)
   have y2 := HG.out.cell r2 (by simp)
   clear q1 q2 q3 q5 r1 r2 r3 r5 hp
   generalize p.key.length = n1 at *
   generalize p.val.length = m1 at *
   have g1 : (0 : Int) ≤ (i : Int) := by omega
   have g2 : (i : Int) < (n : Int) := by omega
   go_upto_region 6 with fail
   go_region_with ((go_at_call 15; refine (HSP.out wr.drew rfl).mono ?_; rintro en w3 ⟨rfl, hg3⟩; have G3 := hid_intro (grown_trans HG.out (undrewW hg3)); clear hg3))
   all_goals
    go_wp2
    go_roundw
    case rel => exact ⟨i + 1, by omega, by go_num, G3.out⟩
    case measure => simp [intOf]; omega
  ·obtain rfl : i = n := by omega
   go_wp2
   go_ret
   exact ⟨rfl, HG.out⟩
end Go.Proofs.YtoecgpckkodmcabGreat
