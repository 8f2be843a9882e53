import Derived.Test.YtioleabkbkmggaaDoorDuG
namespace Go.Proofs.YtioleabkbkmggaaDoor
open Go.RowKit

set_option maxHeartbeats 4000000 in
set_option maxRecDepth 100000 in
theorem dumpUnhexes_walk (s : ByteArray) (w : World) (ht : Tzd w) (hs : s.size ≤ maxLen) : Calls Tryd.prog 4 #[.string s] w fun en w' => en = .returned (.bool true) ∧ w.grownBy w' none := by
  unfold maxLen at hs
  have HF := hid_intro (first20 w ht)
  by_cases hl : 1048576 < s.size
  · have g1 : (1048576 : Int) < (s.size : Int) := by omega
    go_enter Tryd.func4, Tryd.ntmps4
    go_wp2_with fail
    refine HF.out.mono ?_
    rintro en w1 ⟨rfl, hg⟩
    have HG := hid_intro hg
    clear hg
    go_wp2
    go_ret
    exact ⟨rfl, HG.out⟩
  · have g1 : ¬ (1048576 : Int) < (s.size : Int) := by omega
    have HU := hid_intro (fun W => unhex_any s W (by omega))
    have HR := hid_intro (fun W => refUnhex_any s W (by omega))
    have HUB : Hid (∀ b, uh s.data.toList = some b → Bt b) := fun b hb => (hx_uh hb).2
    generalize s.data.toList = T at *
    go_enter Tryd.func4, Tryd.ntmps4
    go_wp2_with fail
    refine HF.out.mono ?_
    rintro en w1 ⟨rfl, hg⟩
    have G1 := hid_intro hg
    clear hg HF
    go_wp2_with fail
    refine (HU.out _).mono ?_
    rintro en w2 ⟨hg2, ⟨hu, rfl⟩ | ⟨b, ao, c, hu, rfl, ho⟩⟩
    · have G2 := hid_intro (grown_trans G1.out hg2)
      have HUN := hid_intro hu
      clear hg2 hu G1
      go_wp2_with fail
      refine (HR.out _).mono ?_
      rintro en w3 ⟨hg3, ⟨hu3, rfl⟩ | ⟨b, ao, c, hu3, rfl, ho⟩⟩
      · have G3 := hid_intro (grown_trans G2.out hg3)
        clear hg3 hu3
        go_wp2_with (first
          | (go_at_call 14; refine (same20 _ _ _ _ _ _ _ _ _ (Byt.empty _) (Byt.empty _) Bt.nil Bt.nil).mono ?_; rintro en w4 ⟨rfl, hw4⟩; subst hw4; rw [decide_eq_true rfl])
          | (go_at_call 15; refine (num20 _ _).mono ?_; rintro en w4 ⟨rfl, hw4⟩; subst hw4))
        go_ret
        exact ⟨rfl, G3.out⟩
      · have := HUN.out.symm.trans hu3
        cases this
    · have G2 := hid_intro (grown_trans G1.out hg2)
      have HUN := hid_intro hu
      have O2 := hid_intro ho
      clear hg2 hu G1 ho
      go_wp2_with fail
      refine (HR.out _).mono ?_
      rintro en w3 ⟨hg3, ⟨hu3, rfl⟩ | ⟨b', ao', c', hu3, rfl, ho3⟩⟩
      · have := HUN.out.symm.trans hu3
        cases this
      · have hb : b = b' := Option.some.inj (HUN.out.symm.trans hu3)
        subst hb
        have G3 := hid_intro (grown_trans G2.out hg3)
        have B2 := hid_intro (byt_of_ownD (own_keptD O2.out hg3))
        have B3 := hid_intro (byt_of_ownD ho3)
        have BT := hid_intro (HUB.out b HUN.out)
        clear hg3 hu3 ho3 O2
        generalize b.length = n at *
        go_wp2_with (first
          | (go_at_call 14; refine (same20 _ _ _ _ _ _ b b _ B2.out B3.out BT.out BT.out).mono ?_; rintro en w4 ⟨rfl, hw4⟩; subst hw4; rw [decide_eq_true (rfl : b = b)])
          | (go_at_call 15; refine (num20 _ _).mono ?_; rintro en w4 ⟨rfl, hw4⟩; subst hw4))
        go_ret
        exact ⟨rfl, G3.out⟩
end Go.Proofs.YtioleabkbkmggaaDoor
