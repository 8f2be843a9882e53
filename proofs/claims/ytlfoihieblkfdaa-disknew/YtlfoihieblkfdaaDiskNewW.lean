import Derived.Test.YtlfoihieblkfdaaDkF
namespace Go.Proofs.Ytlfoihieblkfdaa
open Go.RowKit Go.MuLone

set_option maxHeartbeats 8000000 in
set_option maxRecDepth 8000 in
theorem diskNew_walk (c : Int) (w : World) : Calls Try.prog 4 #[.int .i64 c] w fun e w' => e = .returned (.bool true) ∧ w.grownBy w' none := by
  by_cases hc : c < 2 ∨ 524287 < c
  · by_cases hc1 : c < 2
    · have hc2 : ¬ (2 ≤ c) := by omega
      go_enter Try.func4, Try.ntmps4
      go_wp2_with fail
      refine (first12_any w).mono ?_
      rintro e w1 ⟨rfl, hg1⟩
      go_wp2_with fail
      refine (new_no c _ (.inl hc1)).mono ?_
      rintro e w2 ⟨rfl, rfl⟩
      go_wp2
      go_ret
      exact ⟨rfl, hg1⟩
    · have hc2 : 2 ≤ c := by omega
      have hc3 : ¬ (c ≤ 524287) := by omega
      go_enter Try.func4, Try.ntmps4
      go_wp2_with fail
      refine (first12_any w).mono ?_
      rintro e w1 ⟨rfl, hg1⟩
      go_wp2_with fail
      refine (new_no c _ hc).mono ?_
      rintro e w2 ⟨rfl, rfl⟩
      go_wp2
      go_ret
      exact ⟨rfl, hg1⟩
  · have h2 : 2 ≤ c := by omega
    have h3 : c ≤ 524287 := by omega
    obtain ⟨n, rfl⟩ : ∃ n : Nat, c = n := ⟨c.toNat, by omega⟩
    clear hc
    go_enter Try.func4, Try.ntmps4
    go_wp2_with fail
    refine (first12_any w).mono ?_
    rintro e w1 ⟨rfl, hg1⟩
    have s1 := hg1.size
    have G1 := hid_intro hg1
    clear hg1
    go_wp2_with fail
    refine (dz_new n w1 (by omega) (by omega)).mono ?_
    rintro e w2 ⟨B, rfl, hg2, hz2⟩
    obtain ⟨F0, hF0⟩ : ∃ F0 : Nat → Prop, F0 = fun k => w1.heap.size ≤ k ∧ k < w2.heap.size := ⟨_, rfl⟩
    rw [← hF0] at hz2
    have N0 : ∀ k, F0 k → w.heap.size ≤ k := fun k hk => by rw [hF0] at hk; have := hk.1; omega
    clear hF0
    have G2 := hid_intro (grown_trans G1.out hg2)
    have Z2 := hid_intro hz2
    clear hg2 hz2 G1
    go_wp2_with fail
    refine (dz_read_no Z2.out 0 (.inr (by simp [Ds.pages]))).mono ?_
    rintro e w3 ⟨rfl, hz3, hk3⟩
    have G3 := hid_intro (Kp.new G2.out hk3 N0)
    have Z3 := hid_intro hz3
    clear hz3 hk3 Z2 G2
    go_wp2_with fail
    refine (full_any 1 _).mono ?_
    rintro e w4 ⟨rfl, -, hg4⟩
    have Z4 := hid_intro (Z3.out.keptN hg4)
    have G4 := hid_intro (grown_trans G3.out hg4)
    clear hg4 Z3 G3
    have hr : Ds.refuse ⟨n, 0, false, 0, 0, [], []⟩ 1 4096 = 121 := by simp [Ds.refuse, Ds.pages]
    go_wp2_with fail
    refine (dz_write_no Z4.out 1 _ 4096 4096 (by rw [hr]; decide)).mono ?_
    rintro e w5 ⟨rfl, hz5, hk5⟩
    rw [hr]
    have G5 := hid_intro (Kp.new G4.out hk5 N0)
    have Z5 := hid_intro hz5
    clear hz5 hk5 Z4 G4 hr
    go_wp2_with fail
    refine (dz_cap Z5.out).mono ?_
    rintro e w6 ⟨rfl, hz6, hk6⟩
    have G6 := hid_intro (Kp.new G5.out hk6 N0)
    have Z6 := hid_intro hz6
    clear hz6 hk6 Z5 G5
    go_wp2_with fail
    refine (dz_pages Z6.out).mono ?_
    rintro e w7 ⟨rfl, hz7, hk7⟩
    rw [show Ds.pages ⟨n, 0, false, 0, 0, [], []⟩ = 0 from rfl]
    have G7 := hid_intro (Kp.new G6.out hk7 N0)
    have Z7 := hid_intro hz7
    clear hz7 hk7 Z6 G6
    go_wp2_with fail
    refine (dz_power Z7.out).mono ?_
    rintro e w8 ⟨rfl, hz8, hk8⟩
    have G8 := hid_intro (Kp.new G7.out hk8 N0)
    have Z8 := hid_intro hz8
    clear hz8 hk8 Z7 G7
    go_wp2_with fail
    refine (dz_done Z8.out).mono ?_
    rintro e w9 ⟨rfl, hz9, hk9⟩
    have G9 := hid_intro (Kp.new G8.out hk9 N0)
    have Z9 := hid_intro hz9
    clear hz9 hk9 Z8 G8
    go_wp2_with fail
    refine (dz_reads Z9.out).mono ?_
    rintro e w10 ⟨rfl, hz10, hk10⟩
    have G10 := hid_intro (Kp.new G9.out hk10 N0)
    have Z10 := hid_intro hz10
    clear hz10 hk10 Z9 G9
    go_wp2_with fail
    refine (dz_durable Z10.out).mono ?_
    rintro e w11 ⟨g, L, C, rfl, hL, -, hz11, hk11⟩
    obtain rfl : L = 0 := hL
    have G11 := hid_intro (Kp.new G10.out hk11 N0)
    have Z11 := hid_intro hz11
    clear hz11 hk11 Z10 G10
    go_wp2_with fail
    refine (dz_pending_nil Z11.out rfl).mono ?_
    rintro e w12 ⟨g2, rfl, hz12, hk12⟩
    have G12 := hid_intro (Kp.new G11.out hk12 N0)
    clear hz12 hk12 Z11 G11
    go_wp2_with (go_at_call 13; refine (num_12 _ _ (by omega)).mono ?_; rintro e w12 ⟨rfl, rfl⟩)
    go_ret
    exact ⟨rfl, G12.out⟩
end Go.Proofs.Ytlfoihieblkfdaa
