import Derived.Test.YtlhjociijkhimaaGreatDoorMe1
namespace Go.Proofs.YtlhjociijkhimaaGreatDoor
open Go.RowKit

set_option maxHeartbeats 400000 in
theorem within_any (x a b : Int) (w : World) : Calls Tryz.prog 25 #[.int .i64 x, .int .i64 a, .int .i64 b] w fun en w' => en = .returned (.bool (wi x a b)) ∧ w' = w := by
  by_cases h1 : a ≤ x
  · by_cases h2 : x ≤ b
    · have e : Hid (wi x a b = true) := wi_iff.2 ⟨h1, h2⟩
      go_enter Tryz.func25, Tryz.ntmps25
      go_wp2
      go_ret
      exact ⟨by rw [e.out]; rfl, rfl⟩
    · have e : Hid (wi x a b = false) := by show _ = _; simp [wi, h2]
      go_enter Tryz.func25, Tryz.ntmps25
      go_wp2
      go_ret
      exact ⟨by rw [e.out]; rfl, rfl⟩
  · have e : Hid (wi x a b = false) := by show _ = _; simp [wi, h1]
    go_enter Tryz.func25, Tryz.ntmps25
    go_wp2
    go_ret
    exact ⟨by rw [e.out]; rfl, rfl⟩

theorem Hx.new2 (w : World) (o : Obj) (v c r t k f n : Int) : Hx ((w.alloc o).alloc (.cells #[.int .i64 v, .int .i64 c, .int .i64 r, .int .i64 t, .int .i64 k, .int .i64 f, .int .i64 n] 23)) (w.heap.size + 1) v c r t k f n := by
  have := Hx.new (w.alloc o) v c r t k f n
  simpa using this
theorem grown_two (w : World) (o o' : Obj) : w.grownBy ((w.alloc o).alloc o') none := grown_trans (World.grownBy_alloc w _ none) (World.grownBy_alloc _ _ none)
set_option maxHeartbeats 1000000 in
set_option maxRecDepth 100000 in
theorem withoutTree_any (v c r t k f n : Int) (w : World) : Calls Tryz.prog 88 #[.agg #[.int .i64 v, .int .i64 c, .int .i64 r, .int .i64 t, .int .i64 k, .int .i64 f, .int .i64 n]] w fun en w' => en = .returned (.agg #[.int .i64 v, .int .i64 c, .int .i64 0, .int .i64 0, .int .i64 0, .int .i64 f, .int .i64 n]) ∧ w.grownBy w' none := by
  go_enter Tryz.func88, Tryz.ntmps88
  go_wp2
  refine bodyPost_ret (ret_head rfl _ _ (w.heap.size + 1) v c 0 0 0 f n rfl (Hx.new2 w _ v c 0 0 0 f n)) rfl ?_
  exact ⟨rfl, grown_two w _ _⟩
set_option maxHeartbeats 1000000 in
set_option maxRecDepth 100000 in
theorem withoutFrees_any (v c r t k f n : Int) (w : World) : Calls Tryz.prog 89 #[.agg #[.int .i64 v, .int .i64 c, .int .i64 r, .int .i64 t, .int .i64 k, .int .i64 f, .int .i64 n]] w fun en w' => en = .returned (.agg #[.int .i64 v, .int .i64 c, .int .i64 r, .int .i64 t, .int .i64 k, .int .i64 0, .int .i64 0]) ∧ w.grownBy w' none := by
  go_enter Tryz.func89, Tryz.ntmps89
  go_wp2
  refine bodyPost_ret (ret_head rfl _ _ (w.heap.size + 1) v c r t k 0 0 rfl (Hx.new2 w _ v c r t k 0 0)) rfl ?_
  exact ⟨rfl, grown_two w _ _⟩

set_option maxHeartbeats 1000000 in
set_option maxRecDepth 100000 in
theorem rightTree_any (v c r t k f n : Int) (w : World) (hc : 2 ≤ c ∧ c ≤ 524287) : Calls Tryz.prog 26 #[.agg #[.int .i64 v, .int .i64 c, .int .i64 r, .int .i64 t, .int .i64 k, .int .i64 f, .int .i64 n]] w fun en w' => en = .returned (.bool (tOk ⟨v, c, r, t, k, f, n⟩)) ∧ w.grownBy w' none := by
  by_cases hr : r = 0
  · subst hr
    have hm : Hid ((decide (v = v) && (decide (c = c) && (decide ((0 : Int) = 0) && (decide (t = 0) && (decide (k = 0) && (decide (f = f) && decide (n = n))))))) = tOk ⟨v, c, 0, t, k, f, n⟩) := by
      show _ = _
      simp [tOk]
    generalize tOk ⟨v, c, 0, t, k, f, n⟩ = bt at *
    have heq : ∀ W : World, (binOp .eql 23 (.agg #[.int .i64 v, .int .i64 c, .int .i64 0, .int .i64 t, .int .i64 k, .int .i64 f, .int .i64 n]) (.agg #[.int .i64 v, .int .i64 c, .int .i64 0, .int .i64 0, .int .i64 0, .int .i64 f, .int .i64 n])).run Tryz.prog W = .ok (.bool bt) W := fun W => by rw [eql_head, hm.out]
    have hgu : ∀ (x y : Operand) (W : World), (eqGuard .eql 23 x y (.agg #[.int .i64 v, .int .i64 c, .int .i64 0, .int .i64 t, .int .i64 k, .int .i64 f, .int .i64 n]) (.agg #[.int .i64 v, .int .i64 c, .int .i64 0, .int .i64 0, .int .i64 0, .int .i64 f, .int .i64 n])).run Tryz.prog W = .ok () W := fun x y W => guard_head x y _ _ _ _ _ _ _ _ _ _ _ _ _ _ W
    go_enter Tryz.func26, Tryz.ntmps26
    go_upto_region 2 with fail
    have X1 := hid_intro (Hx.new w v c 0 t k f n)
    have G1 := hid_intro (World.grownBy_alloc w (.cells #[.int .i64 v, .int .i64 c, .int .i64 0, .int .i64 t, .int .i64 k, .int .i64 f, .int .i64 n] 23) none)
    generalize w.alloc (.cells #[.int .i64 v, .int .i64 c, .int .i64 0, .int .i64 t, .int .i64 k, .int .i64 f, .int .i64 n] 23) = w1 at *
    obtain ⟨c0, c1, c2, c3, c4, c5, c6⟩ := X1.out.cells
    go_region_law
      (go_simp; go_at_call 88; refine (withoutTree_any v c 0 t k f n _).mono ?_; rintro en w2 ⟨rfl, hg2⟩; have hg3 := grown_trans ((Qt.refl w1).drew.grown none) hg2; have X2 := X1.out.keptN hg3; obtain ⟨d0, d1, d2, d3, d4, d5, d6⟩ := X2.cells)
    all_goals
      have G2 := hid_intro (grown_trans G1.out hg3)
      clear hg2 hg3 X2 d0 d1 d2 d3 d4 d5 d6 c0 c1 c2 c3 c4 c5 c6 heq hgu
      go_wp2
      go_ret
      exact ⟨rfl, G2.out⟩
  · have hr' : (r == 0) = false := by simp [hr]
    have hw : IntKind.i64.wrap (c - 1) = c - 1 := by simp [IntKind.wrap, IntKind.bits, IntKind.signed]; omega
    have hm : Hid (tOk ⟨v, c, r, t, k, f, n⟩ = (wi r 2 (c - 1) && (wi t 1 16 && wi k 1 4294967295))) := by show _ = _; simp [tOk, hr]
    generalize tOk ⟨v, c, r, t, k, f, n⟩ = bt at *
    go_enter Tryz.func26, Tryz.ntmps26
    go_wp2_with fail
    refine (within_any _ _ _ _).mono ?_
    rintro en w1 ⟨rfl, rfl⟩
    have G1 := hid_intro (World.grownBy_alloc w (.cells #[.int .i64 v, .int .i64 c, .int .i64 r, .int .i64 t, .int .i64 k, .int .i64 f, .int .i64 n] 23) none)
    cases e1 : wi r 2 (c - 1) with
    | false =>
      go_wp2
      go_ret
      exact ⟨by rw [hm.out, e1]; rfl, G1.out⟩
    | true =>
      go_wp2_with fail
      refine (within_any _ _ _ _).mono ?_
      rintro en w1 ⟨rfl, rfl⟩
      cases e2 : wi t 1 16 with
      | false =>
        go_wp2
        go_ret
        exact ⟨by rw [hm.out, e1, e2]; rfl, G1.out⟩
      | true =>
        go_wp2_with fail
        refine (within_any _ _ _ _).mono ?_
        rintro en w1 ⟨rfl, rfl⟩
        generalize wi k 1 4294967295 = b3 at *
        go_wp2
        go_ret
        exact ⟨by rw [hm.out, e1, e2]; rfl, G1.out⟩

set_option maxHeartbeats 1000000 in
set_option maxRecDepth 100000 in
theorem rightFrees_any (v c r t k f n : Int) (w : World) (hc : 2 ≤ c ∧ c ≤ 524287) : Calls Tryz.prog 27 #[.agg #[.int .i64 v, .int .i64 c, .int .i64 r, .int .i64 t, .int .i64 k, .int .i64 f, .int .i64 n]] w fun en w' => en = .returned (.bool (fOk ⟨v, c, r, t, k, f, n⟩)) ∧ w.grownBy w' none := by
  by_cases hr : f = 0
  · subst hr
    have hm : Hid ((decide (v = v) && (decide (c = c) && (decide (r = r) && (decide (t = t) && (decide (k = k) && (decide ((0 : Int) = 0) && decide (n = 0))))))) = fOk ⟨v, c, r, t, k, 0, n⟩) := by
      show _ = _
      simp [fOk]
    generalize fOk ⟨v, c, r, t, k, 0, n⟩ = bt at *
    have heq : ∀ W : World, (binOp .eql 23 (.agg #[.int .i64 v, .int .i64 c, .int .i64 r, .int .i64 t, .int .i64 k, .int .i64 0, .int .i64 n]) (.agg #[.int .i64 v, .int .i64 c, .int .i64 r, .int .i64 t, .int .i64 k, .int .i64 0, .int .i64 0])).run Tryz.prog W = .ok (.bool bt) W := fun W => by rw [eql_head, hm.out]
    have hgu : ∀ (x y : Operand) (W : World), (eqGuard .eql 23 x y (.agg #[.int .i64 v, .int .i64 c, .int .i64 r, .int .i64 t, .int .i64 k, .int .i64 0, .int .i64 n]) (.agg #[.int .i64 v, .int .i64 c, .int .i64 r, .int .i64 t, .int .i64 k, .int .i64 0, .int .i64 0])).run Tryz.prog W = .ok () W := fun x y W => guard_head x y _ _ _ _ _ _ _ _ _ _ _ _ _ _ W
    go_enter Tryz.func27, Tryz.ntmps27
    go_upto_region 2 with fail
    have X1 := hid_intro (Hx.new w v c r t k 0 n)
    have G1 := hid_intro (World.grownBy_alloc w (.cells #[.int .i64 v, .int .i64 c, .int .i64 r, .int .i64 t, .int .i64 k, .int .i64 0, .int .i64 n] 23) none)
    generalize w.alloc (.cells #[.int .i64 v, .int .i64 c, .int .i64 r, .int .i64 t, .int .i64 k, .int .i64 0, .int .i64 n] 23) = w1 at *
    obtain ⟨c0, c1, c2, c3, c4, c5, c6⟩ := X1.out.cells
    go_region_law
      (go_simp; go_at_call 89; refine (withoutFrees_any v c r t k 0 n _).mono ?_; rintro en w2 ⟨rfl, hg2⟩; have hg3 := grown_trans ((Qt.refl w1).drew.grown none) hg2; have X2 := X1.out.keptN hg3; obtain ⟨d0, d1, d2, d3, d4, d5, d6⟩ := X2.cells)
    all_goals
      have G2 := hid_intro (grown_trans G1.out hg3)
      clear hg2 hg3 X2 d0 d1 d2 d3 d4 d5 d6 c0 c1 c2 c3 c4 c5 c6 heq hgu
      go_wp2
      go_ret
      exact ⟨rfl, G2.out⟩
  · have hr' : (f == 0) = false := by simp [hr]
    have hw : IntKind.i64.wrap (c - 1) = c - 1 := by simp [IntKind.wrap, IntKind.bits, IntKind.signed]; omega
    have hw2 : IntKind.i64.wrap (c - 2) = c - 2 := by simp [IntKind.wrap, IntKind.bits, IntKind.signed]; omega
    have hm : Hid (fOk ⟨v, c, r, t, k, f, n⟩ = (wi f 2 (c - 1) && wi n 1 (c - 2))) := by show _ = _; simp [fOk, hr]
    generalize fOk ⟨v, c, r, t, k, f, n⟩ = bt at *
    go_enter Tryz.func27, Tryz.ntmps27
    go_wp2_with fail
    refine (within_any _ _ _ _).mono ?_
    rintro en w1 ⟨rfl, rfl⟩
    have G1 := hid_intro (World.grownBy_alloc w (.cells #[.int .i64 v, .int .i64 c, .int .i64 r, .int .i64 t, .int .i64 k, .int .i64 f, .int .i64 n] 23) none)
    cases e1 : wi f 2 (c - 1) with
    | false =>
      go_wp2
      go_ret
      exact ⟨by rw [hm.out, e1]; rfl, G1.out⟩
    | true =>
      go_wp2_with fail
      refine (within_any _ _ _ _).mono ?_
      rintro en w1 ⟨rfl, rfl⟩
      generalize wi n 1 (c - 2) = b3 at *
      go_wp2
      go_ret
      exact ⟨by rw [hm.out, e1]; rfl, G1.out⟩

set_option maxHeartbeats 1000000 in
set_option maxRecDepth 100000 in
theorem sameHead_yes (v c r t k f n : Int) (w : World) : Calls Tryz.prog 9 #[.agg #[.int .i64 v, .int .i64 c, .int .i64 r, .int .i64 t, .int .i64 k, .int .i64 f, .int .i64 n], .agg #[.int .i64 v, .int .i64 c, .int .i64 r, .int .i64 t, .int .i64 k, .int .i64 f, .int .i64 n]] w fun en w' => en = .returned (.bool true) ∧ w.grownBy w' none := by
  go_enter Tryz.func9, Tryz.ntmps9
  go_wp2
  go_ret
  exact ⟨rfl, grown_trans (World.grownBy_alloc w _ none) (World.grownBy_alloc _ _ none)⟩

set_option maxHeartbeats 1000000 in
set_option maxRecDepth 100000 in
theorem mayBe_any (v c r t k f n : Int) (w : World) :
    Calls Tryz.prog 13 #[.agg #[.int .i64 v, .int .i64 c, .int .i64 r, .int .i64 t, .int .i64 k, .int .i64 f, .int .i64 n]] w fun en w' => en = .returned (.bool (may ⟨v, c, r, t, k, f, n⟩)) ∧ w.grownBy w' none := by
  have hT : wi c 2 524287 = true → ∀ w, Calls Tryz.prog 26 #[.agg #[.int .i64 v, .int .i64 c, .int .i64 r, .int .i64 t, .int .i64 k, .int .i64 f, .int .i64 n]] w fun en w' => en = .returned (.bool (tOk ⟨v, c, r, t, k, f, n⟩)) ∧ w.grownBy w' none := fun h w => rightTree_any v c r t k f n w (wi_iff.1 h)
  have hF : wi c 2 524287 = true → ∀ w, Calls Tryz.prog 27 #[.agg #[.int .i64 v, .int .i64 c, .int .i64 r, .int .i64 t, .int .i64 k, .int .i64 f, .int .i64 n]] w fun en w' => en = .returned (.bool (fOk ⟨v, c, r, t, k, f, n⟩)) ∧ w.grownBy w' none := fun h w => rightFrees_any v c r t k f n w (wi_iff.1 h)
  have hm : Hid (may ⟨v, c, r, t, k, f, n⟩ = (wi v 1 4611686018427387904 && (wi c 2 524287 && (tOk ⟨v, c, r, t, k, f, n⟩ && fOk ⟨v, c, r, t, k, f, n⟩)))) := rfl
  generalize tOk ⟨v, c, r, t, k, f, n⟩ = bt at *
  generalize fOk ⟨v, c, r, t, k, f, n⟩ = bf at *
  generalize may ⟨v, c, r, t, k, f, n⟩ = bm at *
  cases e1 : wi v 1 4611686018427387904 with
  | false =>
    go_enter Tryz.func13, Tryz.ntmps13
    go_wp2_with fail
    refine (within_any _ _ _ _).mono ?_
    rintro en w1 ⟨rfl, rfl⟩
    rw [e1]
    go_wp2
    go_ret
    exact ⟨by rw [hm.out, e1]; rfl, World.grownBy_alloc w _ none⟩
  | true =>
    go_enter Tryz.func13, Tryz.ntmps13
    go_wp2_with fail
    have X1 := hid_intro (Hx.new w v c r t k f n)
    have G1 := hid_intro (World.grownBy_alloc w (.cells #[.int .i64 v, .int .i64 c, .int .i64 r, .int .i64 t, .int .i64 k, .int .i64 f, .int .i64 n] 23) none)
    obtain ⟨c0, c1, c2, c3, c4, c5, c6⟩ := X1.out.cells
    generalize w.alloc (.cells #[.int .i64 v, .int .i64 c, .int .i64 r, .int .i64 t, .int .i64 k, .int .i64 f, .int .i64 n] 23) = w1 at *
    refine (within_any _ _ _ _).mono ?_
    rintro en w1 ⟨rfl, rfl⟩
    rw [e1]
    cases e2 : wi c 2 524287 with
    | false =>
      go_wp2_with fail
      refine (within_any _ _ _ _).mono ?_
      rintro en w1 ⟨rfl, rfl⟩
      rw [e2]
      go_wp2
      go_ret
      exact ⟨by rw [hm.out, e1, e2]; rfl, G1.out⟩
    | true =>
      go_wp2_with fail
      refine (within_any _ _ _ _).mono ?_
      rintro en w1 ⟨rfl, rfl⟩
      rw [e2]
      have HT := hid_intro (hT e2)
      have HF := hid_intro (hF e2)
      clear hT hF
      go_wp2_with fail
      refine (HT.out _).mono ?_
      rintro en w2 ⟨rfl, hg2⟩
      have X2 := hid_intro (X1.out.keptN hg2)
      have G2 := hid_intro (grown_trans G1.out hg2)
      clear c0 c1 c2 c3 c4 c5 c6 X1 G1 hg2 HT
      obtain ⟨c0, c1, c2, c3, c4, c5, c6⟩ := X2.out.cells
      cases bt with
      | false =>
        go_wp2
        go_ret
        exact ⟨by rw [hm.out, e1, e2]; rfl, G2.out⟩
      | true =>
        go_wp2_with fail
        refine (HF.out _).mono ?_
        rintro en w3 ⟨rfl, hg3⟩
        have G3 := hid_intro (grown_trans G2.out hg3)
        clear hg3 c0 c1 c2 c3 c4 c5 c6
        go_wp2
        go_ret
        exact ⟨by rw [hm.out, e1, e2]; rfl, G3.out⟩
end Go.Proofs.YtlhjociijkhimaaGreatDoor
