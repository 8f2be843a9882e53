import Derived.Test.YtjbigfnggelceabDoorMe2
namespace Go.Proofs.YtjbigfnggelceabDoor
open Go.RowKit

theorem may_iff {v c r t k f n : Int} : may ⟨v, c, r, t, k, f, n⟩ = true ↔ (1 ≤ v ∧ v ≤ 4611686018427387904 ∧ 2 ≤ c ∧ c ≤ 524287 ∧ ((r = 0 ∧ t = 0 ∧ k = 0) ∨ (r ≠ 0 ∧ 2 ≤ r ∧ r < c ∧ 1 ≤ t ∧ t ≤ 16 ∧ 1 ≤ k ∧ k ≤ 4294967295)) ∧ ((f = 0 ∧ n = 0) ∨ (f ≠ 0 ∧ 2 ≤ f ∧ f < c ∧ 1 ≤ n ∧ n ≤ c - 2))) := by
  by_cases h1 : r = 0 <;> by_cases h2 : f = 0 <;> simp [may, tOk, fOk, wi, h1, h2] <;> omega
theorem may_no {v c r t k f n : Int} (h : ¬ (1 ≤ v ∧ v ≤ 4611686018427387904 ∧ 2 ≤ c ∧ c ≤ 524287 ∧ ((r = 0 ∧ t = 0 ∧ k = 0) ∨ (r ≠ 0 ∧ 2 ≤ r ∧ r < c ∧ 1 ≤ t ∧ t ≤ 16 ∧ 1 ≤ k ∧ k ≤ 4294967295)) ∧ ((f = 0 ∧ n = 0) ∨ (f ≠ 0 ∧ 2 ≤ f ∧ f < c ∧ 1 ≤ n ∧ n ≤ c - 2)))) : may ⟨v, c, r, t, k, f, n⟩ = false := by
  rw [← Bool.not_eq_true, may_iff]; exact h
set_option maxHeartbeats 4000000 in
set_option maxRecDepth 100000 in
theorem refMay_any (v c r t k f n : Int) (w : World) : Calls Tryd.prog 5 #[.agg #[.int .i64 v, .int .i64 c, .int .i64 r, .int .i64 t, .int .i64 k, .int .i64 f, .int .i64 n]] w fun en w' => en = .returned (.bool (may ⟨v, c, r, t, k, f, n⟩)) ∧ w.grownBy w' none := by
  by_cases a1 : v < 1
  · have e : Hid (may ⟨v, c, r, t, k, f, n⟩ = false) := may_no (by omega)
    go_enter Tryd.func5, Tryd.ntmps5
    go_wp2
    go_ret
    exact ⟨by rw [e.out]; rfl, World.grownBy_alloc w _ none⟩
  · by_cases a2 : v > 4611686018427387904
    · have e : Hid (may ⟨v, c, r, t, k, f, n⟩ = false) := may_no (by omega)
      go_enter Tryd.func5, Tryd.ntmps5
      go_wp2
      go_ret
      exact ⟨by rw [e.out]; rfl, World.grownBy_alloc w _ none⟩
    · by_cases a3 : c < 2
      · have e : Hid (may ⟨v, c, r, t, k, f, n⟩ = false) := may_no (by omega)
        go_enter Tryd.func5, Tryd.ntmps5
        go_wp2
        go_ret
        exact ⟨by rw [e.out]; rfl, World.grownBy_alloc w _ none⟩
      · by_cases a4 : c > 524287
        · have e : Hid (may ⟨v, c, r, t, k, f, n⟩ = false) := may_no (by omega)
          go_enter Tryd.func5, Tryd.ntmps5
          go_wp2
          go_ret
          exact ⟨by rw [e.out]; rfl, World.grownBy_alloc w _ none⟩
        · have hw2 : IntKind.i64.wrap (c - 2) = c - 2 := by simp [IntKind.wrap, IntKind.bits, IntKind.signed]; omega
          by_cases hr : r = 0
          · subst hr
            by_cases ht : t = 0
            · subst ht
              by_cases hk : k = 0
              · subst hk
                by_cases hf : f = 0
                · subst hf
                  by_cases hn : n = 0
                  · subst hn
                    have e : Hid (may ⟨v, c, 0, 0, 0, 0, 0⟩ = true) := may_iff.2 (by omega)
                    go_enter Tryd.func5, Tryd.ntmps5
                    go_wp2
                    go_ret
                    exact ⟨by rw [e.out]; rfl, World.grownBy_alloc w _ none⟩
                  · have hnb : (n == 0) = false := by simp [hn]
                    have hnc : (n != 0) = true := by simp [hn]
                    have e : Hid (may ⟨v, c, 0, 0, 0, 0, n⟩ = false) := may_no (by omega)
                    go_enter Tryd.func5, Tryd.ntmps5
                    go_wp2
                    go_ret
                    exact ⟨by rw [e.out]; rfl, World.grownBy_alloc w _ none⟩
                · have hfb : (f == 0) = false := by simp [hf]
                  have hfc : (f != 0) = true := by simp [hf]
                  by_cases c0 : 2 ≤ f
                  · by_cases c1 : f < c
                    · by_cases c2 : 1 ≤ n
                      · by_cases c3 : n ≤ c - 2
                        · have e : Hid (may ⟨v, c, 0, 0, 0, f, n⟩ = true) := may_iff.2 (by omega)
                          go_enter Tryd.func5, Tryd.ntmps5
                          go_wp2
                          go_ret
                          exact ⟨by rw [e.out]; rfl, World.grownBy_alloc w _ none⟩
                        · have e : Hid (may ⟨v, c, 0, 0, 0, f, n⟩ = false) := may_no (by omega)
                          go_enter Tryd.func5, Tryd.ntmps5
                          go_wp2
                          go_ret
                          exact ⟨by rw [e.out]; rfl, World.grownBy_alloc w _ none⟩
                      · have e : Hid (may ⟨v, c, 0, 0, 0, f, n⟩ = false) := may_no (by omega)
                        go_enter Tryd.func5, Tryd.ntmps5
                        go_wp2
                        go_ret
                        exact ⟨by rw [e.out]; rfl, World.grownBy_alloc w _ none⟩
                    · have e : Hid (may ⟨v, c, 0, 0, 0, f, n⟩ = false) := may_no (by omega)
                      go_enter Tryd.func5, Tryd.ntmps5
                      go_wp2
                      go_ret
                      exact ⟨by rw [e.out]; rfl, World.grownBy_alloc w _ none⟩
                  · have e : Hid (may ⟨v, c, 0, 0, 0, f, n⟩ = false) := may_no (by omega)
                    go_enter Tryd.func5, Tryd.ntmps5
                    go_wp2
                    go_ret
                    exact ⟨by rw [e.out]; rfl, World.grownBy_alloc w _ none⟩
              · have hkb : (k == 0) = false := by simp [hk]
                have hkc : (k != 0) = true := by simp [hk]
                by_cases hf : f = 0
                · subst hf
                  have e : Hid (may ⟨v, c, 0, 0, k, 0, n⟩ = false) := may_no (by omega)
                  go_enter Tryd.func5, Tryd.ntmps5
                  go_wp2
                  go_ret
                  exact ⟨by rw [e.out]; rfl, World.grownBy_alloc w _ none⟩
                · have hfb : (f == 0) = false := by simp [hf]
                  have hfc : (f != 0) = true := by simp [hf]
                  have e : Hid (may ⟨v, c, 0, 0, k, f, n⟩ = false) := may_no (by omega)
                  go_enter Tryd.func5, Tryd.ntmps5
                  go_wp2
                  go_ret
                  exact ⟨by rw [e.out]; rfl, World.grownBy_alloc w _ none⟩
            · have htb : (t == 0) = false := by simp [ht]
              have htc : (t != 0) = true := by simp [ht]
              by_cases hf : f = 0
              · subst hf
                have e : Hid (may ⟨v, c, 0, t, k, 0, n⟩ = false) := may_no (by omega)
                go_enter Tryd.func5, Tryd.ntmps5
                go_wp2
                go_ret
                exact ⟨by rw [e.out]; rfl, World.grownBy_alloc w _ none⟩
              · have hfb : (f == 0) = false := by simp [hf]
                have hfc : (f != 0) = true := by simp [hf]
                have e : Hid (may ⟨v, c, 0, t, k, f, n⟩ = false) := may_no (by omega)
                go_enter Tryd.func5, Tryd.ntmps5
                go_wp2
                go_ret
                exact ⟨by rw [e.out]; rfl, World.grownBy_alloc w _ none⟩
          · have hrb : (r == 0) = false := by simp [hr]
            have hrc : (r != 0) = true := by simp [hr]
            by_cases r0 : 2 ≤ r
            · by_cases r1 : r < c
              · by_cases r2 : 1 ≤ t
                · by_cases r3 : t ≤ 16
                  · by_cases r4 : 1 ≤ k
                    · by_cases r5 : k ≤ 4294967295
                      · by_cases hf : f = 0
                        · subst hf
                          by_cases hn : n = 0
                          · subst hn
                            have e : Hid (may ⟨v, c, r, t, k, 0, 0⟩ = true) := may_iff.2 (by omega)
                            go_enter Tryd.func5, Tryd.ntmps5
                            go_wp2
                            go_ret
                            exact ⟨by rw [e.out]; rfl, World.grownBy_alloc w _ none⟩
                          · have hnb : (n == 0) = false := by simp [hn]
                            have hnc : (n != 0) = true := by simp [hn]
                            have e : Hid (may ⟨v, c, r, t, k, 0, n⟩ = false) := may_no (by omega)
                            go_enter Tryd.func5, Tryd.ntmps5
                            go_wp2
                            go_ret
                            exact ⟨by rw [e.out]; rfl, World.grownBy_alloc w _ none⟩
                        · have hfb : (f == 0) = false := by simp [hf]
                          have hfc : (f != 0) = true := by simp [hf]
                          by_cases c0 : 2 ≤ f
                          · by_cases c1 : f < c
                            · by_cases c2 : 1 ≤ n
                              · by_cases c3 : n ≤ c - 2
                                · have e : Hid (may ⟨v, c, r, t, k, f, n⟩ = true) := may_iff.2 (by omega)
                                  go_enter Tryd.func5, Tryd.ntmps5
                                  go_wp2
                                  go_ret
                                  exact ⟨by rw [e.out]; rfl, World.grownBy_alloc w _ none⟩
                                · have e : Hid (may ⟨v, c, r, t, k, f, n⟩ = false) := may_no (by omega)
                                  go_enter Tryd.func5, Tryd.ntmps5
                                  go_wp2
                                  go_ret
                                  exact ⟨by rw [e.out]; rfl, World.grownBy_alloc w _ none⟩
                              · have e : Hid (may ⟨v, c, r, t, k, f, n⟩ = false) := may_no (by omega)
                                go_enter Tryd.func5, Tryd.ntmps5
                                go_wp2
                                go_ret
                                exact ⟨by rw [e.out]; rfl, World.grownBy_alloc w _ none⟩
                            · have e : Hid (may ⟨v, c, r, t, k, f, n⟩ = false) := may_no (by omega)
                              go_enter Tryd.func5, Tryd.ntmps5
                              go_wp2
                              go_ret
                              exact ⟨by rw [e.out]; rfl, World.grownBy_alloc w _ none⟩
                          · have e : Hid (may ⟨v, c, r, t, k, f, n⟩ = false) := may_no (by omega)
                            go_enter Tryd.func5, Tryd.ntmps5
                            go_wp2
                            go_ret
                            exact ⟨by rw [e.out]; rfl, World.grownBy_alloc w _ none⟩
                      · by_cases hf : f = 0
                        · subst hf
                          have e : Hid (may ⟨v, c, r, t, k, 0, n⟩ = false) := may_no (by omega)
                          go_enter Tryd.func5, Tryd.ntmps5
                          go_wp2
                          go_ret
                          exact ⟨by rw [e.out]; rfl, World.grownBy_alloc w _ none⟩
                        · have hfb : (f == 0) = false := by simp [hf]
                          have hfc : (f != 0) = true := by simp [hf]
                          have e : Hid (may ⟨v, c, r, t, k, f, n⟩ = false) := may_no (by omega)
                          go_enter Tryd.func5, Tryd.ntmps5
                          go_wp2
                          go_ret
                          exact ⟨by rw [e.out]; rfl, World.grownBy_alloc w _ none⟩
                    · by_cases hf : f = 0
                      · subst hf
                        have e : Hid (may ⟨v, c, r, t, k, 0, n⟩ = false) := may_no (by omega)
                        go_enter Tryd.func5, Tryd.ntmps5
                        go_wp2
                        go_ret
                        exact ⟨by rw [e.out]; rfl, World.grownBy_alloc w _ none⟩
                      · have hfb : (f == 0) = false := by simp [hf]
                        have hfc : (f != 0) = true := by simp [hf]
                        have e : Hid (may ⟨v, c, r, t, k, f, n⟩ = false) := may_no (by omega)
                        go_enter Tryd.func5, Tryd.ntmps5
                        go_wp2
                        go_ret
                        exact ⟨by rw [e.out]; rfl, World.grownBy_alloc w _ none⟩
                  · by_cases hf : f = 0
                    · subst hf
                      have e : Hid (may ⟨v, c, r, t, k, 0, n⟩ = false) := may_no (by omega)
                      go_enter Tryd.func5, Tryd.ntmps5
                      go_wp2
                      go_ret
                      exact ⟨by rw [e.out]; rfl, World.grownBy_alloc w _ none⟩
                    · have hfb : (f == 0) = false := by simp [hf]
                      have hfc : (f != 0) = true := by simp [hf]
                      have e : Hid (may ⟨v, c, r, t, k, f, n⟩ = false) := may_no (by omega)
                      go_enter Tryd.func5, Tryd.ntmps5
                      go_wp2
                      go_ret
                      exact ⟨by rw [e.out]; rfl, World.grownBy_alloc w _ none⟩
                · by_cases hf : f = 0
                  · subst hf
                    have e : Hid (may ⟨v, c, r, t, k, 0, n⟩ = false) := may_no (by omega)
                    go_enter Tryd.func5, Tryd.ntmps5
                    go_wp2
                    go_ret
                    exact ⟨by rw [e.out]; rfl, World.grownBy_alloc w _ none⟩
                  · have hfb : (f == 0) = false := by simp [hf]
                    have hfc : (f != 0) = true := by simp [hf]
                    have e : Hid (may ⟨v, c, r, t, k, f, n⟩ = false) := may_no (by omega)
                    go_enter Tryd.func5, Tryd.ntmps5
                    go_wp2
                    go_ret
                    exact ⟨by rw [e.out]; rfl, World.grownBy_alloc w _ none⟩
              · by_cases hf : f = 0
                · subst hf
                  have e : Hid (may ⟨v, c, r, t, k, 0, n⟩ = false) := may_no (by omega)
                  go_enter Tryd.func5, Tryd.ntmps5
                  go_wp2
                  go_ret
                  exact ⟨by rw [e.out]; rfl, World.grownBy_alloc w _ none⟩
                · have hfb : (f == 0) = false := by simp [hf]
                  have hfc : (f != 0) = true := by simp [hf]
                  have e : Hid (may ⟨v, c, r, t, k, f, n⟩ = false) := may_no (by omega)
                  go_enter Tryd.func5, Tryd.ntmps5
                  go_wp2
                  go_ret
                  exact ⟨by rw [e.out]; rfl, World.grownBy_alloc w _ none⟩
            · by_cases hf : f = 0
              · subst hf
                have e : Hid (may ⟨v, c, r, t, k, 0, n⟩ = false) := may_no (by omega)
                go_enter Tryd.func5, Tryd.ntmps5
                go_wp2
                go_ret
                exact ⟨by rw [e.out]; rfl, World.grownBy_alloc w _ none⟩
              · have hfb : (f == 0) = false := by simp [hf]
                have hfc : (f != 0) = true := by simp [hf]
                have e : Hid (may ⟨v, c, r, t, k, f, n⟩ = false) := may_no (by omega)
                go_enter Tryd.func5, Tryd.ntmps5
                go_wp2
                go_ret
                exact ⟨by rw [e.out]; rfl, World.grownBy_alloc w _ none⟩
end Go.Proofs.YtjbigfnggelceabDoor
