import Derived.Test.YtlhjociijkhimaaGreatDoorMe2
namespace Go.Proofs.YtlhjociijkhimaaGreatDoor
open Go.RowKit

/-! ### Which head counts -/

def nw (v y : Int) (a b : Bool) : Int :=
  if (a && decide (v.tmod 2 = 0)) = true then (if (b && decide (¬ y.tmod 2 = 0)) = true ∧ v < y then 1 else 0) else if (b && decide (¬ y.tmod 2 = 0)) = true then 1 else -1
set_option maxHeartbeats 2000000 in
set_option maxRecDepth 100000 in
theorem newer_any (v c r t k f n v' c' r' t' k' f' n' : Int) (a b : Bool) (w : World) : Calls Tryz.prog 12 #[.agg #[.int .i64 v, .int .i64 c, .int .i64 r, .int .i64 t, .int .i64 k, .int .i64 f, .int .i64 n], .agg #[.int .i64 v', .int .i64 c', .int .i64 r', .int .i64 t', .int .i64 k', .int .i64 f', .int .i64 n'], .bool a, .bool b] w fun en w' => en = .returned (.int .i64 (nw v v' a b)) ∧ w.grownBy w' none := by
  cases a
  · cases b
    · have e : Hid (nw v v' false false = -1) := rfl
      go_enter Tryz.func12, Tryz.ntmps12
      go_wp2
      go_ret
      exact ⟨by rw [e.out]; rfl, grown_two w _ _⟩
    · by_cases h2 : v'.tmod 2 = 0
      · have e : Hid (nw v v' false true = -1) := by show _ = _; simp [nw, h2]
        go_enter Tryz.func12, Tryz.ntmps12
        go_wp2
        go_ret
        exact ⟨by rw [e.out]; rfl, grown_two w _ _⟩
      · have e : Hid (nw v v' false true = 1) := by show _ = _; simp [nw, h2]
        go_enter Tryz.func12, Tryz.ntmps12
        go_wp2
        go_ret
        exact ⟨by rw [e.out]; rfl, grown_two w _ _⟩
  · by_cases h1 : v.tmod 2 = 0
    · cases b
      · have e : Hid (nw v v' true false = 0) := by show _ = _; simp [nw, h1]
        go_enter Tryz.func12, Tryz.ntmps12
        go_wp2
        go_ret
        exact ⟨by rw [e.out]; rfl, grown_two w _ _⟩
      · by_cases h2 : v'.tmod 2 = 0
        · have e : Hid (nw v v' true true = 0) := by show _ = _; simp [nw, h1, h2]
          go_enter Tryz.func12, Tryz.ntmps12
          go_wp2
          go_ret
          exact ⟨by rw [e.out]; rfl, grown_two w _ _⟩
        · by_cases h3 : v < v'
          · have e : Hid (nw v v' true true = 1) := by show _ = _; simp [nw, h1, h2, h3]
            go_enter Tryz.func12, Tryz.ntmps12
            go_wp2
            go_ret
            exact ⟨by rw [e.out]; rfl, grown_two w _ _⟩
          · have e : Hid (nw v v' true true = 0) := by show _ = _; simp [nw, h1, h3]
            go_enter Tryz.func12, Tryz.ntmps12
            go_wp2
            go_ret
            exact ⟨by rw [e.out]; rfl, grown_two w _ _⟩
    · cases b
      · have e : Hid (nw v v' true false = -1) := by show _ = _; simp [nw, h1]
        go_enter Tryz.func12, Tryz.ntmps12
        go_wp2
        go_ret
        exact ⟨by rw [e.out]; rfl, grown_two w _ _⟩
      · by_cases h2 : v'.tmod 2 = 0
        · have e : Hid (nw v v' true true = -1) := by show _ = _; simp [nw, h1, h2]
          go_enter Tryz.func12, Tryz.ntmps12
          go_wp2
          go_ret
          exact ⟨by rw [e.out]; rfl, grown_two w _ _⟩
        · have e : Hid (nw v v' true true = 1) := by show _ = _; simp [nw, h1, h2]
          go_enter Tryz.func12, Tryz.ntmps12
          go_wp2
          go_ret
          exact ⟨by rw [e.out]; rfl, grown_two w _ _⟩

end Go.Proofs.YtlhjociijkhimaaGreatDoor
