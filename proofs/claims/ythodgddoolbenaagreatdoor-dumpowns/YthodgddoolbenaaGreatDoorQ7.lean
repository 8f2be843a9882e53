import Derived.Test.YthodgddoolbenaaGreatDoorQ2
namespace Go.Proofs.YthodgddoolbenaaGreatDoor
open Go.RowKit
set_option maxHeartbeats 400000 in
theorem ints_untouched (B : Nat) (w : World) {ao : Option Addr} {c : Nat} (h : w.cell? ⟨B, 5, none⟩ = some (.slice ao 0 c)) :
  Calls Tryz.prog 48 #[.pointer (some ⟨B, 0, none⟩)] w fun en w' => en = .returned (.bool true) ∧ w' = w := by
 go_enter Tryz.func48, Tryz.ntmps48
 go_wp2
 refine wp_loop_rounds 1 ?_
 rw [rounds_succ]
 go_wp2
 go_ret
 exact ⟨rfl, rfl⟩
set_option maxHeartbeats 400000 in
theorem ints_write (B : Nat) (id : Int) (w : World) {ao : Option Addr} {c : Nat} (h : w.cell? ⟨B, 5, none⟩ = some (.slice ao 0 c)) :
  Calls Tryz.prog 61 #[.pointer (some ⟨B, 0, none⟩), .int .i64 id] w fun en w' => en = .returned (.int .i64 id) ∧ w' = w := by
 go_enter Tryz.func61, Tryz.ntmps61
 go_wp2
 refine wp_loop_rounds 1 ?_
 rw [rounds_succ]
 go_wp2
 go_ret
 exact ⟨rfl, rfl⟩
set_option maxHeartbeats 400000 in
theorem ints_hold (B : Nat) (id : Int) (w : World) {ao : Option Addr} {c : Nat} (h : w.cell? ⟨B, 5, none⟩ = some (.slice ao 0 c)) :
  Calls Tryz.prog 74 #[.pointer (some ⟨B, 0, none⟩), .int .i64 id] w fun en w' => en = .returned (.tuple #[.int .i64 id, .bool true]) ∧ w' = w := by
 go_enter Tryz.func74, Tryz.ntmps74
 go_wp2
 refine wp_loop_rounds 1 ?_
 rw [rounds_succ]
 go_wp2
 go_ret2
 exact ⟨rfl, rfl⟩
set_option maxHeartbeats 400000 in
theorem ints_grow (B : Nat) (id t : Int) (w : World) {ao : Option Addr} {c : Nat} (h : w.cell? ⟨B, 5, none⟩ = some (.slice ao 0 c)) :
  Calls Tryz.prog 87 #[.pointer (some ⟨B, 0, none⟩), .int .i64 id, .int .i64 t] w fun en w' => en = .returned (.int .i64 id) ∧ w' = w := by
 go_enter Tryz.func87, Tryz.ntmps87
 go_wp2
 refine wp_loop_rounds 1 ?_
 rw [rounds_succ]
 go_wp2
 go_ret
 exact ⟨rfl, rfl⟩
set_option maxHeartbeats 400000 in
theorem texts_untouched (B : Nat) (w : World) {ao : Option Addr} {c : Nat} (h : w.cell? ⟨B, 8, none⟩ = some (.slice ao 0 c)) :
  Calls Tryz.prog 49 #[.pointer (some ⟨B, 0, none⟩)] w fun en w' => en = .returned (.bool true) ∧ w' = w := by
 go_enter Tryz.func49, Tryz.ntmps49
 go_wp2
 refine wp_loop_rounds 1 ?_
 rw [rounds_succ]
 go_wp2
 go_ret
 exact ⟨rfl, rfl⟩
set_option maxHeartbeats 400000 in
theorem texts_write (B : Nat) (id : Int) (w : World) {ao : Option Addr} {c : Nat} (h : w.cell? ⟨B, 8, none⟩ = some (.slice ao 0 c)) :
  Calls Tryz.prog 62 #[.pointer (some ⟨B, 0, none⟩), .int .i64 id] w fun en w' => en = .returned (.int .i64 id) ∧ w' = w := by
 go_enter Tryz.func62, Tryz.ntmps62
 go_wp2
 refine wp_loop_rounds 1 ?_
 rw [rounds_succ]
 go_wp2
 go_ret
 exact ⟨rfl, rfl⟩
set_option maxHeartbeats 400000 in
theorem texts_hold (B : Nat) (id : Int) (w : World) {ao : Option Addr} {c : Nat} (h : w.cell? ⟨B, 8, none⟩ = some (.slice ao 0 c)) :
  Calls Tryz.prog 75 #[.pointer (some ⟨B, 0, none⟩), .int .i64 id] w fun en w' => en = .returned (.tuple #[.int .i64 id, .bool true]) ∧ w' = w := by
 go_enter Tryz.func75, Tryz.ntmps75
 go_wp2
 refine wp_loop_rounds 1 ?_
 rw [rounds_succ]
 go_wp2
 go_ret2
 exact ⟨rfl, rfl⟩
set_option maxHeartbeats 400000 in
theorem texts_grow (B : Nat) (id t : Int) (w : World) {ao : Option Addr} {c : Nat} (h : w.cell? ⟨B, 8, none⟩ = some (.slice ao 0 c)) :
  Calls Tryz.prog 88 #[.pointer (some ⟨B, 0, none⟩), .int .i64 id, .int .i64 t] w fun en w' => en = .returned (.int .i64 id) ∧ w' = w := by
 go_enter Tryz.func88, Tryz.ntmps88
 go_wp2
 refine wp_loop_rounds 1 ?_
 rw [rounds_succ]
 go_wp2
 go_ret
 exact ⟨rfl, rfl⟩
set_option maxHeartbeats 400000 in
theorem byteLists_untouched (B : Nat) (w : World) {ao : Option Addr} {c : Nat} (h : w.cell? ⟨B, 11, none⟩ = some (.slice ao 0 c)) :
  Calls Tryz.prog 50 #[.pointer (some ⟨B, 0, none⟩)] w fun en w' => en = .returned (.bool true) ∧ w' = w := by
 go_enter Tryz.func50, Tryz.ntmps50
 go_wp2
 refine wp_loop_rounds 1 ?_
 rw [rounds_succ]
 go_wp2
 go_ret
 exact ⟨rfl, rfl⟩
set_option maxHeartbeats 400000 in
theorem byteLists_write (B : Nat) (id : Int) (w : World) {ao : Option Addr} {c : Nat} (h : w.cell? ⟨B, 11, none⟩ = some (.slice ao 0 c)) :
  Calls Tryz.prog 63 #[.pointer (some ⟨B, 0, none⟩), .int .i64 id] w fun en w' => en = .returned (.int .i64 id) ∧ w' = w := by
 go_enter Tryz.func63, Tryz.ntmps63
 go_wp2
 refine wp_loop_rounds 1 ?_
 rw [rounds_succ]
 go_wp2
 go_ret
 exact ⟨rfl, rfl⟩
set_option maxHeartbeats 400000 in
theorem byteLists_hold (B : Nat) (id : Int) (w : World) {ao : Option Addr} {c : Nat} (h : w.cell? ⟨B, 11, none⟩ = some (.slice ao 0 c)) :
  Calls Tryz.prog 76 #[.pointer (some ⟨B, 0, none⟩), .int .i64 id] w fun en w' => en = .returned (.tuple #[.int .i64 id, .bool true]) ∧ w' = w := by
 go_enter Tryz.func76, Tryz.ntmps76
 go_wp2
 refine wp_loop_rounds 1 ?_
 rw [rounds_succ]
 go_wp2
 go_ret2
 exact ⟨rfl, rfl⟩
set_option maxHeartbeats 400000 in
theorem byteLists_grow (B : Nat) (id t : Int) (w : World) {ao : Option Addr} {c : Nat} (h : w.cell? ⟨B, 11, none⟩ = some (.slice ao 0 c)) :
  Calls Tryz.prog 89 #[.pointer (some ⟨B, 0, none⟩), .int .i64 id, .int .i64 t] w fun en w' => en = .returned (.int .i64 id) ∧ w' = w := by
 go_enter Tryz.func89, Tryz.ntmps89
 go_wp2
 refine wp_loop_rounds 1 ?_
 rw [rounds_succ]
 go_wp2
 go_ret
 exact ⟨rfl, rfl⟩
set_option maxHeartbeats 400000 in
theorem intLists_untouched (B : Nat) (w : World) {ao : Option Addr} {c : Nat} (h : w.cell? ⟨B, 14, none⟩ = some (.slice ao 0 c)) :
  Calls Tryz.prog 51 #[.pointer (some ⟨B, 0, none⟩)] w fun en w' => en = .returned (.bool true) ∧ w' = w := by
 go_enter Tryz.func51, Tryz.ntmps51
 go_wp2
 refine wp_loop_rounds 1 ?_
 rw [rounds_succ]
 go_wp2
 go_ret
 exact ⟨rfl, rfl⟩
set_option maxHeartbeats 400000 in
theorem intLists_write (B : Nat) (id : Int) (w : World) {ao : Option Addr} {c : Nat} (h : w.cell? ⟨B, 14, none⟩ = some (.slice ao 0 c)) :
  Calls Tryz.prog 64 #[.pointer (some ⟨B, 0, none⟩), .int .i64 id] w fun en w' => en = .returned (.int .i64 id) ∧ w' = w := by
 go_enter Tryz.func64, Tryz.ntmps64
 go_wp2
 refine wp_loop_rounds 1 ?_
 rw [rounds_succ]
 go_wp2
 go_ret
 exact ⟨rfl, rfl⟩
set_option maxHeartbeats 400000 in
theorem intLists_hold (B : Nat) (id : Int) (w : World) {ao : Option Addr} {c : Nat} (h : w.cell? ⟨B, 14, none⟩ = some (.slice ao 0 c)) :
  Calls Tryz.prog 77 #[.pointer (some ⟨B, 0, none⟩), .int .i64 id] w fun en w' => en = .returned (.tuple #[.int .i64 id, .bool true]) ∧ w' = w := by
 go_enter Tryz.func77, Tryz.ntmps77
 go_wp2
 refine wp_loop_rounds 1 ?_
 rw [rounds_succ]
 go_wp2
 go_ret2
 exact ⟨rfl, rfl⟩
set_option maxHeartbeats 400000 in
theorem intLists_grow (B : Nat) (id t : Int) (w : World) {ao : Option Addr} {c : Nat} (h : w.cell? ⟨B, 14, none⟩ = some (.slice ao 0 c)) :
  Calls Tryz.prog 90 #[.pointer (some ⟨B, 0, none⟩), .int .i64 id, .int .i64 t] w fun en w' => en = .returned (.int .i64 id) ∧ w' = w := by
 go_enter Tryz.func90, Tryz.ntmps90
 go_wp2
 refine wp_loop_rounds 1 ?_
 rw [rounds_succ]
 go_wp2
 go_ret
 exact ⟨rfl, rfl⟩
set_option maxHeartbeats 400000 in
theorem items_untouched (B : Nat) (w : World) {ao : Option Addr} {c : Nat} (h : w.cell? ⟨B, 20, none⟩ = some (.slice ao 0 c)) :
  Calls Tryz.prog 53 #[.pointer (some ⟨B, 0, none⟩)] w fun en w' => en = .returned (.bool true) ∧ w' = w := by
 go_enter Tryz.func53, Tryz.ntmps53
 go_wp2
 refine wp_loop_rounds 1 ?_
 rw [rounds_succ]
 go_wp2
 go_ret
 exact ⟨rfl, rfl⟩
set_option maxHeartbeats 400000 in
theorem items_write (B : Nat) (id : Int) (w : World) {ao : Option Addr} {c : Nat} (h : w.cell? ⟨B, 20, none⟩ = some (.slice ao 0 c)) :
  Calls Tryz.prog 66 #[.pointer (some ⟨B, 0, none⟩), .int .i64 id] w fun en w' => en = .returned (.int .i64 id) ∧ w' = w := by
 go_enter Tryz.func66, Tryz.ntmps66
 go_wp2
 refine wp_loop_rounds 1 ?_
 rw [rounds_succ]
 go_wp2
 go_ret
 exact ⟨rfl, rfl⟩
set_option maxHeartbeats 400000 in
theorem items_hold (B : Nat) (id : Int) (w : World) {ao : Option Addr} {c : Nat} (h : w.cell? ⟨B, 20, none⟩ = some (.slice ao 0 c)) :
  Calls Tryz.prog 79 #[.pointer (some ⟨B, 0, none⟩), .int .i64 id] w fun en w' => en = .returned (.tuple #[.int .i64 id, .bool true]) ∧ w' = w := by
 go_enter Tryz.func79, Tryz.ntmps79
 go_wp2
 refine wp_loop_rounds 1 ?_
 rw [rounds_succ]
 go_wp2
 go_ret2
 exact ⟨rfl, rfl⟩
set_option maxHeartbeats 400000 in
theorem items_grow (B : Nat) (id t : Int) (w : World) {ao : Option Addr} {c : Nat} (h : w.cell? ⟨B, 20, none⟩ = some (.slice ao 0 c)) :
  Calls Tryz.prog 92 #[.pointer (some ⟨B, 0, none⟩), .int .i64 id, .int .i64 t] w fun en w' => en = .returned (.int .i64 id) ∧ w' = w := by
 go_enter Tryz.func92, Tryz.ntmps92
 go_wp2
 refine wp_loop_rounds 1 ?_
 rw [rounds_succ]
 go_wp2
 go_ret
 exact ⟨rfl, rfl⟩
set_option maxHeartbeats 400000 in
theorem kids_untouched (B : Nat) (w : World) {ao : Option Addr} {c : Nat} (h : w.cell? ⟨B, 23, none⟩ = some (.slice ao 0 c)) :
  Calls Tryz.prog 54 #[.pointer (some ⟨B, 0, none⟩)] w fun en w' => en = .returned (.bool true) ∧ w' = w := by
 go_enter Tryz.func54, Tryz.ntmps54
 go_wp2
 refine wp_loop_rounds 1 ?_
 rw [rounds_succ]
 go_wp2
 go_ret
 exact ⟨rfl, rfl⟩
set_option maxHeartbeats 400000 in
theorem kids_write (B : Nat) (id : Int) (w : World) {ao : Option Addr} {c : Nat} (h : w.cell? ⟨B, 23, none⟩ = some (.slice ao 0 c)) :
  Calls Tryz.prog 67 #[.pointer (some ⟨B, 0, none⟩), .int .i64 id] w fun en w' => en = .returned (.int .i64 id) ∧ w' = w := by
 go_enter Tryz.func67, Tryz.ntmps67
 go_wp2
 refine wp_loop_rounds 1 ?_
 rw [rounds_succ]
 go_wp2
 go_ret
 exact ⟨rfl, rfl⟩
set_option maxHeartbeats 400000 in
theorem kids_hold (B : Nat) (id : Int) (w : World) {ao : Option Addr} {c : Nat} (h : w.cell? ⟨B, 23, none⟩ = some (.slice ao 0 c)) :
  Calls Tryz.prog 80 #[.pointer (some ⟨B, 0, none⟩), .int .i64 id] w fun en w' => en = .returned (.tuple #[.int .i64 id, .bool true]) ∧ w' = w := by
 go_enter Tryz.func80, Tryz.ntmps80
 go_wp2
 refine wp_loop_rounds 1 ?_
 rw [rounds_succ]
 go_wp2
 go_ret2
 exact ⟨rfl, rfl⟩
set_option maxHeartbeats 400000 in
theorem kids_grow (B : Nat) (id t : Int) (w : World) {ao : Option Addr} {c : Nat} (h : w.cell? ⟨B, 23, none⟩ = some (.slice ao 0 c)) :
  Calls Tryz.prog 93 #[.pointer (some ⟨B, 0, none⟩), .int .i64 id, .int .i64 t] w fun en w' => en = .returned (.int .i64 id) ∧ w' = w := by
 go_enter Tryz.func93, Tryz.ntmps93
 go_wp2
 refine wp_loop_rounds 1 ?_
 rw [rounds_succ]
 go_wp2
 go_ret
 exact ⟨rfl, rfl⟩
set_option maxHeartbeats 400000 in
theorem nodes_untouched (B : Nat) (w : World) {ao : Option Addr} {c : Nat} (h : w.cell? ⟨B, 26, none⟩ = some (.slice ao 0 c)) :
  Calls Tryz.prog 55 #[.pointer (some ⟨B, 0, none⟩)] w fun en w' => en = .returned (.bool true) ∧ w' = w := by
 go_enter Tryz.func55, Tryz.ntmps55
 go_wp2
 refine wp_loop_rounds 1 ?_
 rw [rounds_succ]
 go_wp2
 go_ret
 exact ⟨rfl, rfl⟩
set_option maxHeartbeats 400000 in
theorem nodes_write (B : Nat) (id : Int) (w : World) {ao : Option Addr} {c : Nat} (h : w.cell? ⟨B, 26, none⟩ = some (.slice ao 0 c)) :
  Calls Tryz.prog 68 #[.pointer (some ⟨B, 0, none⟩), .int .i64 id] w fun en w' => en = .returned (.int .i64 id) ∧ w' = w := by
 go_enter Tryz.func68, Tryz.ntmps68
 go_wp2
 refine wp_loop_rounds 1 ?_
 rw [rounds_succ]
 go_wp2
 go_ret
 exact ⟨rfl, rfl⟩
set_option maxHeartbeats 400000 in
theorem nodes_hold (B : Nat) (id : Int) (w : World) {ao : Option Addr} {c : Nat} (h : w.cell? ⟨B, 26, none⟩ = some (.slice ao 0 c)) :
  Calls Tryz.prog 81 #[.pointer (some ⟨B, 0, none⟩), .int .i64 id] w fun en w' => en = .returned (.tuple #[.int .i64 id, .bool true]) ∧ w' = w := by
 go_enter Tryz.func81, Tryz.ntmps81
 go_wp2
 refine wp_loop_rounds 1 ?_
 rw [rounds_succ]
 go_wp2
 go_ret2
 exact ⟨rfl, rfl⟩
set_option maxHeartbeats 400000 in
theorem nodes_grow (B : Nat) (id t : Int) (w : World) {ao : Option Addr} {c : Nat} (h : w.cell? ⟨B, 26, none⟩ = some (.slice ao 0 c)) :
  Calls Tryz.prog 94 #[.pointer (some ⟨B, 0, none⟩), .int .i64 id, .int .i64 t] w fun en w' => en = .returned (.int .i64 id) ∧ w' = w := by
 go_enter Tryz.func94, Tryz.ntmps94
 go_wp2
 refine wp_loop_rounds 1 ?_
 rw [rounds_succ]
 go_wp2
 go_ret
 exact ⟨rfl, rfl⟩
set_option maxHeartbeats 400000 in
theorem writes_untouched (B : Nat) (w : World) {ao : Option Addr} {c : Nat} (h : w.cell? ⟨B, 29, none⟩ = some (.slice ao 0 c)) :
  Calls Tryz.prog 56 #[.pointer (some ⟨B, 0, none⟩)] w fun en w' => en = .returned (.bool true) ∧ w' = w := by
 go_enter Tryz.func56, Tryz.ntmps56
 go_wp2
 refine wp_loop_rounds 1 ?_
 rw [rounds_succ]
 go_wp2
 go_ret
 exact ⟨rfl, rfl⟩
set_option maxHeartbeats 400000 in
theorem writes_write (B : Nat) (id : Int) (w : World) {ao : Option Addr} {c : Nat} (h : w.cell? ⟨B, 29, none⟩ = some (.slice ao 0 c)) :
  Calls Tryz.prog 69 #[.pointer (some ⟨B, 0, none⟩), .int .i64 id] w fun en w' => en = .returned (.int .i64 id) ∧ w' = w := by
 go_enter Tryz.func69, Tryz.ntmps69
 go_wp2
 refine wp_loop_rounds 1 ?_
 rw [rounds_succ]
 go_wp2
 go_ret
 exact ⟨rfl, rfl⟩
set_option maxHeartbeats 400000 in
theorem writes_hold (B : Nat) (id : Int) (w : World) {ao : Option Addr} {c : Nat} (h : w.cell? ⟨B, 29, none⟩ = some (.slice ao 0 c)) :
  Calls Tryz.prog 82 #[.pointer (some ⟨B, 0, none⟩), .int .i64 id] w fun en w' => en = .returned (.tuple #[.int .i64 id, .bool true]) ∧ w' = w := by
 go_enter Tryz.func82, Tryz.ntmps82
 go_wp2
 refine wp_loop_rounds 1 ?_
 rw [rounds_succ]
 go_wp2
 go_ret2
 exact ⟨rfl, rfl⟩
set_option maxHeartbeats 400000 in
theorem writes_grow (B : Nat) (id t : Int) (w : World) {ao : Option Addr} {c : Nat} (h : w.cell? ⟨B, 29, none⟩ = some (.slice ao 0 c)) :
  Calls Tryz.prog 95 #[.pointer (some ⟨B, 0, none⟩), .int .i64 id, .int .i64 t] w fun en w' => en = .returned (.int .i64 id) ∧ w' = w := by
 go_enter Tryz.func95, Tryz.ntmps95
 go_wp2
 refine wp_loop_rounds 1 ?_
 rw [rounds_succ]
 go_wp2
 go_ret
 exact ⟨rfl, rfl⟩
set_option maxHeartbeats 400000 in
theorem changes_untouched (B : Nat) (w : World) {ao : Option Addr} {c : Nat} (h : w.cell? ⟨B, 32, none⟩ = some (.slice ao 0 c)) :
  Calls Tryz.prog 57 #[.pointer (some ⟨B, 0, none⟩)] w fun en w' => en = .returned (.bool true) ∧ w' = w := by
 go_enter Tryz.func57, Tryz.ntmps57
 go_wp2
 refine wp_loop_rounds 1 ?_
 rw [rounds_succ]
 go_wp2
 go_ret
 exact ⟨rfl, rfl⟩
set_option maxHeartbeats 400000 in
theorem changes_write (B : Nat) (id : Int) (w : World) {ao : Option Addr} {c : Nat} (h : w.cell? ⟨B, 32, none⟩ = some (.slice ao 0 c)) :
  Calls Tryz.prog 70 #[.pointer (some ⟨B, 0, none⟩), .int .i64 id] w fun en w' => en = .returned (.int .i64 id) ∧ w' = w := by
 go_enter Tryz.func70, Tryz.ntmps70
 go_wp2
 refine wp_loop_rounds 1 ?_
 rw [rounds_succ]
 go_wp2
 go_ret
 exact ⟨rfl, rfl⟩
set_option maxHeartbeats 400000 in
theorem changes_hold (B : Nat) (id : Int) (w : World) {ao : Option Addr} {c : Nat} (h : w.cell? ⟨B, 32, none⟩ = some (.slice ao 0 c)) :
  Calls Tryz.prog 83 #[.pointer (some ⟨B, 0, none⟩), .int .i64 id] w fun en w' => en = .returned (.tuple #[.int .i64 id, .bool true]) ∧ w' = w := by
 go_enter Tryz.func83, Tryz.ntmps83
 go_wp2
 refine wp_loop_rounds 1 ?_
 rw [rounds_succ]
 go_wp2
 go_ret2
 exact ⟨rfl, rfl⟩
set_option maxHeartbeats 400000 in
theorem changes_grow (B : Nat) (id t : Int) (w : World) {ao : Option Addr} {c : Nat} (h : w.cell? ⟨B, 32, none⟩ = some (.slice ao 0 c)) :
  Calls Tryz.prog 96 #[.pointer (some ⟨B, 0, none⟩), .int .i64 id, .int .i64 t] w fun en w' => en = .returned (.int .i64 id) ∧ w' = w := by
 go_enter Tryz.func96, Tryz.ntmps96
 go_wp2
 refine wp_loop_rounds 1 ?_
 rw [rounds_succ]
 go_wp2
 go_ret
 exact ⟨rfl, rfl⟩
set_option maxHeartbeats 400000 in
theorem fates_untouched (B : Nat) (w : World) {ao : Option Addr} {c : Nat} (h : w.cell? ⟨B, 35, none⟩ = some (.slice ao 0 c)) :
  Calls Tryz.prog 58 #[.pointer (some ⟨B, 0, none⟩)] w fun en w' => en = .returned (.bool true) ∧ w' = w := by
 go_enter Tryz.func58, Tryz.ntmps58
 go_wp2
 refine wp_loop_rounds 1 ?_
 rw [rounds_succ]
 go_wp2
 go_ret
 exact ⟨rfl, rfl⟩
set_option maxHeartbeats 400000 in
theorem fates_write (B : Nat) (id : Int) (w : World) {ao : Option Addr} {c : Nat} (h : w.cell? ⟨B, 35, none⟩ = some (.slice ao 0 c)) :
  Calls Tryz.prog 71 #[.pointer (some ⟨B, 0, none⟩), .int .i64 id] w fun en w' => en = .returned (.int .i64 id) ∧ w' = w := by
 go_enter Tryz.func71, Tryz.ntmps71
 go_wp2
 refine wp_loop_rounds 1 ?_
 rw [rounds_succ]
 go_wp2
 go_ret
 exact ⟨rfl, rfl⟩
set_option maxHeartbeats 400000 in
theorem fates_hold (B : Nat) (id : Int) (w : World) {ao : Option Addr} {c : Nat} (h : w.cell? ⟨B, 35, none⟩ = some (.slice ao 0 c)) :
  Calls Tryz.prog 84 #[.pointer (some ⟨B, 0, none⟩), .int .i64 id] w fun en w' => en = .returned (.tuple #[.int .i64 id, .bool true]) ∧ w' = w := by
 go_enter Tryz.func84, Tryz.ntmps84
 go_wp2
 refine wp_loop_rounds 1 ?_
 rw [rounds_succ]
 go_wp2
 go_ret2
 exact ⟨rfl, rfl⟩
set_option maxHeartbeats 400000 in
theorem fates_grow (B : Nat) (id t : Int) (w : World) {ao : Option Addr} {c : Nat} (h : w.cell? ⟨B, 35, none⟩ = some (.slice ao 0 c)) :
  Calls Tryz.prog 97 #[.pointer (some ⟨B, 0, none⟩), .int .i64 id, .int .i64 t] w fun en w' => en = .returned (.int .i64 id) ∧ w' = w := by
 go_enter Tryz.func97, Tryz.ntmps97
 go_wp2
 refine wp_loop_rounds 1 ?_
 rw [rounds_succ]
 go_wp2
 go_ret
 exact ⟨rfl, rfl⟩
set_option maxHeartbeats 400000 in
theorem ops_untouched (B : Nat) (w : World) {ao : Option Addr} {c : Nat} (h : w.cell? ⟨B, 38, none⟩ = some (.slice ao 0 c)) :
  Calls Tryz.prog 59 #[.pointer (some ⟨B, 0, none⟩)] w fun en w' => en = .returned (.bool true) ∧ w' = w := by
 go_enter Tryz.func59, Tryz.ntmps59
 go_wp2
 refine wp_loop_rounds 1 ?_
 rw [rounds_succ]
 go_wp2
 go_ret
 exact ⟨rfl, rfl⟩
set_option maxHeartbeats 400000 in
theorem ops_write (B : Nat) (id : Int) (w : World) {ao : Option Addr} {c : Nat} (h : w.cell? ⟨B, 38, none⟩ = some (.slice ao 0 c)) :
  Calls Tryz.prog 72 #[.pointer (some ⟨B, 0, none⟩), .int .i64 id] w fun en w' => en = .returned (.int .i64 id) ∧ w' = w := by
 go_enter Tryz.func72, Tryz.ntmps72
 go_wp2
 refine wp_loop_rounds 1 ?_
 rw [rounds_succ]
 go_wp2
 go_ret
 exact ⟨rfl, rfl⟩
set_option maxHeartbeats 400000 in
theorem ops_hold (B : Nat) (id : Int) (w : World) {ao : Option Addr} {c : Nat} (h : w.cell? ⟨B, 38, none⟩ = some (.slice ao 0 c)) :
  Calls Tryz.prog 85 #[.pointer (some ⟨B, 0, none⟩), .int .i64 id] w fun en w' => en = .returned (.tuple #[.int .i64 id, .bool true]) ∧ w' = w := by
 go_enter Tryz.func85, Tryz.ntmps85
 go_wp2
 refine wp_loop_rounds 1 ?_
 rw [rounds_succ]
 go_wp2
 go_ret2
 exact ⟨rfl, rfl⟩
set_option maxHeartbeats 400000 in
theorem ops_grow (B : Nat) (id t : Int) (w : World) {ao : Option Addr} {c : Nat} (h : w.cell? ⟨B, 38, none⟩ = some (.slice ao 0 c)) :
  Calls Tryz.prog 98 #[.pointer (some ⟨B, 0, none⟩), .int .i64 id, .int .i64 t] w fun en w' => en = .returned (.int .i64 id) ∧ w' = w := by
 go_enter Tryz.func98, Tryz.ntmps98
 go_wp2
 refine wp_loop_rounds 1 ?_
 rw [rounds_succ]
 go_wp2
 go_ret
 exact ⟨rfl, rfl⟩
end Go.Proofs.YthodgddoolbenaaGreatDoor
