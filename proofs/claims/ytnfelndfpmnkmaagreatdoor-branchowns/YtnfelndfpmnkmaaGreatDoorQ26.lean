import Derived.Test.YtnfelndfpmnkmaaGreatDoorQ7
namespace Go.Proofs.YtnfelndfpmnkmaaGreatDoor
open Go.RowKit
set_option maxHeartbeats 400000 in
theorem ints_untouched (B : Nat) (w : World) {ao : Option Addr} {c : Nat} (h : w.cell? ⟨B, 5, none⟩ = some (.slice ao 0 c)) :
  Calls Tryz.prog 67 #[.pointer (some ⟨B, 0, none⟩)] w fun en w' => en = .returned (.bool true) ∧ w' = w := by
 go_enter Tryz.func67, Tryz.ntmps67
 go_wp2
 refine wp_loop_rounds 1 ?_
 rw [rounds_succ]
 go_wp2
 go_ret
 exact ⟨rfl, rfl⟩
set_option maxHeartbeats 400000 in
theorem ints_write (B : Nat) (id : Int) (w : World) {ao : Option Addr} {c : Nat} (h : w.cell? ⟨B, 5, none⟩ = some (.slice ao 0 c)) :
  Calls Tryz.prog 80 #[.pointer (some ⟨B, 0, none⟩), .int .i64 id] w fun en w' => en = .returned (.int .i64 id) ∧ w' = w := by
 go_enter Tryz.func80, Tryz.ntmps80
 go_wp2
 refine wp_loop_rounds 1 ?_
 rw [rounds_succ]
 go_wp2
 go_ret
 exact ⟨rfl, rfl⟩
set_option maxHeartbeats 400000 in
theorem ints_hold (B : Nat) (id : Int) (w : World) {ao : Option Addr} {c : Nat} (h : w.cell? ⟨B, 5, none⟩ = some (.slice ao 0 c)) :
  Calls Tryz.prog 93 #[.pointer (some ⟨B, 0, none⟩), .int .i64 id] w fun en w' => en = .returned (.tuple #[.int .i64 id, .bool true]) ∧ w' = w := by
 go_enter Tryz.func93, Tryz.ntmps93
 go_wp2
 refine wp_loop_rounds 1 ?_
 rw [rounds_succ]
 go_wp2
 go_ret2
 exact ⟨rfl, rfl⟩
set_option maxHeartbeats 400000 in
theorem ints_grow (B : Nat) (id t : Int) (w : World) {ao : Option Addr} {c : Nat} (h : w.cell? ⟨B, 5, none⟩ = some (.slice ao 0 c)) :
  Calls Tryz.prog 106 #[.pointer (some ⟨B, 0, none⟩), .int .i64 id, .int .i64 t] w fun en w' => en = .returned (.int .i64 id) ∧ w' = w := by
 go_enter Tryz.func106, Tryz.ntmps106
 go_wp2
 refine wp_loop_rounds 1 ?_
 rw [rounds_succ]
 go_wp2
 go_ret
 exact ⟨rfl, rfl⟩
set_option maxHeartbeats 400000 in
theorem texts_untouched (B : Nat) (w : World) {ao : Option Addr} {c : Nat} (h : w.cell? ⟨B, 8, none⟩ = some (.slice ao 0 c)) :
  Calls Tryz.prog 68 #[.pointer (some ⟨B, 0, none⟩)] w fun en w' => en = .returned (.bool true) ∧ w' = w := by
 go_enter Tryz.func68, Tryz.ntmps68
 go_wp2
 refine wp_loop_rounds 1 ?_
 rw [rounds_succ]
 go_wp2
 go_ret
 exact ⟨rfl, rfl⟩
set_option maxHeartbeats 400000 in
theorem texts_write (B : Nat) (id : Int) (w : World) {ao : Option Addr} {c : Nat} (h : w.cell? ⟨B, 8, none⟩ = some (.slice ao 0 c)) :
  Calls Tryz.prog 81 #[.pointer (some ⟨B, 0, none⟩), .int .i64 id] w fun en w' => en = .returned (.int .i64 id) ∧ w' = w := by
 go_enter Tryz.func81, Tryz.ntmps81
 go_wp2
 refine wp_loop_rounds 1 ?_
 rw [rounds_succ]
 go_wp2
 go_ret
 exact ⟨rfl, rfl⟩
set_option maxHeartbeats 400000 in
theorem texts_hold (B : Nat) (id : Int) (w : World) {ao : Option Addr} {c : Nat} (h : w.cell? ⟨B, 8, none⟩ = some (.slice ao 0 c)) :
  Calls Tryz.prog 94 #[.pointer (some ⟨B, 0, none⟩), .int .i64 id] w fun en w' => en = .returned (.tuple #[.int .i64 id, .bool true]) ∧ w' = w := by
 go_enter Tryz.func94, Tryz.ntmps94
 go_wp2
 refine wp_loop_rounds 1 ?_
 rw [rounds_succ]
 go_wp2
 go_ret2
 exact ⟨rfl, rfl⟩
set_option maxHeartbeats 400000 in
theorem texts_grow (B : Nat) (id t : Int) (w : World) {ao : Option Addr} {c : Nat} (h : w.cell? ⟨B, 8, none⟩ = some (.slice ao 0 c)) :
  Calls Tryz.prog 107 #[.pointer (some ⟨B, 0, none⟩), .int .i64 id, .int .i64 t] w fun en w' => en = .returned (.int .i64 id) ∧ w' = w := by
 go_enter Tryz.func107, Tryz.ntmps107
 go_wp2
 refine wp_loop_rounds 1 ?_
 rw [rounds_succ]
 go_wp2
 go_ret
 exact ⟨rfl, rfl⟩
set_option maxHeartbeats 400000 in
theorem intLists_untouched (B : Nat) (w : World) {ao : Option Addr} {c : Nat} (h : w.cell? ⟨B, 14, none⟩ = some (.slice ao 0 c)) :
  Calls Tryz.prog 70 #[.pointer (some ⟨B, 0, none⟩)] w fun en w' => en = .returned (.bool true) ∧ w' = w := by
 go_enter Tryz.func70, Tryz.ntmps70
 go_wp2
 refine wp_loop_rounds 1 ?_
 rw [rounds_succ]
 go_wp2
 go_ret
 exact ⟨rfl, rfl⟩
set_option maxHeartbeats 400000 in
theorem intLists_write (B : Nat) (id : Int) (w : World) {ao : Option Addr} {c : Nat} (h : w.cell? ⟨B, 14, none⟩ = some (.slice ao 0 c)) :
  Calls Tryz.prog 83 #[.pointer (some ⟨B, 0, none⟩), .int .i64 id] w fun en w' => en = .returned (.int .i64 id) ∧ w' = w := by
 go_enter Tryz.func83, Tryz.ntmps83
 go_wp2
 refine wp_loop_rounds 1 ?_
 rw [rounds_succ]
 go_wp2
 go_ret
 exact ⟨rfl, rfl⟩
set_option maxHeartbeats 400000 in
theorem intLists_hold (B : Nat) (id : Int) (w : World) {ao : Option Addr} {c : Nat} (h : w.cell? ⟨B, 14, none⟩ = some (.slice ao 0 c)) :
  Calls Tryz.prog 96 #[.pointer (some ⟨B, 0, none⟩), .int .i64 id] w fun en w' => en = .returned (.tuple #[.int .i64 id, .bool true]) ∧ w' = w := by
 go_enter Tryz.func96, Tryz.ntmps96
 go_wp2
 refine wp_loop_rounds 1 ?_
 rw [rounds_succ]
 go_wp2
 go_ret2
 exact ⟨rfl, rfl⟩
set_option maxHeartbeats 400000 in
theorem intLists_grow (B : Nat) (id t : Int) (w : World) {ao : Option Addr} {c : Nat} (h : w.cell? ⟨B, 14, none⟩ = some (.slice ao 0 c)) :
  Calls Tryz.prog 109 #[.pointer (some ⟨B, 0, none⟩), .int .i64 id, .int .i64 t] w fun en w' => en = .returned (.int .i64 id) ∧ w' = w := by
 go_enter Tryz.func109, Tryz.ntmps109
 go_wp2
 refine wp_loop_rounds 1 ?_
 rw [rounds_succ]
 go_wp2
 go_ret
 exact ⟨rfl, rfl⟩
set_option maxHeartbeats 400000 in
theorem pairs_untouched (B : Nat) (w : World) {ao : Option Addr} {c : Nat} (h : w.cell? ⟨B, 17, none⟩ = some (.slice ao 0 c)) :
  Calls Tryz.prog 71 #[.pointer (some ⟨B, 0, none⟩)] w fun en w' => en = .returned (.bool true) ∧ w' = w := by
 go_enter Tryz.func71, Tryz.ntmps71
 go_wp2
 refine wp_loop_rounds 1 ?_
 rw [rounds_succ]
 go_wp2
 go_ret
 exact ⟨rfl, rfl⟩
set_option maxHeartbeats 400000 in
theorem pairs_write (B : Nat) (id : Int) (w : World) {ao : Option Addr} {c : Nat} (h : w.cell? ⟨B, 17, none⟩ = some (.slice ao 0 c)) :
  Calls Tryz.prog 84 #[.pointer (some ⟨B, 0, none⟩), .int .i64 id] w fun en w' => en = .returned (.int .i64 id) ∧ w' = w := by
 go_enter Tryz.func84, Tryz.ntmps84
 go_wp2
 refine wp_loop_rounds 1 ?_
 rw [rounds_succ]
 go_wp2
 go_ret
 exact ⟨rfl, rfl⟩
set_option maxHeartbeats 400000 in
theorem pairs_hold (B : Nat) (id : Int) (w : World) {ao : Option Addr} {c : Nat} (h : w.cell? ⟨B, 17, none⟩ = some (.slice ao 0 c)) :
  Calls Tryz.prog 97 #[.pointer (some ⟨B, 0, none⟩), .int .i64 id] w fun en w' => en = .returned (.tuple #[.int .i64 id, .bool true]) ∧ w' = w := by
 go_enter Tryz.func97, Tryz.ntmps97
 go_wp2
 refine wp_loop_rounds 1 ?_
 rw [rounds_succ]
 go_wp2
 go_ret2
 exact ⟨rfl, rfl⟩
set_option maxHeartbeats 400000 in
theorem pairs_grow (B : Nat) (id t : Int) (w : World) {ao : Option Addr} {c : Nat} (h : w.cell? ⟨B, 17, none⟩ = some (.slice ao 0 c)) :
  Calls Tryz.prog 110 #[.pointer (some ⟨B, 0, none⟩), .int .i64 id, .int .i64 t] w fun en w' => en = .returned (.int .i64 id) ∧ w' = w := by
 go_enter Tryz.func110, Tryz.ntmps110
 go_wp2
 refine wp_loop_rounds 1 ?_
 rw [rounds_succ]
 go_wp2
 go_ret
 exact ⟨rfl, rfl⟩
set_option maxHeartbeats 400000 in
theorem items_untouched (B : Nat) (w : World) {ao : Option Addr} {c : Nat} (h : w.cell? ⟨B, 20, none⟩ = some (.slice ao 0 c)) :
  Calls Tryz.prog 72 #[.pointer (some ⟨B, 0, none⟩)] w fun en w' => en = .returned (.bool true) ∧ w' = w := by
 go_enter Tryz.func72, Tryz.ntmps72
 go_wp2
 refine wp_loop_rounds 1 ?_
 rw [rounds_succ]
 go_wp2
 go_ret
 exact ⟨rfl, rfl⟩
set_option maxHeartbeats 400000 in
theorem items_write (B : Nat) (id : Int) (w : World) {ao : Option Addr} {c : Nat} (h : w.cell? ⟨B, 20, none⟩ = some (.slice ao 0 c)) :
  Calls Tryz.prog 85 #[.pointer (some ⟨B, 0, none⟩), .int .i64 id] w fun en w' => en = .returned (.int .i64 id) ∧ w' = w := by
 go_enter Tryz.func85, Tryz.ntmps85
 go_wp2
 refine wp_loop_rounds 1 ?_
 rw [rounds_succ]
 go_wp2
 go_ret
 exact ⟨rfl, rfl⟩
set_option maxHeartbeats 400000 in
theorem items_hold (B : Nat) (id : Int) (w : World) {ao : Option Addr} {c : Nat} (h : w.cell? ⟨B, 20, none⟩ = some (.slice ao 0 c)) :
  Calls Tryz.prog 98 #[.pointer (some ⟨B, 0, none⟩), .int .i64 id] w fun en w' => en = .returned (.tuple #[.int .i64 id, .bool true]) ∧ w' = w := by
 go_enter Tryz.func98, Tryz.ntmps98
 go_wp2
 refine wp_loop_rounds 1 ?_
 rw [rounds_succ]
 go_wp2
 go_ret2
 exact ⟨rfl, rfl⟩
set_option maxHeartbeats 400000 in
theorem items_grow (B : Nat) (id t : Int) (w : World) {ao : Option Addr} {c : Nat} (h : w.cell? ⟨B, 20, none⟩ = some (.slice ao 0 c)) :
  Calls Tryz.prog 111 #[.pointer (some ⟨B, 0, none⟩), .int .i64 id, .int .i64 t] w fun en w' => en = .returned (.int .i64 id) ∧ w' = w := by
 go_enter Tryz.func111, Tryz.ntmps111
 go_wp2
 refine wp_loop_rounds 1 ?_
 rw [rounds_succ]
 go_wp2
 go_ret
 exact ⟨rfl, rfl⟩
set_option maxHeartbeats 400000 in
theorem nodes_untouched (B : Nat) (w : World) {ao : Option Addr} {c : Nat} (h : w.cell? ⟨B, 26, none⟩ = some (.slice ao 0 c)) :
  Calls Tryz.prog 74 #[.pointer (some ⟨B, 0, none⟩)] w fun en w' => en = .returned (.bool true) ∧ w' = w := by
 go_enter Tryz.func74, Tryz.ntmps74
 go_wp2
 refine wp_loop_rounds 1 ?_
 rw [rounds_succ]
 go_wp2
 go_ret
 exact ⟨rfl, rfl⟩
set_option maxHeartbeats 400000 in
theorem nodes_write (B : Nat) (id : Int) (w : World) {ao : Option Addr} {c : Nat} (h : w.cell? ⟨B, 26, none⟩ = some (.slice ao 0 c)) :
  Calls Tryz.prog 87 #[.pointer (some ⟨B, 0, none⟩), .int .i64 id] w fun en w' => en = .returned (.int .i64 id) ∧ w' = w := by
 go_enter Tryz.func87, Tryz.ntmps87
 go_wp2
 refine wp_loop_rounds 1 ?_
 rw [rounds_succ]
 go_wp2
 go_ret
 exact ⟨rfl, rfl⟩
set_option maxHeartbeats 400000 in
theorem nodes_hold (B : Nat) (id : Int) (w : World) {ao : Option Addr} {c : Nat} (h : w.cell? ⟨B, 26, none⟩ = some (.slice ao 0 c)) :
  Calls Tryz.prog 100 #[.pointer (some ⟨B, 0, none⟩), .int .i64 id] w fun en w' => en = .returned (.tuple #[.int .i64 id, .bool true]) ∧ w' = w := by
 go_enter Tryz.func100, Tryz.ntmps100
 go_wp2
 refine wp_loop_rounds 1 ?_
 rw [rounds_succ]
 go_wp2
 go_ret2
 exact ⟨rfl, rfl⟩
set_option maxHeartbeats 400000 in
theorem nodes_grow (B : Nat) (id t : Int) (w : World) {ao : Option Addr} {c : Nat} (h : w.cell? ⟨B, 26, none⟩ = some (.slice ao 0 c)) :
  Calls Tryz.prog 113 #[.pointer (some ⟨B, 0, none⟩), .int .i64 id, .int .i64 t] w fun en w' => en = .returned (.int .i64 id) ∧ w' = w := by
 go_enter Tryz.func113, Tryz.ntmps113
 go_wp2
 refine wp_loop_rounds 1 ?_
 rw [rounds_succ]
 go_wp2
 go_ret
 exact ⟨rfl, rfl⟩
set_option maxHeartbeats 400000 in
theorem writes_untouched (B : Nat) (w : World) {ao : Option Addr} {c : Nat} (h : w.cell? ⟨B, 29, none⟩ = some (.slice ao 0 c)) :
  Calls Tryz.prog 75 #[.pointer (some ⟨B, 0, none⟩)] w fun en w' => en = .returned (.bool true) ∧ w' = w := by
 go_enter Tryz.func75, Tryz.ntmps75
 go_wp2
 refine wp_loop_rounds 1 ?_
 rw [rounds_succ]
 go_wp2
 go_ret
 exact ⟨rfl, rfl⟩
set_option maxHeartbeats 400000 in
theorem writes_write (B : Nat) (id : Int) (w : World) {ao : Option Addr} {c : Nat} (h : w.cell? ⟨B, 29, none⟩ = some (.slice ao 0 c)) :
  Calls Tryz.prog 88 #[.pointer (some ⟨B, 0, none⟩), .int .i64 id] w fun en w' => en = .returned (.int .i64 id) ∧ w' = w := by
 go_enter Tryz.func88, Tryz.ntmps88
 go_wp2
 refine wp_loop_rounds 1 ?_
 rw [rounds_succ]
 go_wp2
 go_ret
 exact ⟨rfl, rfl⟩
set_option maxHeartbeats 400000 in
theorem writes_hold (B : Nat) (id : Int) (w : World) {ao : Option Addr} {c : Nat} (h : w.cell? ⟨B, 29, none⟩ = some (.slice ao 0 c)) :
  Calls Tryz.prog 101 #[.pointer (some ⟨B, 0, none⟩), .int .i64 id] w fun en w' => en = .returned (.tuple #[.int .i64 id, .bool true]) ∧ w' = w := by
 go_enter Tryz.func101, Tryz.ntmps101
 go_wp2
 refine wp_loop_rounds 1 ?_
 rw [rounds_succ]
 go_wp2
 go_ret2
 exact ⟨rfl, rfl⟩
set_option maxHeartbeats 400000 in
theorem writes_grow (B : Nat) (id t : Int) (w : World) {ao : Option Addr} {c : Nat} (h : w.cell? ⟨B, 29, none⟩ = some (.slice ao 0 c)) :
  Calls Tryz.prog 114 #[.pointer (some ⟨B, 0, none⟩), .int .i64 id, .int .i64 t] w fun en w' => en = .returned (.int .i64 id) ∧ w' = w := by
 go_enter Tryz.func114, Tryz.ntmps114
 go_wp2
 refine wp_loop_rounds 1 ?_
 rw [rounds_succ]
 go_wp2
 go_ret
 exact ⟨rfl, rfl⟩
set_option maxHeartbeats 400000 in
theorem changes_untouched (B : Nat) (w : World) {ao : Option Addr} {c : Nat} (h : w.cell? ⟨B, 32, none⟩ = some (.slice ao 0 c)) :
  Calls Tryz.prog 76 #[.pointer (some ⟨B, 0, none⟩)] w fun en w' => en = .returned (.bool true) ∧ w' = w := by
 go_enter Tryz.func76, Tryz.ntmps76
 go_wp2
 refine wp_loop_rounds 1 ?_
 rw [rounds_succ]
 go_wp2
 go_ret
 exact ⟨rfl, rfl⟩
set_option maxHeartbeats 400000 in
theorem changes_write (B : Nat) (id : Int) (w : World) {ao : Option Addr} {c : Nat} (h : w.cell? ⟨B, 32, none⟩ = some (.slice ao 0 c)) :
  Calls Tryz.prog 89 #[.pointer (some ⟨B, 0, none⟩), .int .i64 id] w fun en w' => en = .returned (.int .i64 id) ∧ w' = w := by
 go_enter Tryz.func89, Tryz.ntmps89
 go_wp2
 refine wp_loop_rounds 1 ?_
 rw [rounds_succ]
 go_wp2
 go_ret
 exact ⟨rfl, rfl⟩
set_option maxHeartbeats 400000 in
theorem changes_hold (B : Nat) (id : Int) (w : World) {ao : Option Addr} {c : Nat} (h : w.cell? ⟨B, 32, none⟩ = some (.slice ao 0 c)) :
  Calls Tryz.prog 102 #[.pointer (some ⟨B, 0, none⟩), .int .i64 id] w fun en w' => en = .returned (.tuple #[.int .i64 id, .bool true]) ∧ w' = w := by
 go_enter Tryz.func102, Tryz.ntmps102
 go_wp2
 refine wp_loop_rounds 1 ?_
 rw [rounds_succ]
 go_wp2
 go_ret2
 exact ⟨rfl, rfl⟩
set_option maxHeartbeats 400000 in
theorem changes_grow (B : Nat) (id t : Int) (w : World) {ao : Option Addr} {c : Nat} (h : w.cell? ⟨B, 32, none⟩ = some (.slice ao 0 c)) :
  Calls Tryz.prog 115 #[.pointer (some ⟨B, 0, none⟩), .int .i64 id, .int .i64 t] w fun en w' => en = .returned (.int .i64 id) ∧ w' = w := by
 go_enter Tryz.func115, Tryz.ntmps115
 go_wp2
 refine wp_loop_rounds 1 ?_
 rw [rounds_succ]
 go_wp2
 go_ret
 exact ⟨rfl, rfl⟩
set_option maxHeartbeats 400000 in
theorem fates_untouched (B : Nat) (w : World) {ao : Option Addr} {c : Nat} (h : w.cell? ⟨B, 35, none⟩ = some (.slice ao 0 c)) :
  Calls Tryz.prog 77 #[.pointer (some ⟨B, 0, none⟩)] w fun en w' => en = .returned (.bool true) ∧ w' = w := by
 go_enter Tryz.func77, Tryz.ntmps77
 go_wp2
 refine wp_loop_rounds 1 ?_
 rw [rounds_succ]
 go_wp2
 go_ret
 exact ⟨rfl, rfl⟩
set_option maxHeartbeats 400000 in
theorem fates_write (B : Nat) (id : Int) (w : World) {ao : Option Addr} {c : Nat} (h : w.cell? ⟨B, 35, none⟩ = some (.slice ao 0 c)) :
  Calls Tryz.prog 90 #[.pointer (some ⟨B, 0, none⟩), .int .i64 id] w fun en w' => en = .returned (.int .i64 id) ∧ w' = w := by
 go_enter Tryz.func90, Tryz.ntmps90
 go_wp2
 refine wp_loop_rounds 1 ?_
 rw [rounds_succ]
 go_wp2
 go_ret
 exact ⟨rfl, rfl⟩
set_option maxHeartbeats 400000 in
theorem fates_hold (B : Nat) (id : Int) (w : World) {ao : Option Addr} {c : Nat} (h : w.cell? ⟨B, 35, none⟩ = some (.slice ao 0 c)) :
  Calls Tryz.prog 103 #[.pointer (some ⟨B, 0, none⟩), .int .i64 id] w fun en w' => en = .returned (.tuple #[.int .i64 id, .bool true]) ∧ w' = w := by
 go_enter Tryz.func103, Tryz.ntmps103
 go_wp2
 refine wp_loop_rounds 1 ?_
 rw [rounds_succ]
 go_wp2
 go_ret2
 exact ⟨rfl, rfl⟩
set_option maxHeartbeats 400000 in
theorem fates_grow (B : Nat) (id t : Int) (w : World) {ao : Option Addr} {c : Nat} (h : w.cell? ⟨B, 35, none⟩ = some (.slice ao 0 c)) :
  Calls Tryz.prog 116 #[.pointer (some ⟨B, 0, none⟩), .int .i64 id, .int .i64 t] w fun en w' => en = .returned (.int .i64 id) ∧ w' = w := by
 go_enter Tryz.func116, Tryz.ntmps116
 go_wp2
 refine wp_loop_rounds 1 ?_
 rw [rounds_succ]
 go_wp2
 go_ret
 exact ⟨rfl, rfl⟩
set_option maxHeartbeats 400000 in
theorem ops_untouched (B : Nat) (w : World) {ao : Option Addr} {c : Nat} (h : w.cell? ⟨B, 38, none⟩ = some (.slice ao 0 c)) :
  Calls Tryz.prog 78 #[.pointer (some ⟨B, 0, none⟩)] w fun en w' => en = .returned (.bool true) ∧ w' = w := by
 go_enter Tryz.func78, Tryz.ntmps78
 go_wp2
 refine wp_loop_rounds 1 ?_
 rw [rounds_succ]
 go_wp2
 go_ret
 exact ⟨rfl, rfl⟩
set_option maxHeartbeats 400000 in
theorem ops_write (B : Nat) (id : Int) (w : World) {ao : Option Addr} {c : Nat} (h : w.cell? ⟨B, 38, none⟩ = some (.slice ao 0 c)) :
  Calls Tryz.prog 91 #[.pointer (some ⟨B, 0, none⟩), .int .i64 id] w fun en w' => en = .returned (.int .i64 id) ∧ w' = w := by
 go_enter Tryz.func91, Tryz.ntmps91
 go_wp2
 refine wp_loop_rounds 1 ?_
 rw [rounds_succ]
 go_wp2
 go_ret
 exact ⟨rfl, rfl⟩
set_option maxHeartbeats 400000 in
theorem ops_hold (B : Nat) (id : Int) (w : World) {ao : Option Addr} {c : Nat} (h : w.cell? ⟨B, 38, none⟩ = some (.slice ao 0 c)) :
  Calls Tryz.prog 104 #[.pointer (some ⟨B, 0, none⟩), .int .i64 id] w fun en w' => en = .returned (.tuple #[.int .i64 id, .bool true]) ∧ w' = w := by
 go_enter Tryz.func104, Tryz.ntmps104
 go_wp2
 refine wp_loop_rounds 1 ?_
 rw [rounds_succ]
 go_wp2
 go_ret2
 exact ⟨rfl, rfl⟩
set_option maxHeartbeats 400000 in
theorem ops_grow (B : Nat) (id t : Int) (w : World) {ao : Option Addr} {c : Nat} (h : w.cell? ⟨B, 38, none⟩ = some (.slice ao 0 c)) :
  Calls Tryz.prog 117 #[.pointer (some ⟨B, 0, none⟩), .int .i64 id, .int .i64 t] w fun en w' => en = .returned (.int .i64 id) ∧ w' = w := by
 go_enter Tryz.func117, Tryz.ntmps117
 go_wp2
 refine wp_loop_rounds 1 ?_
 rw [rounds_succ]
 go_wp2
 go_ret
 exact ⟨rfl, rfl⟩
end Go.Proofs.YtnfelndfpmnkmaaGreatDoor
