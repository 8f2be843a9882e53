import Derived.Test.YtcdkkhbkicejiaaGreatDoorQ9
import Derived.Test.YtcdkkhbkicejiaaGreatDoorQ23
import Derived.Test.YtcdkkhbkicejiaaGreatDoorQ25
namespace Go.Proofs.YtcdkkhbkicejiaaGreatDoor
open Go.RowKit
def kmark (ps : Int) (id j : Nat) : Int := if ps = 1 then ((id * 97 + j * 31 : Nat) : Int) % 256 else ((id / 256 * 59 + j * 13 + id % 256 * 3 + 1 : Nat) : Int) % 256
def kdB : Kdk := ⟨2, 1, 5, 42, fun ps id x => .int .u8 (kmark ps id x)⟩
def kdT : Kdk := ⟨20, 4, 52, 22, fun ps id x => if x % 4 = 0 then .slice none 0 0 else if x % 4 = 1 then .slice none 0 0 else if x % 4 = 2 then .int .i64 id else .int .i64 (2 * ((x / 4 : Nat) : Int) + ps)⟩
theorem kdT_0 (ps : Int) (id j : Nat) : kdT.f ps id (j * 4) = .slice none 0 0 := by unfold kdT; simp [Nat.mul_mod_left]
theorem kdT_1 (ps : Int) (id j : Nat) : kdT.f ps id (j * 4 + 1) = .slice none 0 0 := by
 have e : (j * 4 + 1) % 4 = 1 := by omega
 unfold kdT
 simp [e]
theorem kdT_2 (ps : Int) (id j : Nat) : kdT.f ps id (j * 4 + 2) = .int .i64 id := by
 have e : (j * 4 + 2) % 4 = 2 := by omega
 unfold kdT
 simp [e]
theorem kdT_3 (ps : Int) (id j : Nat) : kdT.f ps id (j * 4 + 3) = .int .i64 (2 * (j : Int) + ps) := by
 have e : (j * 4 + 3) % 4 = 3 := by omega
 have e2 : (j * 4 + 3) / 4 = j := by omega
 unfold kdT
 simp only [e, e2]
 rfl
set_option maxHeartbeats 400000 in
theorem mark_bytes (B : Nat) (ps : Int) (id j : Nat) (idI jI : Int) (w : World) (h : w.cell? ⟨B, 1, none⟩ = some (.int .i64 ps)) (hi : id ≤ 1099511627776) (hj : j ≤ 1099511627776) (e1 : idI = (id : Int)) (e2 : jI = (j : Int)) :
  Calls Tryz.prog 125 #[.pointer (some ⟨B, 0, none⟩), .int .i64 idI, .int .i64 jI] w fun en w' => en = .returned (.int .u8 (kmark ps id j)) ∧ w' = w := by
 subst e1 e2
 by_cases hp : ps = 1
 ·subst hp
  go_enter Tryz.func125, Tryz.ntmps125
  go_wp2
  go_ret
  refine ⟨?_, rfl⟩
  unfold kmark
  simp
 ·have hpb : (ps == 1) = false := by simpa using hp
  go_enter Tryz.func125, Tryz.ntmps125
  go_wp2
  go_ret
  refine ⟨?_, rfl⟩
  unfold kmark
  rw [if_neg hp]
  simp
set_option maxHeartbeats 1000000 in
set_option maxRecDepth 100000 in
theorem mark_items (B : Nat) (ps : Int) (id j : Nat) (idI jI : Int) (w : World) (h : w.cell? ⟨B, 1, none⟩ = some (.int .i64 ps)) (hp : 0 ≤ ps ∧ ps ≤ 1) (hj : j ≤ 1099511627776) (e1 : idI = (id : Int)) (e2 : jI = (j : Int)) :
  Calls Tryz.prog 131 #[.pointer (some ⟨B, 0, none⟩), .int .i64 idI, .int .i64 jI] w fun en w' => en = .returned (.agg #[.slice none 0 0, .slice none 0 0, .int .i64 id, .int .i64 (2 * (j : Int) + ps)]) ∧ w.grownBy w' none := by
 subst e1 e2
 have hp1 := hp.1
 have hp2 := hp.2
 have ga := World.grownBy_alloc w (.cells #[.slice none 0 0, .slice none 0 0, .int .i64 0, .int .i64 0] 52) none
 have HY := hid_intro (Bx.new w (.slice none 0 0) (.slice none 0 0) (.int .i64 0) (.int .i64 0))
 have ka := ga.cell h (by simp)
 have HG := hid_intro ga
 obtain ⟨y0, y1, y2, y3⟩ := HY.out.cells
 have f0 := HY.out.frozen 0
 have f1 := HY.out.frozen 1
 have f2 := HY.out.frozen 2
 have f3 := HY.out.frozen 3
 clear h ga hp
 go_enter Tryz.func131, Tryz.ntmps131
 go_upto_region 1 with fail
 generalize w.alloc (.cells #[.slice none 0 0, .slice none 0 0, .int .i64 0, .int .i64 0] 52) = w1 at *
 obtain ⟨U, hU⟩ : ∃ U, w.heap.size = U := ⟨_, rfl⟩
 rw [hU] at HY y0 y1 y2 y3 f0 f1 f2 f3 ⊢
 have hd := (((HY.out.set0 (.slice none 0 0)).set1 (.slice none 0 0)).set2 (.int .i64 (id : Int))).set3 (.int .i64 (2 * (j : Int) + ps))
 have HD := hid_intro hd
 have HF := hid_intro (grown_new HG.out (gr4 w1 U (.slice none 0 0) (.slice none 0 0) (.int .i64 (id : Int)) (.int .i64 (2 * (j : Int) + ps))) (by omega))
 clear hd
 go_wp2
 refine bodyPost_ret (ret_item rfl _ _ U _ _ _ _ rfl HD.out) rfl ?_
 exact ⟨rfl, HF.out⟩
end Go.Proofs.YtcdkkhbkicejiaaGreatDoor
