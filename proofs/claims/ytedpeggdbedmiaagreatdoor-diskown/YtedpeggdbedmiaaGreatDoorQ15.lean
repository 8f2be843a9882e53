import Derived.Test.YtedpeggdbedmiaaGreatDoorQ4
import Derived.Deep.Cut
namespace Go.Proofs.YtedpeggdbedmiaaGreatDoor
open Go.RowKit
def imark (ps : Int) (id j : Nat) : Int := (id : Int) * 1000 + 2 * (j : Int) + ps
def Kx2 (w : World) (T : Nat) (a b : Value) : Prop := w.heap[T]? = some (.cells #[a, b] 127 (0, 0))
theorem Kx2.cells {w : World} {T : Nat} {a b : Value} (h : Kx2 w T a b) : w.cell? ⟨T, 0, none⟩ = some a ∧ w.cell? ⟨T, 1, none⟩ = some b := by
 refine ⟨?_, ?_⟩
 ·rw [cell_of_row w T 0 _ _ _ h]; rfl
 ·rw [cell_of_row w T 1 _ _ _ h]; rfl
theorem Kx2.frozen {w : World} {T : Nat} {a b : Value} (h : Kx2 w T a b) (j : Nat) : w.frozen? ⟨T, j, none⟩ = false := frozen_of_row w T j _ _ h
theorem Kx2.new (w : World) (a b : Value) : Kx2 (w.alloc (.cells #[a, b] 127)) w.heap.size a b := heap_alloc_new w _
theorem Kx2.set0 {w : World} {T : Nat} {a b : Value} (h : Kx2 w T a b) (v : Value) : Kx2 (w.setCell ⟨T, 0, none⟩ v) T v b := heap_setCell_same w T 0 _ _ v h
theorem Kx2.set1 {w : World} {T : Nat} {a b : Value} (h : Kx2 w T a b) (v : Value) : Kx2 (w.setCell ⟨T, 1, none⟩ v) T a v := heap_setCell_same w T 1 _ _ v h
def kdV : Kdk := ⟨29, 2, 78, 54, fun ps id x => if x % 2 = 0 then .int .i64 (imark ps id (x / 2)) else .slice none 0 0⟩
theorem kdV_0 (ps : Int) (id j : Nat) : kdV.f ps id (j * 2) = .int .i64 (imark ps id j) := by
 have e : (j * 2) % 2 = 0 := by omega
 have e2 : (j * 2) / 2 = j := by omega
 unfold kdV
 simp only [e, e2]
 rfl
theorem kdV_1 (ps : Int) (id j : Nat) : kdV.f ps id (j * 2 + 1) = .slice none 0 0 := by
 have e : (j * 2 + 1) % 2 = 1 := by omega
 unfold kdV
 simp [e]
def Vx2 (w : World) (T : Nat) (a b : Value) : Prop := w.heap[T]? = some (.cells #[a, b] 78 (0, 0))
theorem Vx2.cells {w : World} {T : Nat} {a b : Value} (h : Vx2 w T a b) : w.cell? ⟨T, 0, none⟩ = some a ∧ w.cell? ⟨T, 1, none⟩ = some b := by
 refine ⟨?_, ?_⟩
 ·rw [cell_of_row w T 0 _ _ _ h]; rfl
 ·rw [cell_of_row w T 1 _ _ _ h]; rfl
theorem Vx2.frozen {w : World} {T : Nat} {a b : Value} (h : Vx2 w T a b) (j : Nat) : w.frozen? ⟨T, j, none⟩ = false := frozen_of_row w T j _ _ h
theorem Vx2.new (w : World) (a b : Value) : Vx2 (w.alloc (.cells #[a, b] 78)) w.heap.size a b := heap_alloc_new w _
theorem Vx2.set0 {w : World} {T : Nat} {a b : Value} (h : Vx2 w T a b) (v : Value) : Vx2 (w.setCell ⟨T, 0, none⟩ v) T v b := heap_setCell_same w T 0 _ _ v h
theorem Vx2.set1 {w : World} {T : Nat} {a b : Value} (h : Vx2 w T a b) (v : Value) : Vx2 (w.setCell ⟨T, 1, none⟩ v) T a v := heap_setCell_same w T 1 _ _ v h
theorem write_size2 : (Tryz.prog.info? 78).map (·.size) = some 2 := by kernel_rfl
theorem ret_write2 {fn : Func} {p : Tmp} (h : fn.results = #[.cell p 78]) (tmps : Array Value) (w : World) (U : Nat) (a b : Value) (hp : tmps.getD p undef = .pointer (some ⟨U, 0, none⟩)) (hx : Vx2 w U a b) :
  (results fn tmps).run Tryz.prog w = .ok (.agg #[a, b]) w :=
 results_cell_row h tmps w U 78 #[a, b] (0, 0) _ hp hx Tryz.underlying78 rfl write_size2
set_option maxHeartbeats 1000000 in
set_option maxRecDepth 100000 in
theorem mark_writes (B : Nat) (ps : Int) (id j : Nat) (idI jI : Int) (w : World) (h : w.cell? ⟨B, 1, none⟩ = some (.int .i64 ps)) (hp : 0 ≤ ps ∧ ps ≤ 1) (hi : id ≤ 1099511627776) (hj : j ≤ 1099511627776) (e1 : idI = (id : Int)) (e2 : jI = (j : Int)) :
  Calls Tryz.prog 118 #[.pointer (some ⟨B, 0, none⟩), .int .i64 idI, .int .i64 jI] w fun en w' => en = .returned (.agg #[.int .i64 (imark ps id j), .slice none 0 0]) ∧ w.grownBy w' none := by
 subst e1 e2
 have hp1 := hp.1
 have hp2 := hp.2
 have ga := World.grownBy_alloc w (.cells #[.int .i64 0, .slice none 0 0] 78) none
 have HY := hid_intro (Vx2.new w (.int .i64 0) (.slice none 0 0))
 have ka := ga.cell h (by simp)
 have HG := hid_intro ga
 obtain ⟨y0, y1⟩ := HY.out.cells
 have f0 := HY.out.frozen 0
 have f1 := HY.out.frozen 1
 clear h ga hp
 go_enter Tryz.func118, Tryz.ntmps118
 go_upto_region 1 with fail
 generalize w.alloc (.cells #[.int .i64 0, .slice none 0 0] 78) = w1 at *
 obtain ⟨U, hU⟩ : ∃ U, w.heap.size = U := ⟨_, rfl⟩
 rw [hU] at HY y0 y1 f0 f1 ⊢
 have hd := (HY.out.set0 (.int .i64 (imark ps id j))).set1 (.slice none 0 0)
 have HD := hid_intro hd
 have HF := hid_intro (grown_new HG.out (grown_trans (kset_grown w1 U 0 (.int .i64 (imark ps id j))) (kset_grown _ U 1 (.slice none 0 0))) (by omega))
 clear hd
 go_wp2
 refine bodyPost_ret (ret_write2 rfl _ _ U _ _ rfl HD.out) rfl ?_
 exact ⟨rfl, HF.out⟩
end Go.Proofs.YtedpeggdbedmiaaGreatDoor
