import Derived.Test.YtomknmboapgmbaaBrG
import Derived.Test.YtomknmboapgmbaaBrM
namespace Go.Proofs.Ytomknmboapgmbaa
open Go.RowKit

/-- A filler at block R over the array at block G: it stands at p. -/
def Fl (w : World) (R G p : Nat) : Prop := w.heap[R]? = some (.cells #[.pointer (some ⟨G, 0, none⟩), .int .i64 p] 78 (0, 0))
theorem Fl.cells {w : World} {R G p : Nat} (h : Fl w R G p) : w.cell? ⟨R, 0, none⟩ = some (.pointer (some ⟨G, 0, none⟩)) ∧ w.cell? ⟨R, 1, none⟩ = some (.int .i64 p) ∧ w.frozen? ⟨R, 1, none⟩ = false := by
  refine ⟨?_, ?_, frozen_of_row w R 1 _ _ h⟩
  · rw [cell_of_row w R 0 _ _ _ h]; rfl
  · rw [cell_of_row w R 1 _ _ _ h]; rfl
theorem Fl.lt {w : World} {R G p : Nat} (h : Fl w R G p) : R < w.heap.size := (Array.getElem?_eq_some_iff.1 h).1
theorem Fl.set {w : World} {R G p : Nat} (h : Fl w R G p) (q : Nat) (v : Int) (hv : v = (q : Int)) : Fl (w.setCell ⟨R, 1, none⟩ (.int .i64 v)) R G q := by
  have := heap_setCell_same w R 1 _ _ (.int .i64 v) h
  subst hv
  exact this
theorem Fl.kept {w w' : World} {R G p : Nat} {row : Option Nat} (h : Fl w R G p) (hg : w.grownBy w' row) (hne : some R ≠ row) : Fl w' R G p := (hg.block R h.lt hne).trans h
theorem Fl.two {w w' : World} {R G p R' : Nat} (h : Fl w R' G p) (hg : Two w w' R G) (h1 : R' ≠ R) (h2 : R' ≠ G) : Fl w' R' G p := (hg.block R' h.lt h1 h2).trans h
theorem Fl.qt {w w' : World} {R G p : Nat} (h : Fl w R G p) (q : Qt w w') : Fl w' R G p := by
  show _ = _
  rw [q.heap]; exact h

set_option maxHeartbeats 2000000 in
set_option maxRecDepth 100000 in
theorem next_any (R G p n : Nat) (w : World) (hw : Fl w R G p) (hp : p + n ≤ 4092) :
    Calls Try.prog 60 #[.pointer (some ⟨R, 0, none⟩), .int .i64 n] w fun en w' => (∃ ao, en = .returned (.slice ao n n) ∧ (0 < n → ao = some ⟨G, p, none⟩) ∧ ao ≠ none) ∧ Fl w' R G (p + n) ∧ w.grownBy w' (some R) ∧ w'.heap.size = w.heap.size := by
  obtain ⟨c0, c1, f1⟩ := hw.cells
  have hwr : Hid (IntKind.i64.wrap ((p : Int) + (n : Int)) = ((p + n : Nat) : Int)) := by show _ = _; simp [IntKind.wrap, IntKind.bits, IntKind.signed]; omega
  have HF : Hid (∀ v : Int, v = ((p + n : Nat) : Int) → Fl (w.setCell ⟨R, 1, none⟩ (.int .i64 v)) R G (p + n) ∧ w.grownBy (w.setCell ⟨R, 1, none⟩ (.int .i64 v)) (some R) ∧ (w.setCell ⟨R, 1, none⟩ (.int .i64 v)).heap.size = w.heap.size) :=
    fun v hv => ⟨hw.set _ v hv, grown_cell _ _ _ _, by simp⟩
  have g1 : (p : Int) + (n : Int) ≤ 4092 := by omega
  have g2 : (0 : Int) ≤ (p : Int) := by omega
  have g3 : (0 : Int) ≤ (n : Int) := by omega
  have g4 : (0 : Int) ≤ (p : Int) + (n : Int) := by omega
  have g5 : (p : Int) ≤ (p : Int) + (n : Int) := by omega
  have g6 : (p : Int) ≤ 4092 := by omega
  clear hw
  by_cases h0 : n = 0
  · subst h0
    go_enter Try.func60, Try.ntmps60
    go_wp2
    go_quiet (fail)
    go_wp2
    go_ret
    obtain ⟨x1, x2, x3⟩ := HF.out _ (by first | rfl | omega)
    exact ⟨⟨_, rfl, fun h => by omega, by simp⟩, x1.qt (Qt.drewN _ _), grown_trans x2 ((Qt.drewN _ _).grown _), x3⟩
  · have h1 : (0 : Int) < (n : Int) := by omega
    go_enter Try.func60, Try.ntmps60
    go_wp2
    go_quiet (fail)
    go_wp2
    go_ret
    obtain ⟨x1, x2, x3⟩ := HF.out _ (by first | rfl | omega)
    exact ⟨⟨some ⟨G, p, none⟩, by show Ending.returned (Value.slice _ (p + n - p) (p + n - p)) = _; rw [Nat.add_sub_cancel_left], fun h => rfl, by simp⟩, x1.qt (Qt.drewN _ _), grown_trans x2 ((Qt.drewN _ _).grown _), x3⟩

theorem Two.of_one {w w' : World} {R G : Nat} (h : w.grownBy w' (some G)) : Two w w' R G := ⟨h.os, h.tape, h.output, h.size, fun k hk _ h2 => h.block k hk (fun e => h2 (Option.some.inj e))⟩
theorem Two.of_other {w w' : World} {R G : Nat} (h : w.grownBy w' (some R)) : Two w w' R G := ⟨h.os, h.tape, h.output, h.size, fun k hk h1 _ => h.block k hk (fun e => h1 (Option.some.inj e))⟩

set_option maxHeartbeats 2000000 in
set_option maxRecDepth 100000 in
theorem blay_any (R G p : Nat) (cs : List Int) (ao : Option Addr) (n c : Nat) (zs : List Int) (w : World) (hw : Fl w R G p) (hr : Rt w G 75 cs) (hcs : cs.length = 4092) (hb : Byt w ao n c zs) (hRG : R ≠ G) (hbR : ∀ ad, ao = some ad → 0 < n → ad.block ≠ R) (hp : p + n ≤ 4092) :
    Calls Try.prog 55 #[.pointer (some ⟨R, 0, none⟩), .slice ao n c] w fun en w' => en = .returned (.tuple #[]) ∧ Fl w' R G (p + n) ∧ Rt w' G 75 (splice cs p zs) ∧ Two w w' R G ∧ w'.heap.size = w.heap.size := by
  have HR := hid_intro hr
  have HB := hid_intro hb
  have HW := hid_intro hw
  clear hr hb hw
  go_enter Try.func55, Try.ntmps55
  go_wp2_with fail
  refine (next_any R G p n _ HW.out hp).mono ?_
  rintro en w1 ⟨⟨bo, rfl, hbo, hbn⟩, hf1, hg1, hs1⟩
  have R1 := hid_intro (HR.out.kept hg1 (fun e => hRG (Option.some.inj e).symm))
  have B1 := hid_intro (HB.out.kept hg1 (fun ad e h e2 => hbR ad e h (Option.some.inj e2)))
  have F1 := hid_intro hf1
  have G1 := hid_intro hg1
  have S1 := hid_intro hs1
  clear hf1 hg1 hs1 HR HB HW
  go_wp2_with (refine wpList_copy_rt rfl _ _ rfl _ _ _ _ _ _ rfl rfl G p 75 cs zs R1.out B1.out (Nat.le_refl _) hbo (by omega) ?_)
  intro w2 hr2 hg2 hs2
  go_wp2
  refine Go.Great.bodyPost_end0 rfl rfl ?_
  exact ⟨rfl, F1.out.kept hg2 (fun e => hRG (Option.some.inj e)), hr2, (Two.of_other G1.out).trans (Two.of_one hg2), hs2.trans S1.out⟩

end Go.Proofs.Ytomknmboapgmbaa
