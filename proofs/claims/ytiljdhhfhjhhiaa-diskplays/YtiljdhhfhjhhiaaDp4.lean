import Derived.Test.YtiljdhhfhjhhiaaDp3
import Derived.Test.YtiljdhhfhjhhiaaDkF
namespace Go.Proofs.Ytiljdhhfhjhhiaa
open Go.RowKit Go.MuLone

theorem Rz.cells {w : World} {R : Nat} {F : Nat → Prop} {s : Ds} (h : Rz w R F s) : w.cell? ⟨R, 0, none⟩ = some (.int .i64 s.cap) ∧ w.cell? ⟨R, 3, none⟩ = some (.bool s.off) ∧ w.cell? ⟨R, 5, none⟩ = some (.int .i64 s.done) ∧ w.cell? ⟨R, 6, none⟩ = some (.int .i64 s.reads) := by
  obtain ⟨d, hk, rfl⟩ := h
  exact ⟨hk.bx.c0, hk.bx.c3, hk.bx.c5, hk.bx.c6⟩

/-- The pair of disks: block P, the program's disk B (blocks F1), the document's R (blocks F2), the place v of pages that are handed in; all made since w0. -/
structure Pp (w0 w : World) (P B R : Nat) (F1 F2 : Nat → Prop) (v : Value) (zs : List Int) (s : Ds) : Prop where
  bx : w.heap[P]? = some (.cells #[.pointer (some ⟨B, 0, none⟩), .pointer (some ⟨R, 0, none⟩), v] 37 (0, 0))
  dz : Dz w B F1 s
  rz : Rz w R F2 s
  own : w.ownsRow w0.heap.size 5 1 v zs.length (zs.map (Value.int .u8))
  gr : w0.grownBy w none
  f1 : ∀ k, F1 k → w0.heap.size ≤ k ∧ k ≠ P ∧ v.ownBlock ≠ some k ∧ ¬ F2 k
  f2 : ∀ k, F2 k → w0.heap.size ≤ k ∧ k ≠ P ∧ v.ownBlock ≠ some k
  gp : w0.heap.size ≤ P
  vp : v.ownBlock ≠ some P

theorem Pp.c0 {w0 w : World} {P B R : Nat} {F1 F2 : Nat → Prop} {v : Value} {zs : List Int} {s : Ds} (h : Pp w0 w P B R F1 F2 v zs s) : w.cell? ⟨P, 0, none⟩ = some (.pointer (some ⟨B, 0, none⟩)) := cell_of_row w P 0 _ _ _ h.bx
theorem Pp.c1 {w0 w : World} {P B R : Nat} {F1 F2 : Nat → Prop} {v : Value} {zs : List Int} {s : Ds} (h : Pp w0 w P B R F1 F2 v zs s) : w.cell? ⟨P, 1, none⟩ = some (.pointer (some ⟨R, 0, none⟩)) := cell_of_row w P 1 _ _ _ h.bx
theorem Pp.c2 {w0 w : World} {P B R : Nat} {F1 F2 : Nat → Prop} {v : Value} {zs : List Int} {s : Ds} (h : Pp w0 w P B R F1 F2 v zs s) : w.cell? ⟨P, 2, none⟩ = some v := cell_of_row w P 2 _ _ _ h.bx
theorem Pp.lt {w0 w : World} {P B R : Nat} {F1 F2 : Nat → Prop} {v : Value} {zs : List Int} {s : Ds} (h : Pp w0 w P B R F1 F2 v zs s) : P < w.heap.size := (Array.getElem?_eq_some_iff.1 h.bx).1
theorem Pp.keptN {w0 w w' : World} {P B R : Nat} {F1 F2 : Nat → Prop} {v : Value} {zs : List Int} {s : Ds} (h : Pp w0 w P B R F1 F2 v zs s) (hg : w.grownBy w' none) : Pp w0 w' P B R F1 F2 v zs s :=
  ⟨(hg.block P h.lt (by simp)).trans h.bx, h.dz.keptN hg, h.rz.keptN hg, h.own.kept hg (Classical.em _ |>.elim (fun e => .inl e) (fun e => .inr e)), grown_trans h.gr hg, h.f1, h.f2, h.gp, h.vp⟩
/-- The program's disk is asked alone. -/
theorem Pp.ask {w0 w w' : World} {P B R : Nat} {F1 F2 : Nat → Prop} {v : Value} {zs : List Int} {s : Ds} (h : Pp w0 w P B R F1 F2 v zs s) (hz : Dz w' B F1 s) (hk : Kp w w' F1) : Pp w0 w' P B R F1 F2 v zs s := by
  refine ⟨(hk.block P h.lt (fun e => (h.f1 P e).2.1 rfl)).trans h.bx, hz, h.rz.kp hk (fun k e1 e2 => (h.f1 k e2).2.2.2 e1), owns_same h.own (fun g hg => hk.block g (h.own.lt g hg).2 (fun e => (h.f1 g e).2.2.1 hg)), Kp.new h.gr hk (fun k e => (h.f1 k e).1), h.f1, h.f2, h.gp, h.vp⟩

theorem Pp.six {w0 w : World} {P B R : Nat} {F1 F2 : Nat → Prop} {v : Value} {zs : List Int} {s : Ds} (h : Pp w0 w P B R F1 F2 v zs s) : w.cell? ⟨P, 0, none⟩ = some (.pointer (some ⟨B, 0, none⟩)) ∧ w.cell? ⟨P, 1, none⟩ = some (.pointer (some ⟨R, 0, none⟩)) ∧ w.cell? ⟨R, 0, none⟩ = some (.int .i64 s.cap) ∧ w.cell? ⟨R, 3, none⟩ = some (.bool s.off) ∧ w.cell? ⟨R, 5, none⟩ = some (.int .i64 s.done) ∧ w.cell? ⟨R, 6, none⟩ = some (.int .i64 s.reads) :=
  ⟨h.c0, h.c1, h.rz.cells.1, h.rz.cells.2.1, h.rz.cells.2.2.1, h.rz.cells.2.2.2⟩

set_option maxHeartbeats 16000000 in
set_option maxRecDepth 8000 in
theorem stands_any {w0 w : World} {P B R : Nat} {F1 F2 : Nat → Prop} {v : Value} {zs : List Int} {s : Ds} (h : Pp w0 w P B R F1 F2 v zs s) (hd : s.done < 1099511627776) : Calls Try.prog 15 #[.pointer (some ⟨P, 0, none⟩)] w fun e w' => e = .returned (.bool true) ∧ Pp w0 w' P B R F1 F2 v zs s := by
  have PP := hid_intro (h.keptN ((Qt.refl w).drew.grown none))
  clear h
  go_enter Try.func15, Try.ntmps15
  go_wp2_with fail
  simp only [List.cons_append, List.nil_append, List.append_eq]
  go_region_held3 (fun w' => w'.cell? ⟨P, 0, none⟩ = some (.pointer (some ⟨B, 0, none⟩)) ∧ w'.cell? ⟨P, 1, none⟩ = some (.pointer (some ⟨R, 0, none⟩)) ∧ w'.cell? ⟨R, 0, none⟩ = some (.int .i64 s.cap) ∧ w'.cell? ⟨R, 3, none⟩ = some (.bool s.off) ∧ w'.cell? ⟨R, 5, none⟩ = some (.int .i64 s.done) ∧ w'.cell? ⟨R, 6, none⟩ = some (.int .i64 s.reads)) (first | exact PP.out.six | go_keep)
    (first
      | (go_at_call 20; refine (dz_cap PP.out.dz).mono ?_; rintro e w1 ⟨rfl, hz1, hk1⟩; have PQ := hid_intro (PP.out.ask hz1 hk1); clear hz1 hk1 PP; revert PQ; intro PP)
      | (go_at_call 21; refine (dz_pages PP.out.dz).mono ?_; rintro e w1 ⟨rfl, hz1, hk1⟩; have PQ := hid_intro (PP.out.ask hz1 hk1); clear hz1 hk1 PP; revert PQ; intro PP)
      | (go_at_call 44; refine (rz_pages PP.out.rz hd).mono ?_; rintro e w1 ⟨rfl, rfl⟩)
      | (go_at_call 22; refine (dz_power PP.out.dz).mono ?_; rintro e w1 ⟨rfl, hz1, hk1⟩; have PQ := hid_intro (PP.out.ask hz1 hk1); clear hz1 hk1 PP; revert PQ; intro PP)
      | (go_at_call 23; refine (dz_done PP.out.dz).mono ?_; rintro e w1 ⟨rfl, hz1, hk1⟩; have PQ := hid_intro (PP.out.ask hz1 hk1); clear hz1 hk1 PP; revert PQ; intro PP)
      | (go_at_call 24; refine (dz_reads PP.out.dz).mono ?_; rintro e w1 ⟨rfl, hz1, hk1⟩; have PQ := hid_intro (PP.out.ask hz1 hk1); clear hz1 hk1 PP; revert PQ; intro PP))
  all_goals
    go_wp2
    go_ret
    exact ⟨by simp, PP.out⟩
end Go.Proofs.Ytiljdhhfhjhhiaa
