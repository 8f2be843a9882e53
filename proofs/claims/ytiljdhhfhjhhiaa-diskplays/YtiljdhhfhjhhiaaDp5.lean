import Derived.Test.YtiljdhhfhjhhiaaDp4
namespace Go.Proofs.Ytiljdhhfhjhhiaa
open Go.RowKit Go.MuLone

/-- Both disks went on: first the program's (w to w1), then, behind writes to a new block alone (w1 to w2), the document's (w2 to w3). -/
theorem Pp.both {w0 w w1 w2 w3 : World} {P B R : Nat} {F1 F2 : Nat → Prop} {v : Value} {zs : List Int} {s s' : Ds} {row : Option Nat} (h : Pp w0 w P B R F1 F2 v zs s) (z1 : Dz w1 B (Nf F1 w w1) s') (k1 : Kp w w1 F1)
    (g2 : w1.grownBy w2 row) (hrow : ∀ g, row = some g → w0.heap.size ≤ g ∧ g ≠ P ∧ v.ownBlock ≠ some g ∧ ¬ Nf F1 w w1 g ∧ ¬ F2 g) (z3 : Rz w3 R (Nf F2 w2 w3) s') (k3 : Kp w2 w3 F2) : Pp w0 w3 P B R (Nf F1 w w1) (Nf F2 w2 w3) v zs s' := by
  have s1 := k1.size
  have s2 := g2.size
  have s0 := h.gr.size
  have hP1 : w1.heap[P]? = w.heap[P]? := k1.block P h.lt (fun e => (h.f1 P e).2.1 rfl)
  have hP2 : w2.heap[P]? = w1.heap[P]? := g2.block P (Nat.lt_of_lt_of_le h.lt s1) (fun e => (hrow P e.symm).2.1 rfl)
  have hP3 : w3.heap[P]? = w2.heap[P]? := k3.block P (by have := h.lt; omega) (fun e => (h.f2 P e).2.1 rfl)
  have kg : ∀ g, v.ownBlock = some g → w3.heap[g]? = w.heap[g]? := fun g hg => by
    have hl := (h.own.lt g hg).2
    rw [k3.block g (by omega) (fun e => (h.f2 g e).2.2 hg), g2.block g (by omega) (fun e => (hrow g e.symm).2.2.1 hg), k1.block g hl (fun e => (h.f1 g e).2.2.1 hg)]
  have hv : ∀ q, w.heap.size ≤ q → v.ownBlock ≠ some q := fun q hq e => by have := (h.own.lt q e).2; omega
  refine ⟨by rw [hP3, hP2, hP1]; exact h.bx, ?_, z3, owns_same h.own kg, ?_, fun q hq => ?_, fun q hq => ?_, h.gp, h.vp⟩
  · have d2 := z1.kept g2 (fun k e hf => (hrow k e).2.2.2.1 hf)
    refine d2.kp k3 (fun q hq hf2 => ?_)
    rcases hq with e | e
    · exact (h.f1 q e).2.2.2 hf2
    · have := h.rz.low q hf2; omega
  · have g1 := Kp.new h.gr k1 (fun q e => (h.f1 q e).1)
    have ga : w0.grownBy w2 none := ⟨g2.os.trans g1.os, g2.tape.trans g1.tape, g2.output.trans g1.output, Nat.le_trans g1.size g2.size, fun q hq hn => (g2.block q (Nat.lt_of_lt_of_le hq g1.size) (fun e => by have := (hrow q e.symm).1; omega)).trans (g1.block q hq hn)⟩
    exact Kp.new ga k3 (fun q e => (h.f2 q e).1)
  · rcases hq with e | e
    · obtain ⟨a1, a2, a3, a4⟩ := h.f1 q e
      exact ⟨a1, a2, a3, fun x => x.elim a4 (fun y => by have := h.dz.low q e; omega)⟩
    · exact ⟨by omega, fun e' => by have := h.lt; omega, hv q e.1, fun x => x.elim (fun y => by have := h.rz.low q y; omega) (fun y => by omega)⟩
  · rcases hq with e | e
    · exact h.f2 q e
    · exact ⟨by omega, fun e' => by have := h.lt; omega, hv q (by omega)⟩

theorem Rz.kept {w w' : World} {B : Nat} {F : Nat → Prop} {s : Ds} {row : Option Nat} (h : Rz w B F s) (hg : w.grownBy w' row) (hn : ∀ k, row = some k → ¬ F k) : Rz w' B F s := by
  obtain ⟨d, h1, h2⟩ := h
  exact ⟨d, h1.same hg.size fun k hk => hg.block k (h1.dm.low k hk) (fun e => hn k e.symm hk), h2⟩

set_option maxHeartbeats 4000000 in
set_option maxRecDepth 4000 in
theorem crash12_any {w0 w : World} {P B R : Nat} {F1 F2 : Nat → Prop} {v : Value} {zs : List Int} {s : Ds} (h : Pp w0 w P B R F1 F2 v zs s) (ao : Option Addr) (fn fc : Nat) (fs : List (Int × Int)) (hF : Fl w ao fs) (hfl : fs.length = fn) (hn : fn ≤ 8796093021952) (hao : ∀ b off, ao = some ⟨b, off, none⟩ → 0 < fn → b < w0.heap.size) (hd : s.done < 1099511627776) :
    Calls Try.prog 39 #[.pointer (some ⟨P, 0, none⟩), .slice ao fn fc] w fun e w' => e = .returned (.tuple #[]) ∧ ∃ F1' F2', Pp w0 w' P B R F1' F2' v zs (s.crash fs) := by
  have HP := hid_intro h
  have HF := hid_intro hF
  have HA := hid_intro hao
  have HL := hid_intro hfl
  clear h hF hao hfl
  go_enter Try.func39, Try.ntmps39
  go_wp2_with fail
  refine (refFates_any ao fn fc fs w HF.out HL.out hn).mono ?_
  rintro e w1 ⟨rfl, hown1, hg1⟩
  have P1 := hid_intro (HP.out.keptN hg1)
  have a0 := P1.out.c0
  have G1 := hid_intro hg1
  have O1 := hid_intro hown1
  have hlt1 := (hown1.lt _ rfl).2
  clear hown1 hg1
  go_wp2_with fail
  refine (dz_crash P1.out.dz (some ⟨w.heap.size, 0, none⟩) fn fn fs (Fl.of_owns O1.out HL.out) HL.out (Nat.le_refl _) (by omega) (fun b off e hf => ?_) hd).mono ?_
  · simp only [Option.some.injEq, Addr.mk.injEq] at e
    have := HP.out.dz.low b hf
    omega
  rintro e w2 ⟨rfl, hz2, hk2⟩
  have Z2 := hid_intro hz2
  have K2 := hid_intro hk2
  have nF1 : ¬ F1 w.heap.size := fun e => by have := HP.out.dz.low _ e; omega
  have nF2 : ¬ F2 w.heap.size := fun e => by have := HP.out.rz.low _ e; omega
  obtain ⟨cur1, hc1, hcs1⟩ : ∃ cur, w2.heap[w.heap.size]? = some (.cells cur 63 (0, 0)) ∧ cur.size = fn * 2 := by
    rcases O1.out.2 with ⟨h0, _⟩ | ⟨g', cap', cur', hv', a1, a2, a3, a4, a5, a6⟩
    · cases h0
    · injection hv' with e1 e2 e3
      injection e1 with e1
      injection e1 with e4
      subst e4 e3
      exact ⟨cur', (hk2.block _ hlt1 nF1).trans a2, a5⟩
  have HC1 := hid_intro (And.intro hc1 hcs1)
  clear hz2 hk2 a0 hc1 hcs1
  go_wp2_with fail
  go_loopw [5] (fun si wr => ∃ k : Nat, k ≤ fn ∧ si = .int .i64 (k : Int) ∧ (∃ cur, wr.heap[w.heap.size]? = some (.cells cur 63 (0, 0)) ∧ cur.size = fn * 2) ∧ w2.grownBy wr (some w.heap.size)) (fun si _ => fn - (intOf si).toNat)
  case atStart => exact ⟨0, Nat.zero_le _, rfl, ⟨cur1, HC1.out.1, HC1.out.2⟩, World.grownBy.refl _ _⟩
  case round =>
    obtain ⟨k, hk, rfl, ⟨cur, hc, hcs⟩, hg⟩ := hrel
    by_cases hlt : k < fn
    · have hlt' : (k : Int) < (fn : Int) := by omega
      obtain ⟨v0, x0⟩ : ∃ v0, wr.cell? ⟨w.heap.size, k * 2, none⟩ = some v0 := ⟨cur[k * 2]'(by omega), by rw [cell_of_row wr _ _ _ _ _ hc]; exact Array.getElem?_eq_getElem _⟩
      obtain ⟨v1, x1⟩ : ∃ v1, wr.cell? ⟨w.heap.size, k * 2 + 1, none⟩ = some v1 := ⟨cur[k * 2 + 1]'(by omega), by rw [cell_of_row wr _ _ _ _ _ hc]; exact Array.getElem?_eq_getElem _⟩
      have y0 := frozen_of_row wr w.heap.size (k * 2) _ _ hc
      have y1 := frozen_of_row wr w.heap.size (k * 2 + 1) _ _ hc
      have HH := hid_intro (heap_setCell_same _ w.heap.size (k * 2 + 1) _ _ (.int .i64 0) (heap_setCell_same wr w.heap.size (k * 2) _ _ (.int .i64 1) hc))
      have HG := hid_intro (grown_trans (grown_trans hg (grown_cell wr w.heap.size (k * 2) (.int .i64 1))) (grown_cell _ w.heap.size (k * 2 + 1) (.int .i64 0)))
      have HCS := hid_intro hcs
      clear hc hg hcs
      go_wp2
      go_roundw
      case rel => exact ⟨k + 1, by omega, by go_num, ⟨_, HH.out, by simp [HCS.out]⟩, HG.out⟩
      case measure => simp [intOf]; omega
    · have hlt' : ¬ (k : Int) < (fn : Int) := by omega
      have s1 := G1.out.size
      have s2 := K2.out.size
      have s3 := hg.size
      have hPn : P ≠ w.heap.size := fun e => by have := HP.out.lt; omega
      have rz2 : Rz wr R F2 s := (P1.out.rz.kp K2.out (fun q e1 e2 => (HP.out.f1 q e2).2.2.2 e1)).kept hg (fun q e => by rw [← Option.some.inj e]; exact nF2)
      have hP : wr.heap[P]? = w1.heap[P]? := (hg.block P (by have := HP.out.lt; omega) (fun e => hPn (Option.some.inj e))).trans (K2.out.block P P1.out.lt (fun e => (HP.out.f1 P e).2.1 rfl))
      have b1 : wr.cell? ⟨P, 1, none⟩ = some (.pointer (some ⟨R, 0, none⟩)) := by rw [World.cell?_of_block hP]; exact P1.out.c1
      have flr : Fl wr ao fs := by
        refine ⟨fun i f hf => ?_⟩
        obtain ⟨b, off, e, hb, y1, y2⟩ := HF.out.ats i f hf
        have hb0 := HA.out b off e (by have := HL.out; have := (List.getElem?_eq_some_iff.1 hf).1; omega)
        have s0 := HP.out.gr.size
        have hbk : wr.heap[b]? = w.heap[b]? := ((hg.block b (by omega) (fun e' => by have := Option.some.inj e'; omega)).trans (K2.out.block b (by omega) (fun e' => by have := (HP.out.f1 b e').1; omega))).trans (G1.out.block b hb (by simp))
        exact ⟨b, off, e, by omega, by rw [World.cell?_of_block hbk]; exact y1, by rw [World.cell?_of_block hbk]; exact y2⟩
      have RZ := hid_intro rz2
      have FR := hid_intro flr
      have HG := hid_intro hg
      clear hc hg rz2 flr hP
      go_wp2_with fail
      refine (rz_crash RZ.out ao fn fc fs FR.out HL.out (fun b off e h0 hf => by have := (HP.out.f2 b hf).1; have := HA.out b off e h0; omega) hd).mono ?_
      rintro e w4 ⟨rfl, hz4, hk4⟩
      have FIN := hid_intro (P1.out.both Z2.out K2.out HG.out (fun g e => by
        rw [← Option.some.inj e]
        exact ⟨HP.out.gr.size, fun e' => hPn e'.symm, fun e' => by have := (HP.out.own.lt _ e').2; omega, fun e' => e'.elim nF1 (fun y => by omega), nF2⟩) hz4 hk4)
      clear hz4 hk4
      go_wp2
      go_end0
      exact ⟨rfl, _, _, FIN.out⟩
end Go.Proofs.Ytiljdhhfhjhhiaa
