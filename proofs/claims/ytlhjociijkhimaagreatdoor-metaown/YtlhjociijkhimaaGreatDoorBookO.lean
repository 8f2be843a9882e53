import Derived.Test.YtlhjociijkhimaaGreatDoorBookZ
import Derived.Laws.Tables
namespace Go.Proofs.YtlhjociijkhimaaGreatDoor
open Go.RowKit

/-- A new book's cells. -/
def bookZ : Array Value := #[.int .i64 0, .int .i64 0, .slice none 0 0, .slice none 0 0, .slice none 0 0, .slice none 0 0, .slice none 0 0, .slice none 0 0, .slice none 0 0, .slice none 0 0, .slice none 0 0, .slice none 0 0, .slice none 0 0, .slice none 0 0, .slice none 0 0, .slice none 0 0, .slice none 0 0, .slice none 0 0, .slice none 0 0, .slice none 0 0, .slice none 0 0, .slice none 0 0, .slice none 0 0, .slice none 0 0, .slice none 0 0, .slice none 0 0, .slice none 0 0, .slice none 0 0, .slice none 0 0, .slice none 0 0, .slice none 0 0, .slice none 0 0, .slice none 0 0, .slice none 0 0, .slice none 0 0, .slice none 0 0, .slice none 0 0, .slice none 0 0, .slice none 0 0, .slice none 0 0, .slice none 0 0]
theorem build_book (w : World) : (Instr.build 40 #[]).run Tryz.prog w = .ok (.agg bookZ) w := run_build w 40 _ _ (by kernel_rfl)
theorem box_new (w : World) : Box (w.alloc (.cells bookZ 40 (0, 0))) w.heap.size 0 0 (.slice none 0 0) (.slice none 0 0) (.slice none 0 0) := by
  have hc : ∀ i, (w.alloc (.cells bookZ 40 (0, 0))).cell? ⟨w.heap.size, i, none⟩ = bookZ[i]? := fun i => cell_of_row _ w.heap.size i _ _ (0, 0) (heap_alloc_new w _)
  refine ⟨hc 0, hc 1, hc 2, hc 3, hc 4, fun k hk => ?_, fun i hi => frozen_of_row _ w.heap.size i _ _ (heap_alloc_new w _)⟩
  rw [hc]
  have : ∀ k, k < 12 → bookZ[5 + 3 * k]? = some (.slice none 0 0)
    | 0, _ => rfl
    | 1, _ => rfl
    | 2, _ => rfl
    | 3, _ => rfl
    | 4, _ => rfl
    | 5, _ => rfl
    | 6, _ => rfl
    | 7, _ => rfl
    | 8, _ => rfl
    | 9, _ => rfl
    | 10, _ => rfl
    | 11, _ => rfl
    | n + 12, h => absurd h (by omega)
  exact this k hk

theorem wpList_build_book {w : World} {ops : Array Oper} {rest : List Oper} {o : Oper} {a : Act} {Q : Exit → Act → World → Prop} (hgd : o.guard = none) (ho : o.op = .build 40 #[])
    (h : wpList Tryz.prog ops Q rest (a.put o.dst (.agg bookZ)) w) : wpList Tryz.prog ops Q (o :: rest) a w := by
  refine wpList_plain hgd fun K hK => ?_
  have hrun := build_book w
  unfold Oper.wp
  simp only [execOp, ho, List.map_toArray, List.map_nil, Sem.run_bind, hrun, Sem.run_pure, Result.andThen_ok]
  exact hK _ _ h

theorem apart_blocks {s t : Sl} (h : s.g ≠ t.g) : s.Apart t := fun i j _ _ e => h (by injection e)
theorem Kb.free {w : World} {B base : Nat} {L : List Sl} {ys : List Value} {vb vw : Value} (h : Kb w B base L ys vb vw) {i : Nat} (hi : i < base) (hB : i ≠ B) : Free B vb vw i :=
  ⟨hB, fun e => by have := (h.ob.lt i e.symm).1; omega, fun e => by have := (h.ow.lt i e.symm).1; omega⟩
theorem Kb.freeN {w : World} {B base : Nat} {L : List Sl} {ys : List Value} {vb vw : Value} (h : Kb w B base L ys vb vw) {i : Nat} (hi : w.heap.size ≤ i) : Free B vb vw i :=
  ⟨by have := h.box.lt; omega, fun e => by have := (h.ob.lt i e.symm).2; omega, fun e => by have := (h.ow.lt i e.symm).2; omega⟩
theorem Ke.grown {w0 w w' : World} {B base : Nat} {L : List Sl} {ys : List Value} {vb vw vb' vw' : Value} (k : Ke w w' B vb vw vb' vw') (h : Kb w B base L ys vb vw) (hg : w0.grownBy w none) (hB : w0.heap.size ≤ B) : w0.grownBy w' none :=
  ⟨k.os.trans hg.os, k.tape.trans hg.tape, k.output.trans hg.output, Nat.le_trans hg.size k.size, fun i hi _ => (k.block i (Nat.lt_of_lt_of_le hi hg.size) (h.free (by have := h.bB.1; omega) (by omega))).1.trans (hg.block i hi (by simp))⟩

theorem Kb.kept2 {w w' : World} {B base : Nat} {L : List Sl} {ys : List Value} {vb vw : Value} {i : Nat} (h : Kb w B base L ys vb vw) (hg : w.grownBy w' (some i)) (hf : Free B vb vw i) (hs : ∀ s ∈ L, 0 < s.c → s.g ≠ i) (hy : ∀ y ∈ ys, ∀ g n c, y = .slice (some ⟨g, 0, none⟩) n c → 0 < n → g ≠ i) : Kb w' B base L ys vb vw := by
  have hsz := hg.size
  have hB : some B ≠ some i := fun e => hf.1 (Option.some.inj e).symm
  refine ⟨h.box.kept hg hB, h.ob.kept hg (Or.inr fun e => hf.2.1 e.symm), h.ow.kept hg (Or.inr fun e => hf.2.2 e.symm), ⟨h.bB.1, by have := h.bB.2; omega⟩, h.two, fun s hsl => ?_, h.apart, fun k s y hk hky => ?_⟩
  · obtain ⟨a1, a2, a3, a4, a5⟩ := h.ok s hsl
    refine ⟨a1, ?_, a3, by omega, a5⟩
    by_cases hc : 0 < s.c
    · exact a2.kept hg (fun e => hs s hsl hc (Option.some.inj e))
    · exact fun j hj => by omega
  · obtain ⟨ao, g, zs, e1, e2, e3, e4, e5⟩ := h.same k s y hk hky
    have hsl := List.mem_of_getElem? hk
    refine ⟨ao, g, zs, e1, e2, e3.kept hg (fun ad had hp e => ?_), e4.kept hg (fun ad had hp e => ?_), fun hp => ?_⟩
    · have := (e5 hp).1
      rw [had] at this
      obtain rfl := Option.some.inj this
      exact hs s hsl (by have := (h.ok s hsl).1.le; omega) (Option.some.inj e)
    · obtain rfl := Option.some.inj had
      exact hy y (List.mem_of_getElem? hky) g _ _ e2 hp (Option.some.inj e)
    · obtain ⟨b1, b2, b3⟩ := e5 hp
      exact ⟨b1, by omega, b3⟩

/-- The copies lie below the heap's end. -/
theorem Kb.copies {w : World} {B base : Nat} {L : List Sl} {ys : List Value} {vb vw : Value} (h : Kb w B base L ys vb vw) : ∀ y ∈ ys, ∀ g n c, y = .slice (some ⟨g, 0, none⟩) n c → 0 < n → g < w.heap.size := by
  intro y hy g n c e hp
  obtain ⟨k, hk⟩ := List.getElem?_of_mem hy
  have hl : k < ys.length := (List.getElem?_eq_some_iff.1 hk).1
  have h1 : ys.length = L.length := by have := h.ow.1; simpa using this
  obtain ⟨s, hs⟩ : ∃ s, L[k]? = some s := ⟨_, List.getElem?_eq_getElem (by omega)⟩
  obtain ⟨ao, g', zs, e1, e2, e3, e4, e5⟩ := h.same k s y hs hk
  rw [e] at e2
  injection e2 with e6 e7
  simp only [Option.some.injEq, Addr.mk.injEq] at e6
  obtain ⟨rfl, _⟩ := e6
  exact (e5 (by omega)).2.1

/-- k.Bytes(list), and where the copy lies. -/
theorem kb_keep2 {w : World} {B base : Nat} {L : List Sl} {ys : List Value} {vb vw : Value} (s : Sl) (ao : Option Addr) (zs : List Int) (h : Kb w B base L ys vb vw)
    (hs : s.Ok) (ht : s.There w) (hn : s.n ≤ 1099511620000) (hgl : s.g < w.heap.size) (hf : Free B vb vw s.g) (hv : s.v = .slice ao s.n s.c) (hap : ∀ t ∈ L, t.Apart s) (hby : Byt w ao s.n s.c zs) (hm : L.length ≤ 1000) :
    Calls Tryz.prog 6 #[.pointer (some ⟨B, 0, none⟩), .slice ao s.n s.c] w fun en w' => en = .returned (.tuple #[]) ∧ ∃ g vb' vw', Kb w' B base (L ++ [s]) (ys ++ [.slice (some ⟨g, 0, none⟩) s.n s.n]) vb' vw' ∧ Ke w w' B vb vw vb' vw' ∧ w.heap.size ≤ g := by
  have hb := h.bB
  refine (keep_any B 0 0 vb vw (.slice none 0 0) base L.length (L.map Sl.v) ys ao s.n s.c zs w h.box h.ob h.ow hb.2 (fun e => by have := (h.ob.lt B e).1; omega) (fun e => by have := (h.ow.lt B e).1; omega) (by omega) hby (by omega) (fun a ha hp => ?_) h.two).mono ?_
  · obtain ⟨ao', e1, e2⟩ := hs.val
    rw [hv] at e1
    injection e1 with e3
    have e4 := e2 (by have := hs.le; omega)
    rw [← e3, ha] at e4
    obtain rfl := Option.some.inj e4
    exact hf
  · rintro en w' ⟨rfl, vb', vw', g, hk⟩
    obtain ⟨k1, k2⟩ := h.step hs ht hn hgl hf.1 hf.2.1 hf.2.2 hv hap hby hk
    exact ⟨rfl, g, _, _, k1, k2, hk.gn⟩
end Go.Proofs.YtlhjociijkhimaaGreatDoor
