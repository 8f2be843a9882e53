import Derived.Test.YtlfhonlifgpnhaaLeafS5
namespace Go.Proofs.Ytlfhonlifgpnhaa
open Go.RowKit

/-- Only blocks of bytes from base on and below top were written to. -/
structure Fw (base top : Nat) (w w' : World) : Prop where
  os : w'.os = w.os
  tape : w'.tape = w.tape
  output : w'.output = w.output
  size : w.heap.size ≤ w'.heap.size
  blk : ∀ g, g < w.heap.size → (g < base ∨ top ≤ g ∨ ¬ U8 w g) → w'.heap[g]? = w.heap[g]?
theorem Fw.of {base top : Nat} {w w' : World} (h : w.grownBy w' none) : Fw base top w w' := ⟨h.os, h.tape, h.output, h.size, fun g hg _ => h.block g hg (by simp)⟩
theorem Fw.refl (base top : Nat) (w : World) : Fw base top w w := Fw.of (World.grownBy.refl _ _)
theorem Fw.trans {base top : Nat} {a b c : World} (h : Fw base top a b) (k : Fw base top b c) : Fw base top a c :=
  ⟨k.os.trans h.os, k.tape.trans h.tape, k.output.trans h.output, Nat.le_trans h.size k.size, fun g hg hc => by
    have h1 := h.blk g hg hc
    refine (k.blk g (Nat.lt_of_lt_of_le hg h.size) ?_).trans h1
    rcases hc with hc | hc | hc
    · exact .inl hc
    · exact .inr (.inl hc)
    · refine .inr (.inr fun ⟨cur, hu⟩ => hc ⟨cur, by rw [← h1]; exact hu⟩)⟩
theorem Fw.write {base top g : Nat} {w w' : World} (h : w.grownBy w' (some g)) (h1 : base ≤ g) (h2 : g < top) (hu : U8 w g) : Fw base top w w' :=
  ⟨h.os, h.tape, h.output, h.size, fun k hk hc => h.block k hk (fun e => by
    have e := Option.some.inj e
    subst e
    rcases hc with hc | hc | hc
    · omega
    · omega
    · exact hc hu)⟩
theorem Fw.grown {base top : Nat} {w0 w w' : World} (h : Fw base top w w') (hg : w0.grownBy w none) (hb : w0.heap.size ≤ base) : w0.grownBy w' none :=
  ⟨h.os.trans hg.os, h.tape.trans hg.tape, h.output.trans hg.output, Nat.le_trans hg.size h.size, fun g hk hn => (h.blk g (Nat.lt_of_lt_of_le hk hg.size) (.inl (by omega))).trans (hg.block g hk hn)⟩
theorem Fw.bl {base top T : Nat} {w w' : World} {a b : Value} (h : Fw base top w w') (hb : Bl w T a b) : Bl w' T a b :=
  (h.blk T hb.lt (.inr (.inr fun hu => hb.u8 T hu rfl))).trans hb
theorem own_same {w w' : World} {base sz : Nat} {e : TypeId} {v : Value} {n : Nat} {xs : List Value} (h : w.ownsRow base e sz v n xs) (hs : ∀ g, v.ownBlock = some g → w'.heap[g]? = w.heap[g]?) : w'.ownsRow base e sz v n xs := by
  refine ⟨h.1, ?_⟩
  rcases h.2 with ⟨rfl, h0⟩ | ⟨g, cap, cur, rfl, hb, hg, hr⟩
  · exact .inl ⟨rfl, h0⟩
  · exact .inr ⟨g, cap, cur, rfl, hb, (hs g rfl).trans hg, hr⟩
theorem Fw.lq {base top b2 A c : Nat} {w w' : World} {gk gv : Nat → Nat × Nat} {xs : List Value} {L : List It} (h : Fw base top w w') (hq : Lq w b2 A c gk gv xs L) (ht : top ≤ b2) : Lq w' b2 A c gk gv xs L := by
  refine ⟨own_same hq.own (fun g e => h.blk g (hq.own.lt g e).2 (.inr (.inl (by have := (hq.own.lt g e).1; omega)))), hq.lm.len, hq.lm.el, fun j hj => ?_, hq.lm.lo, hq.lm.up⟩
  obtain ⟨k1, k2⟩ := hq.lm.ko j hj
  obtain ⟨l1, l2, _⟩ := hq.lm.lo j hj
  exact ⟨k1.same (h.blk _ k1.lt (.inr (.inl (by omega)))), k2.same (h.blk _ k2.lt (.inr (.inl (by omega))))⟩

/-- What is lent, all below top. -/
structure Lt4 (w : World) (base top A c : Nat) (gk gv : Nat → Nat × Nat) (xs : List Value) (L : List It) : Prop where
  ld : Ld w base A c gk gv xs L
  top : ∀ j, j < L.length → (gk j).1 < top ∧ (gv j).1 < top
theorem Lt4.keptN {w w' : World} {base top A c : Nat} {gk gv : Nat → Nat × Nat} {xs : List Value} {L : List It} (h : Lt4 w base top A c gk gv xs L) (hg : w.grownBy w' none) : Lt4 w' base top A c gk gv xs L := ⟨h.ld.keptN hg, h.top⟩
theorem Lt4.cells {w : World} {base top A c : Nat} {gk gv : Nat → Nat × Nat} {xs : List Value} {L : List It} (h : Lt4 w base top A c gk gv xs L) (j : Nat) (hj : j < L.length) :
    w.cell? ⟨A, j * 4, none⟩ = some (.slice (some ⟨(gk j).1, 0, none⟩) (L.getD j it0).key.length (gk j).2) ∧ w.cell? ⟨A, j * 4 + 1, none⟩ = some (.slice (some ⟨(gv j).1, 0, none⟩) (L.getD j it0).val.length (gv j).2) := by
  obtain ⟨a, b, _⟩ := h.ld.lm.cells h.ld.own j hj
  exact ⟨a, b⟩
/-- The item behind all. -/
theorem Lt4.last {w : World} {base top A c : Nat} {gk gv : Nat → Nat × Nat} {xs : List Value} {L : List It} (h : Lt4 w base top A c gk gv xs L) : w.cell? ⟨A, L.length * 4, none⟩ = some (.slice none 0 0) ∧ w.cell? ⟨A, L.length * 4 + 2, none⟩ = some (.int .i64 (-77)) := by
  have hl := h.ld.lm.len
  refine ⟨?_, ?_⟩
  · rw [h.ld.own.cellAt _ (by omega), List.getElem?_append_right (by omega), hl, Nat.sub_self]; rfl
  · rw [h.ld.own.cellAt _ (by omega), List.getElem?_append_right (by omega), hl, Nat.add_sub_cancel_left]; rfl
/-- A key written over. -/
theorem Lt4.setKey {w w' : World} {base top A c : Nat} {gk gv : Nat → Nat × Nat} {xs : List Value} {L : List It} (h : Lt4 w base top A c gk gv xs L) (i : Nat) (hi : i < L.length) (key : List Int) (hk : key.length = (L.getD i it0).key.length) (hg : w.grownBy w' (some (gk i).1)) (ho : Ow w' (gk i).1 (gk i).2 (key ++ [161, 162])) :
    Lt4 w' base top A c gk gv xs (L.set i ⟨key, (L.getD i it0).val, (L.getD i it0).size, (L.getD i it0).first⟩) ∧ Fw base top w w' ∧ Sm L (L.set i ⟨key, (L.getD i it0).val, (L.getD i it0).size, (L.getD i it0).first⟩) := by
  have hu := (h.ld.lm.ko i hi).1.u8
  refine ⟨⟨⟨?_, h.ld.lm.setKey i hi key hk hg ho⟩, fun j hj => h.top j (by rw [List.length_set] at hj; exact hj)⟩, Fw.write hg (h.ld.lm.lo i hi).1 (h.top i hi).1 hu, Sm.set hi ⟨hk, rfl, rfl, rfl⟩⟩
  rw [List.length_set]
  exact h.ld.own.kept hg (.inr (fun e => own_item_ne h.ld.own _ hu e.symm))
/-- A value written over. -/
theorem Lt4.setVal {w w' : World} {base top A c : Nat} {gk gv : Nat → Nat × Nat} {xs : List Value} {L : List It} (h : Lt4 w base top A c gk gv xs L) (i : Nat) (hi : i < L.length) (val : List Int) (hk : val.length = (L.getD i it0).val.length) (hg : w.grownBy w' (some (gv i).1)) (ho : Ow w' (gv i).1 (gv i).2 (val ++ [163, 164])) :
    Lt4 w' base top A c gk gv xs (L.set i ⟨(L.getD i it0).key, val, (L.getD i it0).size, (L.getD i it0).first⟩) ∧ Fw base top w w' ∧ Sm L (L.set i ⟨(L.getD i it0).key, val, (L.getD i it0).size, (L.getD i it0).first⟩) := by
  have hu := (h.ld.lm.ko i hi).2.u8
  refine ⟨⟨⟨?_, h.ld.lm.setVal i hi val hk hg ho⟩, fun j hj => h.top j (by rw [List.length_set] at hj; exact hj)⟩, Fw.write hg (h.ld.lm.lo i hi).2.1 (h.top i hi).2 hu, Sm.set hi ⟨rfl, hk, rfl, rfl⟩⟩
  rw [List.length_set]
  exact h.ld.own.kept hg (.inr (fun e => own_item_ne h.ld.own _ hu e.symm))

set_option maxHeartbeats 1000000 in
set_option maxRecDepth 100000 in
theorem of_any (A n c : Nat) (w : World) (hc : n + 1 ≤ c) (_hm : c ≤ 9223372036854775807) (hn : n ≤ 5000) :
    Calls Try.prog 13 #[.agg #[.slice (some ⟨A, 0, none⟩) (n + 1) c, .int .i64 n]] w fun en w' => en = .returned (.slice (some ⟨A, 0, none⟩) n (n + 1)) ∧ w.grownBy w' none := by
  obtain ⟨y0, y1⟩ := (Bl.new w (.slice (some ⟨A, 0, none⟩) (n + 1) c) (.int .i64 (n : Int))).cells
  have HG := hid_intro (World.grownBy_alloc w (.cells #[.slice (some ⟨A, 0, none⟩) (n + 1) c, .int .i64 (n : Int)] 26) none)
  have g1 : (n : Int) ≤ (n : Int) + 1 := by omega
  have g2 : (n : Int) + 1 ≤ (c : Int) := by omega
  have g3 : (0 : Int) ≤ (n : Int) := by omega
  go_enter Try.func13, Try.ntmps13
  go_wp2
  go_ret
  exact ⟨rfl, HG.out⟩
end Go.Proofs.Ytlfhonlifgpnhaa
