import Derived.Test.YtcdkkhbkicejiaaGreatDoorQ18
namespace Go.Proofs.YtcdkkhbkicejiaaGreatDoor
open Go.RowKit
theorem U8.kept {w w' : World} {b : Nat} {row : Option Nat} (h : U8 w b) (hg : w.grownBy w' row) (hne : some b ≠ row) : U8 w' b := by
 obtain ⟨cur, h1⟩ := h
 exact ⟨cur, (hg.block b (Array.getElem?_eq_some_iff.1 h1).1 hne).trans h1⟩
theorem Im.kept {w w' : World} {R : Nat} {ao : Option Addr} {n c : Nat} {bo : Option Addr} {m d : Nat} {x : It} {row : Option Nat} (h : Im w R ao n c bo m d x) (hg : w.grownBy w' row) (hne : ∀ b, b ≠ R → U8 w b → some b ≠ row) : Im w' R ao n c bo m d x :=
 ⟨h.key.kept hg (fun ad e hn => hne _ (h.kb ad e hn).1 (h.kb ad e hn).2), h.kc, h.val.kept hg (fun ad e hn => hne _ (h.vb ad e hn).1 (h.vb ad e hn).2), h.vc,
  fun ad e hn => ⟨(h.kb ad e hn).1, (h.kb ad e hn).2.kept hg (hne _ (h.kb ad e hn).1 (h.kb ad e hn).2)⟩, fun ad e hn => ⟨(h.vb ad e hn).1, (h.vb ad e hn).2.kept hg (hne _ (h.vb ad e hn).1 (h.vb ad e hn).2)⟩⟩
structure Iv (w : World) (R : Nat) (xs : List Value) (L : List It) : Prop where
 len : xs.length = L.length * 4
 el : ∀ j, j < L.length → ∃ ao n c bo m d, xs[j * 4]? = some (.slice ao n c) ∧ xs[j * 4 + 1]? = some (.slice bo m d) ∧ xs[j * 4 + 2]? = some (.int .i64 (L.getD j it0).size) ∧ xs[j * 4 + 3]? = some (.int .i64 (L.getD j it0).first) ∧ Im w R ao n c bo m d (L.getD j it0)
theorem Iv.nil (w : World) (R : Nat) : Iv w R [] [] := ⟨rfl, fun j hj => by simp at hj⟩
theorem Iv.kept {w w' : World} {R : Nat} {xs : List Value} {L : List It} {row : Option Nat} (h : Iv w R xs L) (hg : w.grownBy w' row) (hne : ∀ b, b ≠ R → U8 w b → some b ≠ row) : Iv w' R xs L := by
 refine ⟨h.len, fun j hj => ?_⟩
 obtain ⟨ao, n, c, bo, m, d, h1, h2, h3, h4, h5⟩ := h.el j hj
 exact ⟨ao, n, c, bo, m, d, h1, h2, h3, h4, h5.kept hg hne⟩
theorem Iv.snoc {w : World} {R : Nat} {xs : List Value} {L : List It} {ao : Option Addr} {n c : Nat} {bo : Option Addr} {m d : Nat} {x : It} (h : Iv w R xs L) (hx : Im w R ao n c bo m d x) (s f : Int) (hs : x.size = s) (hf : x.first = f) :
  Iv w R (xs ++ [.slice ao n c, .slice bo m d, .int .i64 s, .int .i64 f]) (L ++ [x]) := by
 have hl := h.len
 refine ⟨by simp [hl]; omega, fun j hj => ?_⟩
 rw [List.length_append] at hj
 simp only [List.length_cons, List.length_nil] at hj
 by_cases e : j < L.length
 ·obtain ⟨ao, n, c, bo, m, d, h1, h2, h3, h4, h5⟩ := h.el j e
  have eg : (L ++ [x]).getD j it0 = L.getD j it0 := by simp [List.getD, List.getElem?_append_left e]
  rw [eg]
  exact ⟨ao, n, c, bo, m, d, by rw [List.getElem?_append_left (by omega)]; exact h1, by rw [List.getElem?_append_left (by omega)]; exact h2, by rw [List.getElem?_append_left (by omega)]; exact h3, by rw [List.getElem?_append_left (by omega)]; exact h4, h5⟩
 ·obtain rfl : j = L.length := by omega
  have eg : (L ++ [x]).getD L.length it0 = x := by simp [List.getD]
  rw [eg, hs, hf]
  refine ⟨ao, n, c, bo, m, d, ?_, ?_, ?_, ?_, hx⟩
  ·rw [List.getElem?_append_right (by omega), hl, Nat.sub_self]; rfl
  ·rw [List.getElem?_append_right (by omega), hl, Nat.add_sub_cancel_left]; rfl
  ·rw [List.getElem?_append_right (by omega), hl, Nat.add_sub_cancel_left]; rfl
  ·rw [List.getElem?_append_right (by omega), hl, Nat.add_sub_cancel_left]; rfl
theorem Iv.il {w : World} {R base : Nat} {v : Value} {n : Nat} {xs : List Value} {L : List It} (h : Iv w R xs L) (ho : w.ownsRow base 52 4 v n xs) : ∃ a cap, v = .slice a n cap ∧ Il w a L ∧ L.length = n ∧ n ≤ cap ∧ cap ≤ 9223372036854775807 := by
 have hl := h.len
 have hn : L.length = n := by have := ho.1; omega
 rcases ho.2 with ⟨rfl, rfl⟩ | ⟨g, cap, cur, rfl, _, _, hc, hm, _⟩
 ·obtain rfl : L = [] := List.length_eq_zero_iff.1 hn
  exact ⟨none, 0, rfl, Il.zero _ _, rfl, Nat.le_refl _, by omega⟩
 ·refine ⟨_, cap, rfl, ⟨fun i hi => ?_⟩, hn, hc, by unfold maxLen at hm; omega⟩
  obtain ⟨ao, n', c, bo, m, d, h1, h2, h3, h4, h5⟩ := h.el i hi
  refine ⟨g, 0, ao, n', c, bo, m, d, rfl, ?_, ?_, ?_, ?_, h5.key, h5.kc.1, by have := h5.kc.2; omega, h5.val, h5.vc.1, by have := h5.vc.2; omega⟩
  ·rw [Nat.zero_add, ho.cellAt _ (by omega)]; exact h1
  ·rw [Nat.zero_add, ho.cellAt _ (by omega)]; exact h2
  ·rw [Nat.zero_add, ho.cellAt _ (by omega)]; exact h3
  ·rw [Nat.zero_add, ho.cellAt _ (by omega)]; exact h4
theorem own_item_ne {w : World} {base : Nat} {v : Value} {n : Nat} {xs : List Value} (ho : w.ownsRow base 52 4 v n xs) : ∀ b, U8 w b → some b ≠ v.ownBlock := by
 intro b ⟨cur, h1⟩ e
 rcases ho.2 with ⟨rfl, _⟩ | ⟨g, cap, cur', rfl, _, hg, _⟩
 ·cases e
 ·obtain rfl : b = g := Option.some.inj e
  rw [h1] at hg
  simp only [Option.some.injEq, Obj.cells.injEq] at hg
  exact absurd hg.2.1 (by decide)
theorem info_item : (Tryz.prog.info? 52).map (fun i => (i.zero, i.size, i.bytes)) = some (some (.agg #[.slice none 0 0, .slice none 0 0, .int .i64 0, .int .i64 0]), 4, 64) := by kernel_rfl
theorem cell_four_new (w : World) (a b c d : Value) (t : TypeId) : ∀ j u, [a, b, c, d][j]? = some u → (w.alloc (.cells #[a, b, c, d] t)).cell? ((⟨w.heap.size, 0, none⟩ : Addr).add j) = some u := by
 intro j u hu
 rw [Addr.add_lit, Nat.zero_add, cell_of_row _ w.heap.size j _ _ (0, 0) (heap_alloc_new w _)]
 simpa using hu
theorem Two.grown2 {w w' w'' : World} {R Q : Nat} {row : Option Nat} (h : Two w w' R Q) (hg : w'.grownBy w'' row) (hr : ∀ k, row = some k → k = R ∨ k = Q ∨ w.heap.size ≤ k) : Two w w'' R Q :=
 ⟨hg.os.trans h.os, hg.tape.trans h.tape, hg.output.trans h.output, Nat.le_trans h.size hg.size, fun k hk h1 h2 => (hg.block k (Nat.lt_of_lt_of_le hk h.size) (fun e => by rcases hr k e.symm with e2 | e2 | e2 <;> omega)).trans (h.block k hk h1 h2)⟩
end Go.Proofs.YtcdkkhbkicejiaaGreatDoor
