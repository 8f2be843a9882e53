import Derived.Test.YtkiopabcnemgnaaGreatDoorK21
namespace Go.Proofs.YtkiopabcnemgnaaGreatDoor
open Go.RowKit
theorem step_append_own5 {ops : Array Oper} {o : Oper} {a : Act} {w : World} {K : Act → World → Prop} {Q : Exit → Act → World → Prop} {E : Prop} (hgd : o.guard = none) (s x : Operand) (t : TypeId)
  (ho : o.op = .call { callee := .builtin .append, args := #[s, x], argTypes := #[t, t] })
  (base : Nat) (e : TypeId) (i : TypeInfo) (z : Value) (size bytes : Nat) (ht : Tryz.prog.underlying t = some (.slice e)) (hi : Tryz.prog.info? e = some i) (hz : i.zero = some z) (hsize : i.size = size) (hby : i.bytes = bytes) (hzs : z.cells.size = size) (hsz : 0 < size)
  (v : Value) (n : Nat) (xs : List Value) (hs : a.eval s = v) (hown : w.ownsRow base e size v n xs)
  (ad : Addr) (m c : Nat) (news : List Value) (hx : a.eval x = .slice (some ad) m c) (hl : news.length = m * size) (hnews : ∀ j u, news[j]? = some u → w.cell? (ad.add j) = some u) (h1 : ∀ u ∈ news, u.oneCell' = true)
  (h63 : n + m ≤ maxLen) (hbytes : (n + m) * bytes ≤ 140737488355328) (hbase : base ≤ w.heap.size)
  (h : ∀ v' w', w'.ownsRow base e size v' (n + m) (xs ++ news) → w.grownBy w' v.ownBlock → K (a.put o.dst v') w') :
  if Region.wanted o (yielded ops a.tmps) = true then Oper.wp Tryz.prog o a w K Q else E := by
 have hw : Region.wanted o (yielded ops a.tmps) = true := by simp [Region.wanted, hgd]
 rw [if_pos hw];obtain ⟨v', w', hrun, r1, r2, _⟩ := run_append_own (P := Tryz.prog) w base t o.type e i z size bytes ht hi hz hsize hby hzs hsz v n xs hown ad m c news hl hnews h1 h63 hbytes hbase;unfold Oper.wp;simp [execOp, ho, resolve, invoke, builtin, hs, hx, hrun, Result.andThen];exact h v' w' r1 r2
theorem step_append_byt5 {ops : Array Oper} {o : Oper} {a : Act} {w : World} {K : Act → World → Prop} {Q : Exit → Act → World → Prop} {E : Prop} (hgd : o.guard = none) (s x : Operand)
  (ho : o.op = .call { callee := .builtin .append, args := #[s, x], argTypes := #[25, 25] })
  (base : Nat) (v : Value) (n : Nat) (zs : List Int) (hs : a.eval s = v) (hown : w.ownsRow base 5 1 v n (zs.map (Value.int .u8)))
  (ao : Option Addr) (m c : Nat) (ts : List Int) (hx : a.eval x = .slice ao m c) (hb : Byt w ao m c ts) (h63 : n + m ≤ 140737488355328) (hbase : base ≤ w.heap.size)
  (h : ∀ v' w', w'.ownsRow base 5 1 v' (n + m) ((zs ++ ts).map (Value.int .u8)) → w.grownBy w' v.ownBlock → K (a.put o.dst v') w') :
  if Region.wanted o (yielded ops a.tmps) = true then Oper.wp Tryz.prog o a w K Q else E := by
 obtain ⟨i0, hi, hz0, hz1, hz2⟩ := info_parts info_u8;cases ao with
 | none =>
  obtain ⟨rfl, rfl⟩ := hb.nil rfl;have ht : ts = [] := List.length_eq_zero_iff.1 hb.len;subst ht;have hw : Region.wanted o (yielded ops a.tmps) = true := by simp [Region.wanted, hgd]
  rw [if_pos hw];have hrun := run_append_owned_none (P := Tryz.prog) (w := w) base 25 o.type 5 i0 1 Tryz.underlying25 hi v n _ hown;unfold Oper.wp;simp [execOp, ho, resolve, invoke, builtin, hs, hx, hrun, Result.andThen];exact h v w (by rw [List.append_nil]; exact hown) (World.grownBy.refl _ _)
 | some ad =>
  refine step_append_own5 hgd s x 25 ho base 5 i0 (.int .u8 0) 1 1 Tryz.underlying25 hi hz0 hz1 hz2 rfl (by decide) v n _ hs hown ad m c (ts.map (Value.int .u8)) hx (by rw [List.length_map, hb.len, Nat.mul_one]) (hb.cells ad rfl) (ints_oneCell _ _) (by unfold maxLen; omega) (by omega) hbase ?_;intro v' w' h1 h2;exact h v' w' (by rw [List.map_append]; exact h1) h2
structure Sx (w : World) (xs : List Value) (M : List (List Int)) : Prop where
 len : xs.length = M.length
 el : ∀ j, j < M.length → ∃ b v, xs[j]? = some v ∧ w.ownsRow b 5 1 v (M.getD j []).length ((M.getD j []).map (Value.int .u8))
theorem Sx.nil (w : World) : Sx w [] [] := ⟨rfl, fun j hj => by simp at hj⟩
theorem Sx.kept {w w' : World} {xs : List Value} {M : List (List Int)} {base sz n : Nat} {vl : Value} {ys : List Value} (h : Sx w xs M) (hg : w.grownBy w' vl.ownBlock) (ho : w.ownsRow base 25 sz vl n ys) : Sx w' xs M := by
 refine ⟨h.len, fun j hj => ?_⟩;obtain ⟨b, v, h1, h2⟩ := h.el j hj;refine ⟨b, v, h1, h2.kept hg ?_⟩;rcases h2.2 with ⟨rfl, _⟩ | ⟨g, cap, cur', rfl, _, hgg, _⟩
 ·exact .inl rfl
 ·exact .inr (own_ne ho hgg (by decide))
theorem Sx.keptN {w w' : World} {xs : List Value} {M : List (List Int)} (h : Sx w xs M) (hg : w.grownBy w' none) : Sx w' xs M := by
 refine ⟨h.len, fun j hj => ?_⟩;obtain ⟨b, v, h1, h2⟩ := h.el j hj;exact ⟨b, v, h1, h2.kept hg (by cases v.ownBlock with | none => exact .inl rfl | some g => exact .inr (by simp))⟩
theorem Sx.snoc {w : World} {xs : List Value} {M : List (List Int)} {b n : Nat} {v : Value} {x : List Int} (h : Sx w xs M) (h1 : w.ownsRow b 5 1 v n (x.map (Value.int .u8))) (hn : x.length = n) : Sx w (xs ++ [v]) (M ++ [x]) := by
 have hl := h.len;refine ⟨by simp [hl], fun j hj => ?_⟩;rw [List.length_append] at hj;simp only [List.length_cons, List.length_nil] at hj
 by_cases e : j < M.length
 ·obtain ⟨b, v, k1, k2⟩ := h.el j e
  have eg : (M ++ [x]).getD j [] = M.getD j [] := by simp [List.getD, List.getElem?_append_left e]
  rw [eg];exact ⟨b, v, by rw [List.getElem?_append_left (by omega)]; exact k1, k2⟩
 ·obtain rfl : j = M.length := by omega
  have eg : (M ++ [x]).getD M.length [] = x := by simp [List.getD]
  rw [eg, hn];exact ⟨b, v, by rw [List.getElem?_append_right (by omega), hl, Nat.sub_self]; rfl, h1⟩
theorem Sx.lz {w : World} {base : Nat} {v : Value} {n : Nat} {xs : List Value} {M : List (List Int)} (h : Sx w xs M) (ho : w.ownsRow base 25 1 v n xs) : ∃ a cap, v = .slice a n cap ∧ Lz w a M ∧ M.length = n ∧ n ≤ cap ∧ cap ≤ 9223372036854775807 := by
 have hl := h.len;have hn : M.length = n := by have := ho.1; omega
 rcases ho.2 with ⟨rfl, rfl⟩ | ⟨g, cap, cur, rfl, _, _, hc, hm, _⟩
 ·obtain rfl : M = [] := List.length_eq_zero_iff.1 hn
  exact ⟨none, 0, rfl, Lz.zero _ _, rfl, Nat.le_refl _, by omega⟩
 ·refine ⟨_, cap, rfl, ⟨fun i hi => ?_⟩, hn, hc, by unfold maxLen at hm; omega⟩
  obtain ⟨b, v', h1, h2⟩ := h.el i hi;have hcl := ho.cellAt i (by omega);obtain ⟨ao, c', e1, hb⟩ := owns_any h2;subst e1;rcases h2.2 with ⟨e2, e3⟩ | ⟨g', cap', cur', e2, _, _, hc', hm', _⟩
  ·rw [e3] at hb h1
   simp only [Value.slice.injEq] at e2;obtain ⟨rfl, _, rfl⟩ := e2;exact ⟨g, 0, none, 0, 0, rfl, by rw [Nat.zero_add, hcl]; exact h1, hb, Nat.le_refl _, by omega⟩
  ·simp only [Value.slice.injEq] at e2
   obtain ⟨rfl, _, rfl⟩ := e2;exact ⟨g, 0, _, _, c', rfl, by rw [Nat.zero_add, hcl]; exact h1, hb, hc', by unfold maxLen at hm'; omega⟩
theorem grown_ownN {a b c : World} {row : Option Nat} (h : a.grownBy b none) (k : b.grownBy c row) (hr : ∀ g, row = some g → a.heap.size ≤ g) : a.grownBy c none :=
 ⟨k.os.trans h.os, k.tape.trans h.tape, k.output.trans h.output, Nat.le_trans h.size k.size,
  fun i hi hne => (k.block i (Nat.lt_of_lt_of_le hi h.size) (by intro e; have := hr i e.symm; omega)).trans (h.block i hi hne)⟩
end Go.Proofs.YtkiopabcnemgnaaGreatDoor
