import Derived.Test.YtpoflmcmlnghhaaNv1
import Derived.Laws.AppendOwnNone
import Derived.BigQuiet
namespace Go.Proofs.Ytpoflmcmlnghhaa
open Go.RowKit Go.Maps

/-! ### append, of numbers: of a list that may be none -/
theorem run17 {w : World} {base : Nat} {v : Value} {T : List Int} (ty : TypeId) (hown : Ow w base v T) {va : Option Addr} {m c : Nat} {ys : List Int} (hy : Nt w va ys) (hm : ys.length = m) (hc : va = none → c = 0) (hb : T.length + m ≤ 2000000) (hbase : base ≤ w.heap.size) :
    ∃ v' w', (Builtin.append_ #[22, 22] ty #[v, .slice va m c]).run Try.prog w = .ok v' w' ∧ Ow w' base v' (T ++ ys) ∧ w.grownBy w' v.ownBlock ∧ (∀ g, v'.ownBlock = some g → v.ownBlock = some g ∨ w.heap.size ≤ g) := by
  obtain ⟨i1, hi1, hy0, hy1, hy2⟩ := info_parts info_int
  cases va with
  | none =>
    have h0 : ys = [] := by
      cases ys with
      | nil => rfl
      | cons y ys =>
        obtain ⟨b, off, e, _⟩ := hy.row 0 (by simp)
        cases e
    subst h0
    have h1 := hc rfl
    simp at hm
    subst h1 hm
    refine ⟨v, w, run_append_owned_none (P := Try.prog) (w := w) base 22 ty 3 i1 1 Try.underlying22 hi1 v T.length _ hown, ?_, World.grownBy.refl _ _, fun g hg => .inl hg⟩
    rw [List.append_nil]
    exact hown
  | some ad =>
    have hn : ∀ j u, (ys.map (Value.int .i64))[j]? = some u → w.cell? (ad.add j) = some u := by
      intro j u hu
      have hj : j < ys.length := by have := (List.getElem?_eq_some_iff.1 hu).1; simpa using this
      obtain ⟨b, off, e, _⟩ := hy.row j hj
      obtain rfl := Option.some.inj e
      exact hy.news j u hu
    obtain ⟨v', w', hrun, r1, r2, r3, r4⟩ := run_append_own_at (P := Try.prog) w base 22 ty 3 i1 (.int .i64 0) 1 8 Try.underlying22 hi1 hy0 hy1 hy2 rfl (by decide) v T.length _ hown ad m c (ys.map (Value.int .i64)) (by simp; omega) hn (ints_oneCell _ _) (by unfold maxLen; omega) (by omega) hbase
    refine ⟨v', w', hrun, ?_, r2, fun g hg => ?_⟩
    · rw [← List.map_append] at r1
      exact Ow.of r1
    · rcases r4 with r4 | r4
      · exact .inl (by rw [← r4]; exact hg)
      · rw [r4] at hg
        exact .inr (by rw [← Option.some.inj hg]; exact Nat.le_refl _)
theorem app17 {w : World} {ops : Array Oper} {rest : List Oper} {o : Oper} {a : Act} {Q : Exit → Act → World → Prop} (hgd : o.guard = none) (s x : Operand)
    (ho : o.op = .call { callee := .builtin .append, args := #[s, x], argTypes := #[22, 22] })
    (base : Nat) (v : Value) (T : List Int) (hs : a.eval s = v) (hown : Ow w base v T) (va : Option Addr) (m c : Nat) (hx : a.eval x = .slice va m c) (ys : List Int) (hy : Nt w va ys) (hm : ys.length = m) (hc : va = none → c = 0) (hb : T.length + m ≤ 2000000) (hbase : base ≤ w.heap.size)
    (h : ∀ v' w', Ow w' base v' (T ++ ys) → w.grownBy w' v.ownBlock → (∀ g, v'.ownBlock = some g → v.ownBlock = some g ∨ w.heap.size ≤ g) → wpList Try.prog ops Q rest (a.put o.dst v') w') : wpList Try.prog ops Q (o :: rest) a w := by
  refine wpList_plain hgd fun K hK => ?_
  obtain ⟨v', w', hrun, r1, r2, r3⟩ := run17 o.type hown hy hm hc hb hbase
  unfold Oper.wp
  simp [execOp, ho, resolve, invoke, builtin, hs, hx, hrun, Result.andThen]
  exact hK _ _ (h v' w' r1 r2 r3)
theorem step17 {ops : Array Oper} {o : Oper} {a : Act} {w : World} {K : Act → World → Prop} {Q : Exit → Act → World → Prop} {E : Prop} (hgd : o.guard = none) (s x : Operand)
    (ho : o.op = .call { callee := .builtin .append, args := #[s, x], argTypes := #[22, 22] })
    (base : Nat) (v : Value) (T : List Int) (hs : a.eval s = v) (hown : Ow w base v T) (va : Option Addr) (m c : Nat) (hx : a.eval x = .slice va m c) (ys : List Int) (hy : Nt w va ys) (hm : ys.length = m) (hc : va = none → c = 0) (hb : T.length + m ≤ 2000000) (hbase : base ≤ w.heap.size)
    (h : ∀ v' w', Ow w' base v' (T ++ ys) → w.grownBy w' v.ownBlock → (∀ g, v'.ownBlock = some g → v.ownBlock = some g ∨ w.heap.size ≤ g) → K (a.put o.dst v') w') :
    if Region.wanted o (yielded ops a.tmps) = true then Oper.wp Try.prog o a w K Q else E := by
  have hw : Region.wanted o (yielded ops a.tmps) = true := by simp [Region.wanted, hgd]
  rw [if_pos hw]
  obtain ⟨v', w', hrun, r1, r2, r3⟩ := run17 o.type hown hy hm hc hb hbase
  unfold Oper.wp
  simp [execOp, ho, resolve, invoke, builtin, hs, hx, hrun, Result.andThen]
  exact h v' w' r1 r2 r3
theorem Ow.empty (w : World) (base : Nat) (hb : base ≤ w.heap.size) : Ow (w.alloc (.cells #[] 3)) base (.slice (some ⟨w.heap.size, 0, none⟩) 0 0) [] :=
  ⟨rfl, .inr ⟨w.heap.size, 0, #[], rfl, hb, heap_alloc_new w _, Nat.le_refl _, Nat.zero_le _, rfl, rfl⟩⟩

/-! ### what its owner gives up -/
def insZ (x : Int) : List Int → List Int
  | [] => [x]
  | y :: r => if y < x then y :: insZ x r else x :: y :: r
theorem insZ_at (x : Int) (l : List Int) (i : Nat) (hi : i ≤ l.length) (h : (l.take i).all (fun y => decide (y < x)) = true) (h2 : i < l.length → ¬ l.getD i 0 < x) : insZ x l = l.take i ++ x :: l.drop i := by
  induction l generalizing i with
  | nil => simp at hi; subst hi; rfl
  | cons y r ih =>
    cases i with
    | zero =>
      have := h2 (by simp)
      simp at this
      simp [insZ, show ¬ y < x by omega]
    | succ i =>
      simp at h
      have h1 := ih i (by simpa using hi) (by simpa using h.2) (fun hl => by have := h2 (by simpa using hl); simpa using this)
      simp [insZ, h.1, h1]
theorem mem_insZ (x : Int) (l : List Int) (z : Int) : z ∈ insZ x l ↔ z = x ∨ z ∈ l := by
  induction l with
  | nil => simp [insZ]
  | cons y r ih =>
    unfold insZ
    split
    · simp only [List.mem_cons, ih]
      constructor
      · rintro (h | h | h)
        · exact .inr (.inl h)
        · exact .inl h
        · exact .inr (.inr h)
      · rintro (h | h | h)
        · exact .inr (.inl h)
        · exact .inl h
        · exact .inr (.inr h)
    · simp
theorem RisZ.insZ {l : List Int} (h : RisZ l) (x : Int) (hx : x ∉ l) : RisZ (insZ x l) := by
  induction l with
  | nil => exact List.pairwise_singleton _ _
  | cons y r ih =>
    unfold RisZ at h ih ⊢
    rw [List.pairwise_cons] at h
    simp only [List.mem_cons, not_or] at hx
    unfold Proofs.Ytpoflmcmlnghhaa.insZ
    split
    · rw [List.pairwise_cons]
      refine ⟨fun z hz => ?_, ih h.2 hx.2⟩
      rcases (mem_insZ x r z).1 hz with rfl | hz
      · omega
      · exact h.1 z hz
    · rw [List.pairwise_cons, List.pairwise_cons]
      refine ⟨fun z hz => ?_, h⟩
      rcases List.mem_cons.1 hz with rfl | hz
      · omega
      · have := h.1 z hz
        omega
def gv (l : List Int) : List Int := l.foldl (fun a x => insZ x a) []
theorem gv_snoc (l : List Int) (x : Int) : gv (l ++ [x]) = insZ x (gv l) := by simp [gv]
theorem insZ_len (x : Int) (l : List Int) : (insZ x l).length = l.length + 1 := by
  induction l with
  | nil => rfl
  | cons y r ih => unfold insZ; split <;> simp [ih]
/-- What is given up: rising, the same numbers. -/
theorem gv_ok (l : List Int) (hn : l.Nodup) : RisZ (gv l) ∧ (∀ z, z ∈ gv l ↔ z ∈ l) ∧ (gv l).length = l.length := by
  suffices h : ∀ (n : Nat), n ≤ l.length → RisZ (gv (l.take n)) ∧ (∀ z, z ∈ gv (l.take n) ↔ z ∈ l.take n) ∧ (gv (l.take n)).length = n by
    have := h l.length (Nat.le_refl _)
    rw [List.take_length] at this
    exact this
  intro n
  induction n with
  | zero => intro _; simp [gv, RisZ]
  | succ n ih =>
    intro hl
    obtain ⟨h1, h2, h3⟩ := ih (by omega)
    rw [take_snoc (by omega), gv_snoc]
    have hx : l.getD n 0 ∉ l.take n := by
      have hs : l.take (n + 1) = l.take n ++ [l.getD n 0] := take_snoc (by omega)
      have hd : (l.take (n + 1)).Nodup := hn.sublist (List.take_sublist _ _)
      rw [hs, List.nodup_append] at hd
      intro hm
      exact hd.2.2 _ hm _ (by simp) rfl
    refine ⟨h1.insZ _ (fun hm => hx ((h2 _).1 hm)), fun z => ?_, by rw [insZ_len, h3]⟩
    rw [mem_insZ, h2, List.mem_append, List.mem_singleton]
    exact Or.comm
end Go.Proofs.Ytpoflmcmlnghhaa
