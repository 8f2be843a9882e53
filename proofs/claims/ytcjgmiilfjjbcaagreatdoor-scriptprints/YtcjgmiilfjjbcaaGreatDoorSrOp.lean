import Derived.Test.YtcjgmiilfjjbcaaGreatDoorSrL
namespace Go.Proofs.YtcjgmiilfjjbcaaGreatDoor
open Go.RowKit

/-! Lines, pure. -/
theorem lns_nl {a b : List UInt8} (h : (10 : UInt8) ∉ a) : lns (a ++ 10 :: b) = a :: lns b := by
  rw [lns_cut _ (by simp)]
  unfold cua cub
  rw [cutC_app h]
theorem lns_last {a : List UInt8} (h : (10 : UInt8) ∉ a) (h0 : a ≠ []) : lns a = [a] := by
  rw [lns_cut _ h0]
  unfold cua cub
  rw [cutC_none.2 h]
  rfl
theorem lns_clean : ∀ (T : List UInt8), ∀ l ∈ lns T, (10 : UInt8) ∉ l
  | [], l, hl => by cases hl
  | c :: T, l, hl => by
    have ih := lns_clean T
    rw [lns_cons] at hl
    split at hl
    · rcases List.mem_cons.1 hl with rfl | hl
      · simp
      · exact ih l hl
    · rename_i hc
      cases hT : lns T with
      | nil =>
        rw [hT] at hl
        simp only [List.mem_cons, List.not_mem_nil, or_false] at hl
        subst hl
        simp only [List.mem_cons, List.not_mem_nil, or_false]
        exact fun e => hc e.symm
      | cons x xs =>
        rw [hT] at hl ih
        rcases List.mem_cons.1 hl with rfl | hl
        · have := ih x List.mem_cons_self
          simp only [List.mem_cons, not_or]
          exact ⟨fun e => hc e.symm, this⟩
        · exact ih l (List.mem_cons_of_mem _ hl)
/-- Lines, each with its newline. -/
def flt23 (ls : List (List UInt8)) : List UInt8 := ls.flatMap fun l => l ++ [10]
theorem flt_cons (l : List UInt8) (ls : List (List UInt8)) : flt23 (l :: ls) = l ++ 10 :: flt23 ls := by unfold flt23; rw [List.flatMap_cons]; simp
theorem flt_snoc (l : List UInt8) (ls : List (List UInt8)) : flt23 (ls ++ [l]) = flt23 ls ++ (l ++ [10]) := by unfold flt23; rw [List.flatMap_append]; simp
theorem lns_flt : ∀ (ls : List (List UInt8)) (D : List UInt8), (∀ l ∈ ls, (10 : UInt8) ∉ l) → lns (flt23 ls ++ D) = ls ++ lns D
  | [], D, _ => rfl
  | l :: ls, D, h => by
    rw [flt_cons, List.append_assoc, List.cons_append, lns_nl (h l List.mem_cons_self), lns_flt ls D (fun x hx => h x (List.mem_cons_of_mem _ hx))]
    rfl
theorem flt_len : ∀ T : List UInt8, (flt23 (lns T)).length ≤ T.length + 1
  | [] => by simp [lns_nil, flt23]
  | c :: T => by
    have ih := flt_len T
    rw [lns_cons]
    split
    · rw [flt_cons]; simp; omega
    · cases hT : lns T with
      | nil => simp [flt23]
      | cons x xs =>
        rw [hT, flt_cons] at ih
        simp only
        rw [flt_cons]
        simp at ih ⊢
        omega
theorem flt_take (ls : List (List UInt8)) (k : Nat) : (flt23 (ls.take k)).length ≤ (flt23 ls).length := by
  conv => rhs; rw [← List.take_append_drop k ls]
  unfold flt23
  rw [List.flatMap_append, List.length_append]
  omega
/-- Where a fault stands. -/
theorem pll_at : ∀ (ls : List (List UInt8)) (no : Nat) (s : Option Sq) (k : Nat) (e : Int), pll ls no s = .error (k, e) → (k = 0 ∧ e = 230) ∨ (no ≤ k ∧ k < no + ls.length)
  | [], no, none, k, e, h => by rw [pll] at h; cases h; exact .inl ⟨rfl, rfl⟩
  | [], no, some s, k, e, h => by rw [pll] at h; cases h
  | l :: ls, no, s, k, e, h => by
    rw [pll_cons] at h
    split at h
    · rcases pll_at ls (no + 1) s k e h with q | q
      · exact .inl q
      · exact .inr ⟨by omega, by simp; omega⟩
    · split at h
      · rcases pll_at ls (no + 1) _ k e h with q | q
        · exact .inl q
        · exact .inr ⟨by omega, by simp; omega⟩
      · cases h; exact .inr ⟨Nat.le_refl _, by simp⟩
/-- What comes behind it matters not. -/
theorem pll_same : ∀ (ls : List (List UInt8)) (no : Nat) (s : Option Sq) (k : Nat) (e : Int) (rest : List (List UInt8)), pll ls no s = .error (k, e) → no ≤ k → 1 ≤ no → pll (ls.take (k + 1 - no) ++ rest) no s = .error (k, e)
  | [], no, none, k, e, rest, h, hk, h1 => by rw [pll] at h; cases h; omega
  | [], no, some s, k, e, rest, h, hk, _ => by rw [pll] at h; cases h
  | l :: ls, no, s, k, e, rest, h, hk, h1 => by
    rw [show k + 1 - no = (k - no) + 1 by omega, List.take_succ_cons, List.cons_append, pll_cons]
    rw [pll_cons] at h
    split at h
    · rename_i hw
      rw [if_pos hw]
      rcases pll_at ls (no + 1) s k e h with ⟨q, _⟩ | q
      · omega
      · rw [show k - no = k + 1 - (no + 1) by omega]
        exact pll_same ls (no + 1) s k e rest h q.1 (by omega)
    · rename_i hw
      rw [if_neg hw]
      cases ht : tke s (wrds (cua 35 l)) with
      | ok s' =>
        rw [ht] at h
        simp only at h ⊢
        rcases pll_at ls (no + 1) _ k e h with ⟨q, _⟩ | q
        · omega
        · rw [show k - no = k + 1 - (no + 1) by omega]
          exact pll_same ls (no + 1) _ k e rest h q.1 (by omega)
      | error x => rw [ht] at h; simp only at h ⊢; exact h
/-- What stands ahead of it is read. -/
theorem pll_ahead : ∀ (ls : List (List UInt8)) (no : Nat) (s : Option Sq) (k : Nat) (e : Int), pll ls no s = .error (k, e) → no ≤ k → 1 ≤ no → (∃ x, pll (ls.take (k - no)) no s = .ok x) ∨ pll (ls.take (k - no)) no s = .error (0, 230)
  | [], no, none, k, e, h, hk, h1 => by rw [pll] at h; cases h; omega
  | [], no, some s, k, e, h, hk, _ => by rw [pll] at h; cases h
  | l :: ls, no, s, k, e, h, hk, h1 => by
    by_cases hkn : k = no
    · rw [hkn, Nat.sub_self, List.take_zero]
      cases s with
      | none => right; rfl
      | some x => left; exact ⟨x, rfl⟩
    · rw [pll_cons] at h
      rw [show k - no = (k - (no + 1)) + 1 by omega, List.take_succ_cons, pll_cons]
      split at h
      · rename_i hw
        rw [if_pos hw]
        exact pll_ahead ls (no + 1) s k e h (by omega) (by omega)
      · rename_i hw
        rw [if_neg hw]
        cases ht : tke s (wrds (cua 35 l)) with
        | ok s' =>
          rw [ht] at h
          simp only at h ⊢
          exact pll_ahead ls (no + 1) _ k e h (by omega) (by omega)
        | error x => rw [ht] at h; simp only at h; cases h; exact absurd rfl hkn
/-- P23.8, pure. -/
theorem psc_fault {T other : List UInt8} {k : Nat} {e : Int} (h : psc T = .error (k, e)) (hT : T.length ≤ 60000) (ho : other.length ≤ 60000) (hk : 1 ≤ k) :
    k ≤ (lns T).length ∧ psc (flt23 ((lns T).take k) ++ other) = .error (k, e) ∧ ((∃ x, psc (flt23 ((lns T).take (k - 1))) = .ok x) ∨ psc (flt23 ((lns T).take (k - 1))) = .error (0, 230)) ∧ (flt23 ((lns T).take k) ++ other).length ≤ 120001 ∧ (flt23 ((lns T).take (k - 1))).length ≤ 60001 := by
  unfold psc at h
  rw [if_neg (by omega)] at h
  have hl := flt_len T
  have l1 := flt_take (lns T) k
  have l2 := flt_take (lns T) (k - 1)
  have hcl : ∀ j, ∀ l ∈ (lns T).take j, (10 : UInt8) ∉ l := fun j l hm => lns_clean T l (List.mem_of_mem_take hm)
  refine ⟨?_, ?_, ?_, by rw [List.length_append]; omega, by omega⟩
  · rcases pll_at _ _ _ _ _ h with q | q <;> omega
  · unfold psc
    rw [if_neg (by rw [List.length_append]; omega), lns_flt _ _ (hcl k)]
    have := pll_same (lns T) 1 none k e (lns other) h hk (by omega)
    rwa [show k + 1 - 1 = k by omega] at this
  · have e0 : lns (flt23 ((lns T).take (k - 1))) = (lns T).take (k - 1) := by
      have := lns_flt ((lns T).take (k - 1)) [] (hcl (k - 1))
      rwa [List.append_nil, lns_nil, List.append_nil] at this
    unfold psc
    rw [if_neg (by omega), e0]
    exact pll_ahead (lns T) 1 none k e h hk (by omega)
end Go.Proofs.YtcjgmiilfjjbcaaGreatDoor
