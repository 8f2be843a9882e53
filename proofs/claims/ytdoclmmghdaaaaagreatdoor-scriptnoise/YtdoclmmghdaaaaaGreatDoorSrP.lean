import Derived.Test.YtdoclmmghdaaaaaGreatDoorSrO
namespace Go.Proofs.YtdoclmmghdaaaaaGreatDoor
open Go.RowKit

/-! P23.7, pure: what says nothing. -/
theorem cua_left {a x : List UInt8} (h : (35 : UInt8) ∉ a) : cua 35 (a ++ x) = a ++ cua 35 x := by
  unfold cua
  cases hc : cutC 35 x with
  | none =>
    have h2 := cutC_none.1 hc
    rw [cutC_none.2 (by rw [List.mem_append]; rintro (q | q); exact h q; exact h2 q)]
  | some p =>
    obtain ⟨b, d⟩ := p
    obtain ⟨e, hb⟩ := cutC_some hc
    subst e
    rw [← List.append_assoc, cutC_app (by rw [List.mem_append]; rintro (q | q); exact h q; exact hb q)]
theorem cua_hash (a r : List UInt8) : cua 35 (a ++ 35 :: r) = cua 35 a := by
  by_cases h : (35 : UInt8) ∈ a
  · unfold cua
    cases hc : cutC 35 a with
    | none => exact absurd h (cutC_none.1 hc)
    | some p =>
      obtain ⟨b, d⟩ := p
      obtain ⟨e, hb⟩ := cutC_some hc
      subst e
      rw [List.append_assoc, List.cons_append, cutC_app hb]
  · rw [cua_left h]
    have h1 : cua 35 (35 :: r) = [] := by unfold cua; rw [show cutC 35 (35 :: r) = some ([], r) from cutC_app (a := []) (by simp)]
    have h2 : cua 35 a = a := by unfold cua; rw [cutC_none.2 h]
    rw [h1, h2, List.append_nil]
theorem wrds_left : ∀ (bl x : List UInt8), (∀ c ∈ bl, isb c = true) → wrds (bl ++ x) = wrds x
  | [], x, _ => rfl
  | c :: bl, x, h => by
    have hc := h c List.mem_cons_self
    have ih := wrds_left bl x (fun y hy => h y (List.mem_cons_of_mem _ hy))
    have e : tok (c :: (bl ++ x)) = ([], cns (tok (bl ++ x))) := by rw [tok]; exact if_pos hc
    show cns (tok (c :: (bl ++ x))) = _
    rw [e, ← ih]
    rfl
theorem wrds_blank (bl : List UInt8) (h : ∀ c ∈ bl, isb c = true) : wrds bl = [] := by
  have := wrds_left bl [] h
  rw [List.append_nil] at this
  rw [this]
  rfl
theorem wrds_right (bl : List UInt8) (h : ∀ c ∈ bl, isb c = true) : ∀ l : List UInt8, tok (l ++ bl) = tok l ∨ bl = []
  | [] => by
    cases bl with
    | nil => right; rfl
    | cons c r =>
      left
      have hc := h c List.mem_cons_self
      have e : tok (c :: r) = ([], cns (tok r)) := by rw [tok]; exact if_pos hc
      have hr := wrds_blank r (fun y hy => h y (List.mem_cons_of_mem _ hy))
      show tok (c :: r) = ([], [])
      rw [e]
      show ([], wrds r) = _
      rw [hr]
  | c :: l => by
    rcases wrds_right bl h l with q | q
    · left
      show tok (c :: (l ++ bl)) = tok (c :: l)
      rw [tok, tok, q]
    · right; exact q
theorem wrds_behind (l bl : List UInt8) (h : ∀ c ∈ bl, isb c = true) : wrds (l ++ bl) = wrds l := by
  rcases wrds_right bl h l with q | q
  · unfold wrds; rw [q]
  · rw [q, List.append_nil]
/-- Blanks ahead of a line and a remark behind it: the same words. -/
theorem words_noise (bl l t r : List UInt8) (hb : ∀ c ∈ bl, isb c = true) (ht : ∀ c ∈ t, isb c = true) : wrds (cua 35 (bl ++ (l ++ (t ++ 35 :: r)))) = wrds (cua 35 l) := by
  have no : ∀ x : List UInt8, (∀ c ∈ x, isb c = true) → (35 : UInt8) ∉ x := fun x hx hm => by have := hx 35 hm; revert this; decide
  rw [cua_left (no bl hb), wrds_left bl _ hb]
  have e : l ++ (t ++ 35 :: r) = (l ++ t) ++ 35 :: r := by rw [List.append_assoc]
  rw [e, cua_hash]
  by_cases h : (35 : UInt8) ∈ l
  · obtain ⟨a, d, he⟩ := List.append_of_mem h
    subst he
    rw [List.append_assoc, List.cons_append, cua_hash, cua_hash]
  · have e1 : cua 35 l = l := by unfold cua; rw [cutC_none.2 h]
    have e2 : cua 35 t = t := by unfold cua; rw [cutC_none.2 (no t ht)]
    rw [cua_left h, e1, e2, wrds_behind l t ht]
/-- A line of blanks and a remark has no words. -/
theorem words_none (bl r : List UInt8) (hb : ∀ c ∈ bl, isb c = true) : wrds (cua 35 (bl ++ 35 :: r)) = [] := by
  have := words_noise bl [] [] r hb (fun c hc => by cases hc)
  rw [List.nil_append, List.nil_append] at this
  rw [this]
  rfl
/-- Lines without words are passed by. -/
theorem pll_pass : ∀ (ps ls : List (List UInt8)) (no : Nat) (s : Option Sq), (∀ l ∈ ps, wrds (cua 35 l) = []) → pll (ps ++ ls) no s = pll ls (no + ps.length) s
  | [], ls, no, s, _ => rfl
  | p :: ps, ls, no, s, h => by
    rw [List.cons_append, pll_cons, if_pos (h p List.mem_cons_self), pll_pass ps ls (no + 1) s (fun l hl => h l (List.mem_cons_of_mem _ hl)), List.length_cons]
    congr 1
    omega
/-- A line and its noise: lines without words ahead of it, itself with the same words. -/
def Noisy (x : List (List UInt8) × List UInt8) (l : List UInt8) : Prop := (∀ p ∈ x.1, wrds (cua 35 p) = []) ∧ wrds (cua 35 x.2) = wrds (cua 35 l)
def nzl (xs : List (List (List UInt8) × List UInt8)) : List (List UInt8) := xs.flatMap fun x => x.1 ++ [x.2]
/-- Where the line k of the lines that begin with number no stands now. -/
def nzat : List (List (List UInt8) × List UInt8) → Nat → Nat → Nat → Nat
  | [], _, _, k => k
  | x :: xs, no, at', k => if k = no then at' + x.1.length else nzat xs (no + 1) (at' + x.1.length + 1) k
def nzr (xs : List (List (List UInt8) × List UInt8)) (no at' : Nat) : Except (Nat × Int) Sq → Except (Nat × Int) Sq
  | .ok s => .ok s
  | .error (k, e) => if k = 0 then .error (0, e) else .error (nzat xs no at' k, e)
theorem pll_noise : ∀ (xs : List (List (List UInt8) × List UInt8)) (ls : List (List UInt8)) (no at' : Nat) (s : Option Sq), xs.length = ls.length → (∀ (i : Nat) x l, xs[i]? = some x → ls[i]? = some l → Noisy x l) → 1 ≤ no → pll (nzl xs) at' s = nzr xs no at' (pll ls no s)
  | [], [], no, at', s, _, _, _ => by
    cases s with
    | none => rfl
    | some s => rfl
  | [], _ :: _, _, _, _, h, _, _ => by cases h
  | _ :: _, [], _, _, _, h, _, _ => by cases h
  | x :: xs, l :: ls, no, at', s, h, hn, h1 => by
    have hx := hn 0 x l rfl rfl
    have ih := fun s' => pll_noise xs ls (no + 1) (at' + x.1.length + 1) s' (by simpa using h) (fun i y m hy hm => hn (i + 1) y m hy hm) (by omega)
    have e : nzl (x :: xs) = x.1 ++ (x.2 :: nzl xs) := by unfold nzl; rw [List.flatMap_cons, List.append_assoc]; rfl
    have far : ∀ r : Except (Nat × Int) Sq, (∀ k e, r = .error (k, e) → k ≠ 0 → no + 1 ≤ k) → nzr xs (no + 1) (at' + x.1.length + 1) r = nzr (x :: xs) no at' r := by
      intro r hr
      cases r with
      | ok s => rfl
      | error p =>
        obtain ⟨k, e⟩ := p
        unfold nzr
        simp only
        by_cases hk : k = 0
        · rw [if_pos hk, if_pos hk]
        · have := hr k e rfl hk
          rw [if_neg hk, if_neg hk, nzat, if_neg (by omega)]
    have fl : ∀ s', ∀ k e, pll ls (no + 1) s' = .error (k, e) → k ≠ 0 → no + 1 ≤ k := fun s' k e he hk => by
      rcases pll_at ls (no + 1) s' k e he with q | q
      · exact absurd q.1 hk
      · exact q.1
    rw [e, pll_pass x.1 _ at' s hx.1, pll_cons, pll_cons, hx.2]
    by_cases hw : wrds (cua 35 l) = []
    · rw [if_pos hw, if_pos hw, ih s, far _ (fl s)]
    · rw [if_neg hw, if_neg hw]
      cases ht : tke s (wrds (cua 35 l)) with
      | ok s' => simp only; rw [ih (some s'), far _ (fl (some s'))]
      | error e =>
        simp only
        unfold nzr
        simp only
        rw [if_neg (by omega), nzat, if_pos rfl]
end Go.Proofs.YtdoclmmghdaaaaaGreatDoor
