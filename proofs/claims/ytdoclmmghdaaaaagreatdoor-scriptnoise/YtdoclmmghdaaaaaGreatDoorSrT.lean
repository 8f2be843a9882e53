import Derived.Test.YtdoclmmghdaaaaaGreatDoorSrP
namespace Go.Proofs.YtdoclmmghdaaaaaGreatDoor
open Go.RowKit

/-! P23.7, pure: the text with its noise, as the law lays it. -/
def zPl : List UInt8 := [32, 9, 35, 32, 112, 117, 116, 32, 54, 49]
def zEl : List UInt8 := [9, 32, 35, 32, 115, 111]
def blk (m : Nat) : List UInt8 := (List.range m).map fun n => if n % 2 = 0 then 32 else 9
def bct (z : Int) : Nat := min z.toNat 20
abbrev Nst := List (List UInt8) × List UInt8
def nst (i : Nat) (st : Nst) (p : Int × Int) : Nst := if p.1 = (i : Int) then (st.1 ++ [st.2 ++ zPl], blk (bct p.2)) else st
def nln (i : Nat) (l : List (Int × Int)) : Nst := l.foldl (nst i) ([], [])
def cE (l : List (Int × Int)) (i : Nat) : Nat := l.countP fun p => decide (p.1 = (i : Int))
def cP (l : List (Int × Int)) (i : Nat) : Nat := l.countP fun p => decide (0 ≤ p.1 ∧ p.1 < (i : Int))
def nlx (l : List (Int × Int)) (L : List (List UInt8)) (i : Nat) : List (List UInt8) × List UInt8 := ((nln i l).1, (nln i l).2 ++ (L.getD i [] ++ zEl))
def nxs (l : List (Int × Int)) (L : List (List UInt8)) (i : Nat) : List (List (List UInt8) × List UInt8) := (List.range i).map (nlx l L)
/-- The text. -/
def ntx (l : List (Int × Int)) (L : List (List UInt8)) (i : Nat) : List UInt8 := flt23 (nzl (nxs l L i))
/-- What stands there while the noise of line i is laid. -/
def ntp (st : Nst) : List UInt8 := flt23 st.1 ++ st.2
def atz (l : List (Int × Int)) (i : Nat) : Nat := i + 1 + cP l (i + 1)
theorem blk_succ (m : Nat) : blk (m + 1) = blk m ++ [if m % 2 = 0 then 32 else 9] := by unfold blk; rw [List.range_succ, List.map_append]; rfl
theorem blk_len (m : Nat) : (blk m).length = m := by unfold blk; simp
theorem blk_blank (m : Nat) : ∀ c ∈ blk m, isb c = true := by
  intro c hc
  unfold blk at hc
  obtain ⟨n, _, rfl⟩ := List.mem_map.1 hc
  split <;> decide
theorem nln_snoc (i : Nat) (l : List (Int × Int)) (p : Int × Int) : nln i (l ++ [p]) = nst i (nln i l) p := by unfold nln; rw [List.foldl_append]; rfl
theorem cE_snoc (i : Nat) (l : List (Int × Int)) (p : Int × Int) : cE (l ++ [p]) i = cE l i + if p.1 = (i : Int) then 1 else 0 := by
  unfold cE
  rw [List.countP_append, List.countP_singleton]
  simp
theorem cP_zero (l : List (Int × Int)) : cP l 0 = 0 := by
  unfold cP
  rw [List.countP_eq_zero]
  intro p _
  simp
theorem cP_succ (i : Nat) : ∀ l : List (Int × Int), cP l (i + 1) = cP l i + cE l i
  | [] => rfl
  | p :: l => by
    have ih := cP_succ i l
    unfold cP cE at *
    rw [List.countP_cons, List.countP_cons, List.countP_cons, ih]
    by_cases h1 : p.1 = (i : Int)
    · have a1 : (decide (0 ≤ p.1 ∧ p.1 < ((i + 1 : Nat) : Int))) = true := by simp; omega
      have a2 : (decide (0 ≤ p.1 ∧ p.1 < (i : Int))) = false := by simp; omega
      have a3 : (decide (p.1 = (i : Int))) = true := by simp [h1]
      rw [a1, a2, a3]
      simp
      omega
    · have a3 : (decide (p.1 = (i : Int))) = false := by simp [h1]
      by_cases h2 : 0 ≤ p.1 ∧ p.1 < (i : Int)
      · have a1 : (decide (0 ≤ p.1 ∧ p.1 < ((i + 1 : Nat) : Int))) = true := by simp; omega
        have a2 : (decide (0 ≤ p.1 ∧ p.1 < (i : Int))) = true := by simp; omega
        rw [a1, a2, a3]
        simp
        omega
      · have a1 : (decide (0 ≤ p.1 ∧ p.1 < ((i + 1 : Nat) : Int))) = false := by simp; omega
        have a2 : (decide (0 ≤ p.1 ∧ p.1 < (i : Int))) = false := by simp; omega
        rw [a1, a2, a3]
        simp
theorem cP_le (l : List (Int × Int)) (i : Nat) : cP l i ≤ l.length := List.countP_le_length
theorem cE_le (l : List (Int × Int)) (i : Nat) : cE l i ≤ l.length := List.countP_le_length
/-- What holds of the noise of a line. -/
structure NlP (st : Nst) (c : Nat) : Prop where
  len : st.1.length = c
  no : ∀ p ∈ st.1, ∃ bl, p = bl ++ zPl ∧ ∀ c ∈ bl, isb c = true
  bl : ∀ c ∈ st.2, isb c = true
  sz : (flt23 st.1).length + st.2.length ≤ 31 * c
theorem NlP.step {st : Nst} {c i : Nat} (h : NlP st c) (p : Int × Int) : NlP (nst i st p) (c + if p.1 = (i : Int) then 1 else 0) := by
  unfold nst
  split
  · refine ⟨by simp [h.len], fun q hq => ?_, blk_blank _, ?_⟩
    · rcases List.mem_append.1 hq with hq | hq
      · exact h.no q hq
      · simp only [List.mem_cons, List.not_mem_nil, or_false] at hq
        exact ⟨st.2, hq, h.bl⟩
    · have := h.sz
      rw [flt_snoc, blk_len]
      have hb : bct p.2 ≤ 20 := Nat.min_le_right _ _
      have hz : zPl.length = 10 := rfl
      simp only [List.length_append, List.length_cons, List.length_nil, hz]
      omega
  · exact ⟨by simp [h.len], h.no, h.bl, by simpa using h.sz⟩
theorem nlp_fold (i : Nat) : ∀ (l : List (Int × Int)) (st : Nst) (c : Nat), NlP st c → NlP (l.foldl (nst i) st) (c + cE l i)
  | [], st, c, h => h
  | p :: l, st, c, h => by
    have := nlp_fold i l (nst i st p) _ (h.step p)
    rw [List.foldl_cons]
    unfold cE at *
    rw [List.countP_cons]
    rw [Nat.add_assoc, Nat.add_comm (if p.1 = (i : Int) then 1 else 0)] at this
    simpa using this
theorem nlp (i : Nat) (l : List (Int × Int)) : NlP (nln i l) (cE l i) := by
  have := nlp_fold i l ([], []) 0 ⟨rfl, (fun p hp => by cases hp), (fun c hc => by cases hc), by simp [flt23]⟩
  rwa [Nat.zero_add] at this
theorem isb_ne {c : UInt8} (h : isb c = true) : c ≠ 10 := fun e => by subst e; revert h; decide
theorem zPl_cut : zPl = [32, 9] ++ 35 :: [32, 112, 117, 116, 32, 54, 49] := rfl
theorem zEl_cut : zEl = [9, 32] ++ 35 :: [32, 115, 111] := rfl
theorem nlx_noisy (l : List (Int × Int)) (L : List (List UInt8)) (i : Nat) : Noisy (nlx l L i) (L.getD i []) := by
  have h := nlp i l
  refine ⟨fun p hp => ?_, ?_⟩
  · obtain ⟨bl, rfl, hb⟩ := h.no p hp
    rw [zPl_cut, ← List.append_assoc]
    refine words_none _ _ fun c hc => ?_
    rcases List.mem_append.1 hc with hc | hc
    · exact hb c hc
    · simp only [List.mem_cons, List.not_mem_nil, or_false] at hc
      rcases hc with rfl | rfl <;> decide
  · show wrds (cua 35 ((nln i l).2 ++ (L.getD i [] ++ zEl))) = _
    rw [zEl_cut]
    refine words_noise _ _ [9, 32] _ h.bl fun c hc => ?_
    simp only [List.mem_cons, List.not_mem_nil, or_false] at hc
    rcases hc with rfl | rfl <;> decide
theorem nxs_len (l : List (Int × Int)) (L : List (List UInt8)) (i : Nat) : (nxs l L i).length = i := by unfold nxs; simp
theorem nxs_at (l : List (Int × Int)) (L : List (List UInt8)) {i j : Nat} (h : j < i) : (nxs l L i)[j]? = some (nlx l L j) := by
  unfold nxs
  rw [List.getElem?_map, List.getElem?_range h]
  rfl
theorem nxs_succ (l : List (Int × Int)) (L : List (List UInt8)) (i : Nat) : nxs l L (i + 1) = nxs l L i ++ [nlx l L i] := by unfold nxs; rw [List.range_succ, List.map_append]; rfl
theorem nzl_snoc (xs : List (List (List UInt8) × List UInt8)) (x : List (List UInt8) × List UInt8) : nzl (xs ++ [x]) = nzl xs ++ (x.1 ++ [x.2]) := by unfold nzl; rw [List.flatMap_append]; simp
theorem flt_app (a b : List (List UInt8)) : flt23 (a ++ b) = flt23 a ++ flt23 b := by unfold flt23; rw [List.flatMap_append]
theorem ntx_succ (l : List (Int × Int)) (L : List (List UInt8)) (i : Nat) : ntx l L (i + 1) = ((ntx l L i ++ ntp (nln i l)) ++ L.getD i []) ++ (zEl ++ [10]) := by
  unfold ntx ntp
  rw [nxs_succ, nzl_snoc, flt_app, flt_app]
  have : flt23 [(nlx l L i).2] = (nln i l).2 ++ (L.getD i [] ++ zEl) ++ [10] := by unfold flt23 nlx; simp
  rw [this]
  show flt23 (nzl (nxs l L i)) ++ (flt23 (nln i l).1 ++ _) = _
  simp only [List.append_assoc]
theorem nst_text (i : Nat) (st : Nst) (p : Int × Int) (h : p.1 = (i : Int)) : ntp (nst i st p) = (ntp st ++ (zPl ++ [10])) ++ blk (bct p.2) := by
  unfold nst ntp
  rw [if_pos h]
  simp only
  rw [flt_snoc]
  simp only [List.append_assoc]
theorem nst_same (i : Nat) (st : Nst) (p : Int × Int) (h : p.1 ≠ (i : Int)) : nst i st p = st := if_neg h
theorem ntx_len (l : List (Int × Int)) (L : List (List UInt8)) : ∀ i, i ≤ L.length → (ntx l L i).length ≤ (flt23 (L.take i)).length + 6 * i + 31 * cP l i
  | 0, _ => by unfold ntx nxs; simp [nzl, flt23]
  | i + 1, h => by
    have ih := ntx_len l L i (by omega)
    have hs := (nlp i l).sz
    have hi : i < L.length := by omega
    have ht : L.take (i + 1) = L.take i ++ [L.getD i []] := by
      rw [List.take_add_one, List.getD, List.getElem?_eq_getElem hi]
      rfl
    rw [ntx_succ, ht, flt_snoc, cP_succ]
    unfold ntp
    have hz : zEl.length = 6 := rfl
    simp only [List.length_append, List.length_cons, List.length_nil, hz]
    omega
theorem ntx_clean (l : List (Int × Int)) (L : List (List UInt8)) (hL : ∀ x ∈ L, (10 : UInt8) ∉ x) (i : Nat) : ∀ x ∈ nzl (nxs l L i), (10 : UInt8) ∉ x := by
  intro x hx
  unfold nzl nxs at hx
  obtain ⟨y, hy, hx⟩ := List.mem_flatMap.1 hx
  obtain ⟨j, _, rfl⟩ := List.mem_map.1 hy
  have h := nlp j l
  rcases List.mem_append.1 hx with hx | hx
  · obtain ⟨bl, rfl, hb⟩ := h.no x hx
    intro hm
    rcases List.mem_append.1 hm with hm | hm
    · exact isb_ne (hb _ hm) rfl
    · revert hm; decide
  · simp only [List.mem_cons, List.not_mem_nil, or_false] at hx
    subst hx
    intro hm
    unfold nlx at hm
    simp only at hm
    rcases List.mem_append.1 hm with hm | hm
    · exact isb_ne (h.bl _ hm) rfl
    · rcases List.mem_append.1 hm with hm | hm
      · by_cases hj : j < L.length
        · rw [List.getD, List.getElem?_eq_getElem hj] at hm
          exact hL _ (List.getElem_mem hj) hm
        · rw [List.getD, List.getElem?_eq_none (by omega)] at hm
          simp at hm
      · revert hm; decide
theorem nzat_at : ∀ (xs : List (List (List UInt8) × List UInt8)) (no at' j : Nat), j < xs.length → nzat xs no at' (no + j) = at' + j + ((xs.take (j + 1)).map fun x => x.1.length).sum
  | [], _, _, _, h => by simp at h
  | x :: xs, no, at', 0, _ => by rw [nzat, if_pos (by omega)]; simp
  | x :: xs, no, at', j + 1, h => by
    have ih := nzat_at xs (no + 1) (at' + x.1.length + 1) j (by simpa using h)
    rw [nzat, if_neg (by omega), show no + (j + 1) = no + 1 + j by omega, ih, List.take_succ_cons]
    simp
    omega
theorem sum_cE (l : List (Int × Int)) (L : List (List UInt8)) : ∀ i, ((nxs l L i).map fun x => x.1.length).sum = cP l i
  | 0 => by rw [cP_zero]; rfl
  | i + 1 => by
    rw [nxs_succ, List.map_append, List.sum_append, sum_cE l L i, cP_succ]
    have := (nlp i l).len
    simp [nlx, this]
theorem nxs_take (l : List (Int × Int)) (L : List (List UInt8)) {i m : Nat} (h : i ≤ m) : (nxs l L m).take i = nxs l L i := by
  unfold nxs
  rw [← List.map_take, List.take_range, Nat.min_eq_left h]
/-- P23.7, pure. -/
theorem psc_noise (l : List (Int × Int)) (T : List UInt8) (hT : T.length ≤ 60000) (hl : l.length ≤ 60) : (ntx l (lns T) (lns T).length).length ≤ 500000 ∧
    ((∃ s, psc T = .ok s ∧ psc (ntx l (lns T) (lns T).length) = .ok s) ∨ (∃ e, psc T = .error (0, e) ∧ psc (ntx l (lns T) (lns T).length) = .error (0, e)) ∨
    ∃ k e, psc T = .error (k + 1, e) ∧ k < (lns T).length ∧ psc (ntx l (lns T) (lns T).length) = .error (atz l k, e)) := by
  have hlen := ntx_len l (lns T) (lns T).length (Nat.le_refl _)
  have hf := flt_len T
  have hc : (lns T).length ≤ (flt23 (lns T)).length := by
    have : ∀ ls : List (List UInt8), ls.length ≤ (flt23 ls).length := fun ls => by
      induction ls with
      | nil => exact Nat.zero_le _
      | cons x ls ih => rw [flt_cons]; simp; omega
    exact this _
  have hp := cP_le l (lns T).length
  rw [List.take_of_length_le (Nat.le_refl _)] at hlen
  have hb : (ntx l (lns T) (lns T).length).length ≤ 500000 := by omega
  refine ⟨hb, ?_⟩
  have e1 : lns (ntx l (lns T) (lns T).length) = nzl (nxs l (lns T) (lns T).length) := by
    have := lns_flt (nzl (nxs l (lns T) (lns T).length)) [] (ntx_clean l (lns T) (lns_clean T) _)
    rwa [List.append_nil, lns_nil, List.append_nil] at this
  have e2 : psc (ntx l (lns T) (lns T).length) = nzr (nxs l (lns T) (lns T).length) 1 1 (psc T) := by
    unfold psc
    rw [if_neg (by omega), if_neg (by omega), e1]
    refine pll_noise _ _ 1 1 none (nxs_len _ _ _) (fun i x ln hx hln => ?_) (Nat.le_refl _)
    obtain ⟨hi, hln2⟩ := List.getElem?_eq_some_iff.1 hln
    rw [nxs_at l (lns T) hi] at hx
    cases hx
    have := nlx_noisy l (lns T) i
    rwa [List.getD, hln] at this
  rw [e2]
  cases hr : psc T with
  | ok s => exact .inl ⟨s, rfl, rfl⟩
  | error q =>
    obtain ⟨k, e⟩ := q
    cases k with
    | zero => exact .inr (.inl ⟨e, rfl, rfl⟩)
    | succ k =>
      have hk : k < (lns T).length := by
        unfold psc at hr
        rw [if_neg (by omega)] at hr
        rcases pll_at _ _ _ _ _ hr with q | q <;> omega
      refine .inr (.inr ⟨k, e, rfl, hk, ?_⟩)
      unfold nzr
      simp only
      rw [if_neg (by omega), Nat.add_comm k 1, nzat_at _ _ _ _ (by rw [nxs_len]; exact hk), nxs_take l (lns T) (by omega), sum_cE]
      unfold atz
      congr 2
      omega
end Go.Proofs.YtdoclmmghdaaaaaGreatDoor
