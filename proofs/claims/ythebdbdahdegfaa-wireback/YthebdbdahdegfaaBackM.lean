import Derived.Test.YthebdbdahdegfaaTools
namespace Go.Proofs.Ythebdbdahdegfaa
open Go.RowKit

/-- The bytes of the first k numbers. -/
def acc (X : Nat → Nat) (D : Nat → Int) : Nat → List Int
  | 0 => []
  | k + 1 => acc X D k ++ form (wd (D k)) (X k)

section
variable (X : Nat → Nat) (D : Nat → Int)

theorem acc_len (k : Nat) : (acc X D (k + 1)).length = (acc X D k).length + (form (wd (D k)) (X k)).length := by rw [acc, List.length_append]

theorem acc_le (k : Nat) : (acc X D k).length ≤ 10 * k := by
  induction k with
  | zero => simp [acc]
  | succ k ih => rw [acc_len]; have := (form_le (D k) (X k)).1; omega

theorem acc_ge (k : Nat) : k ≤ (acc X D k).length := by
  induction k with
  | zero => simp
  | succ k ih => rw [acc_len]; have := (form_le (D k) (X k)).2; omega

theorem acc_bt (k : Nat) : Bt (acc X D k) := by
  induction k with
  | zero => exact Bt.nil
  | succ k ih => exact ih.app (form_bt _ _)

theorem acc_pre (k L : Nat) (h : k ≤ L) : ∃ r, acc X D L = acc X D k ++ r := by
  induction L with
  | zero =>
    have : k = 0 := by omega
    subst this
    exact ⟨[], by simp⟩
  | succ L ih =>
    by_cases e : k = L + 1
    · subst e; exact ⟨[], by simp⟩
    · obtain ⟨r, hr⟩ := ih (by omega)
      exact ⟨r ++ form (wd (D L)) (X L), by rw [acc, hr, List.append_assoc]⟩

/-- What is left of the bytes, cut off at C, at number k. -/
theorem acc_drop (k L C : Nat) (h : k < L) : ∃ r, ((acc X D L).take C).drop (acc X D k).length = (form (wd (D k)) (X k) ++ r).take (C - (acc X D k).length) := by
  obtain ⟨r, hr⟩ := acc_pre X D (k + 1) L (by omega)
  refine ⟨r, ?_⟩
  rw [List.drop_take, hr, acc, List.append_assoc, List.drop_left]

theorem acc_whole (k L C : Nat) (h : k < L) (hC : (acc X D (k + 1)).length ≤ C) : ∃ t, ((acc X D L).take C).drop (acc X D k).length = form (wd (D k)) (X k) ++ t := by
  obtain ⟨r, hr⟩ := acc_drop X D k L C h
  rw [acc_len] at hC
  refine ⟨r.take (C - (acc X D k).length - (form (wd (D k)) (X k)).length), ?_⟩
  rw [hr, List.take_append, List.take_of_length_le (by omega)]

theorem acc_part (k L C : Nat) (h : k < L) (hC : C < (acc X D (k + 1)).length) : ((acc X D L).take C).drop (acc X D k).length = (form (wd (D k)) (X k)).take (C - (acc X D k).length) := by
  obtain ⟨r, hr⟩ := acc_drop X D k L C h
  rw [acc_len] at hC
  rw [hr, List.take_append_of_le_length (by omega)]

/-- The ends of the first k numbers, as values. -/
def endsL (k : Nat) : List Value := (List.range k).map fun i => Value.int .i64 ((acc X D (i + 1)).length : Nat)

theorem endsL_succ (k : Nat) : endsL X D (k + 1) = endsL X D k ++ [.int .i64 ((acc X D (k + 1)).length : Nat)] := by
  unfold endsL; rw [List.range_succ, List.map_append]; rfl
theorem endsL_len (k : Nat) : (endsL X D k).length = k := by simp [endsL]
theorem endsL_at (k i : Nat) (h : i < k) : (endsL X D k)[i]? = some (.int .i64 ((acc X D (i + 1)).length : Nat)) := by
  simp [endsL, h]
end

theorem tmod_bd (n : Nat) (c : Int) : -(n : Int) ≤ c.tmod ((n : Int) + 1) ∧ c.tmod ((n : Int) + 1) ≤ n := by
  have hp : (0 : Int) < (n : Int) + 1 := by omega
  rcases Int.le_total 0 c with h | h
  · have := Int.tmod_nonneg ((n : Int) + 1) h
    have := Int.tmod_lt_of_pos c hp
    omega
  · have h1 : (-c).tmod ((n : Int) + 1) = -(c.tmod ((n : Int) + 1)) := Int.neg_tmod c _
    have := Int.tmod_nonneg ((n : Int) + 1) (show 0 ≤ -c by omega)
    have := Int.tmod_lt_of_pos (-c) hp
    omega

theorem cut_to (n : Nat) (c : Int) : ∃ C : Nat, C ≤ n ∧ (c.tmod ((n : Int) + 1) + (n : Int) + 1) % ((n : Int) + 1) = (C : Int) := by
  have h0 := Int.emod_nonneg (c.tmod ((n : Int) + 1) + (n : Int) + 1) (show (n : Int) + 1 ≠ 0 by omega)
  have h1 := Int.emod_lt_of_pos (c.tmod ((n : Int) + 1) + (n : Int) + 1) (show (0 : Int) < (n : Int) + 1 by omega)
  exact ⟨((c.tmod ((n : Int) + 1) + (n : Int) + 1) % ((n : Int) + 1)).toNat, by omega, by omega⟩

/-- Numbers that came in: element i lies in two cells. -/
structure NumsAt (w : World) (b off n : Nat) (X : Nat → Nat) (D : Nat → Int) : Prop where
  lt : 0 < n → b < w.heap.size
  at0 : ∀ i, i < n → w.cell? ⟨b, off + i * 2, none⟩ = some (.int .u64 (X i : Nat))
  at1 : ∀ i, i < n → w.cell? ⟨b, off + i * 2 + 1, none⟩ = some (.int .i64 (D i))
  max : ∀ i, i < n → X i < 18446744073709551616

theorem NumsAt.kept {w w' : World} {b off n : Nat} {X : Nat → Nat} {D : Nat → Int} {row : Option Nat} (h : NumsAt w b off n X D) (hg : w.grownBy w' row) (hr : 0 < n → some b ≠ row) : NumsAt w' b off n X D :=
  ⟨fun h0 => Nat.lt_of_lt_of_le (h.lt h0) hg.size, fun i hi => hg.cell (h.at0 i hi) (hr (by omega)), fun i hi => hg.cell (h.at1 i hi) (hr (by omega)), h.max⟩

theorem NumsAt.less {w : World} {b off n m : Nat} {X : Nat → Nat} {D : Nat → Int} (h : NumsAt w b off n X D) (hm : m ≤ n) : NumsAt w b off m X D :=
  ⟨fun h0 => h.lt (by omega), fun i hi => h.at0 i (by omega), fun i hi => h.at1 i (by omega), fun i hi => h.max i (by omega)⟩

theorem own_apart {w : World} {b1 b2 n1 n2 : Nat} {v1 v2 : Value} {x1 x2 : List Value} (h1 : w.ownsRow b1 5 1 v1 n1 x1) (h2 : w.ownsRow b2 3 1 v2 n2 x2) : v1.ownBlock = none ∨ v1.ownBlock ≠ v2.ownBlock := by
  rcases h1.2 with ⟨rfl, _⟩ | ⟨g, c, cur, rfl, _, hg, _⟩
  · exact Or.inl rfl
  · right
    rcases h2.2 with ⟨rfl, _⟩ | ⟨g2, c2, cur2, rfl, _, hg2, _⟩
    · simp [Value.ownBlock]
    · intro e
      have e' : g = g2 := by simpa [Value.ownBlock] using e
      subst e'
      rw [hg] at hg2
      simp at hg2
end Go.Proofs.Ythebdbdahdegfaa
