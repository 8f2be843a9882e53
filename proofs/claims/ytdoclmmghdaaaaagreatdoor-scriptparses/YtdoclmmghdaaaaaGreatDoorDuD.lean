import Derived.Test.YtdoclmmghdaaaaaGreatDoorDuC
namespace Go.Proofs.YtdoclmmghdaaaaaGreatDoor
open Go.RowKit

/-- Pairs of one's own: each key and value in a row of bytes. -/
structure Pw (w : World) (xs : List Value) (l : List Pq) : Prop where
  len : xs.length = l.length * 2
  el : ∀ i p, l[i]? = some p → ∃ ao c bo d, xs[i * 2]? = some (.slice ao p.1.length c) ∧ xs[i * 2 + 1]? = some (.slice bo p.2.length d) ∧ w.ownsRow 0 5 1 (.slice ao p.1.length c) p.1.length (p.1.map (Value.int .u8)) ∧ w.ownsRow 0 5 1 (.slice bo p.2.length d) p.2.length (p.2.map (Value.int .u8)) ∧ Bt p.1 ∧ Bt p.2
theorem Pw.nil (w : World) : Pw w [] [] := ⟨rfl, fun i p h => by simp at h⟩
theorem Pw.keptN {w w' : World} {xs : List Value} {l : List Pq} (h : Pw w xs l) (hg : w.grownBy w' none) : Pw w' xs l :=
  ⟨h.len, fun i p hp => by
    obtain ⟨ao, c, bo, d, h1, h2, h3, h4, h5⟩ := h.el i p hp
    exact ⟨ao, c, bo, d, h1, h2, own_keptD h3 hg, own_keptD h4 hg, h5⟩⟩
theorem own_neD {w : World} {b1 b2 e1 e2 s1 s2 n1 n2 : Nat} {v1 v2 : Value} {x1 x2 : List Value} (h : w.ownsRow b1 e1 s1 v1 n1 x1) (k : w.ownsRow b2 e2 s2 v2 n2 x2) (hne : e1 ≠ e2) : v1.ownBlock = none ∨ v1.ownBlock ≠ v2.ownBlock := by
  rcases h.2 with ⟨h1, _⟩ | ⟨g, cap, cur, h1, _, h3, _⟩
  · left; rw [h1]; rfl
  · right
    rcases k.2 with ⟨k1, _⟩ | ⟨g', cap', cur', k1, _, k3, _⟩
    · rw [h1, k1]; simp [Value.ownBlock]
    · rw [h1, k1]
      simp only [Value.ownBlock, ne_eq, Option.some.injEq]
      intro e
      subst e
      rw [h3] at k3
      simp only [Option.some.injEq, Obj.cells.injEq] at k3
      exact hne k3.2.1
theorem Pw.snoc {w : World} {xs : List Value} {l : List Pq} {p : Pq} {ao bo : Option Addr} {c d : Nat} (h : Pw w xs l) (h3 : w.ownsRow 0 5 1 (.slice ao p.1.length c) p.1.length (p.1.map (Value.int .u8))) (h4 : w.ownsRow 0 5 1 (.slice bo p.2.length d) p.2.length (p.2.map (Value.int .u8))) (hb : Bt p.1 ∧ Bt p.2) : Pw w (xs ++ [.slice ao p.1.length c, .slice bo p.2.length d]) (l ++ [p]) := by
  have hl := h.len
  refine ⟨by simp [hl]; omega, fun i q hq => ?_⟩
  by_cases hi : i < l.length
  · rw [List.getElem?_append_left hi] at hq
    obtain ⟨ao', c', bo', d', h1, h2, h3', h4', h5⟩ := h.el i q hq
    exact ⟨ao', c', bo', d', by rw [List.getElem?_append_left (by omega)]; exact h1, by rw [List.getElem?_append_left (by omega)]; exact h2, h3', h4', h5⟩
  · rw [List.getElem?_append_right (by omega)] at hq
    have hi2 : i - l.length = 0 := by
      cases hk : i - l.length with
      | zero => rfl
      | succ k => rw [hk] at hq; simp at hq
    rw [hi2] at hq
    simp only [List.getElem?_cons_zero, Option.some.injEq] at hq
    subst hq
    have hi3 : i = l.length := by omega
    subst hi3
    refine ⟨ao, c, bo, d, ?_, ?_, h3, h4, hb⟩
    · rw [List.getElem?_append_right (by omega), hl, Nat.sub_self]; rfl
    · rw [List.getElem?_append_right (by omega), hl, Nat.add_sub_cancel_left]; rfl
theorem byt_of_ownD {w : World} {base n c : Nat} {a : Option Addr} {zs : List Int} (h : w.ownsRow base 5 1 (.slice a n c) n (zs.map (Value.int .u8))) : Byt w a n c zs := by
  obtain ⟨a', c', e, hb⟩ := owns_any h
  simp only [Value.slice.injEq] at e
  obtain ⟨rfl, _, rfl⟩ := e
  exact hb
def Pa.pre (l : List Pq) : Pa → Pa
  | .ok m => .ok (l ++ m)
  | .error (k, e) => .error (k, e)
theorem Pa.pre_nil (r : Pa) : r.pre [] = r := by cases r <;> rfl
theorem Pa.pre_cons (l : List Pq) (p : Pq) (r : Pa) : (r.cons p).pre l = r.pre (l ++ [p]) := by cases r <;> simp [Pa.pre, Pa.cons]
theorem cnt_le {t : List UInt8} {n : Nat} (h : cnt t = some n) : n ≤ 2147483647 := by
  unfold cnt at h
  split at h
  · exact (dec_nb h).2
  · cases h
theorem cell_two20 (w : World) (e : TypeId) (a b : Value) : ∀ j u, [a, b][j]? = some u → (w.alloc (.cells #[a, b] e)).drew.cell? ((⟨w.heap.size, 0, none⟩ : Addr).add j) = some u := fun j u h => cell_two_new w e a b j u h
end Go.Proofs.YtdoclmmghdaaaaaGreatDoor
