import Derived.Test.YtcjgmiilfjjbcaaGreatDoorDuA
namespace Go.Proofs.YtcjgmiilfjjbcaaGreatDoor
open Go.RowKit

theorem take_snocU {T : List UInt8} {i : Nat} (h : i < T.length) : T.take (i + 1) = T.take i ++ [T.getD i 0] := by
  rw [List.take_succ_eq_append_getElem h]
  simp [List.getD, List.getElem?_eq_getElem h]
theorem nb_no_dig {T : List UInt8} {i : Nat} (h : i < T.length) (hd : dig (T.getD i 0) = false) : nb T = none := by
  unfold nb
  rw [if_neg]
  rintro ⟨_, _, h3, _⟩
  have := List.all_eq_true.1 h3 (T.getD i 0) (by simp [List.getD, List.getElem?_eq_getElem h])
  rw [hd] at this; cases this
theorem val_app (n : Nat) (a b : List UInt8) : val n (a ++ b) = val (val n a) b := by unfold val; rw [List.foldl_append]
theorem nb_great {T : List UInt8} {i : Nat} (h : 2147483647 < val 0 (T.take i)) : nb T = none := by
  unfold nb
  rw [if_neg]
  rintro ⟨_, _, _, h4⟩
  have h1 : val 0 T = val (val 0 (T.take i)) (T.drop i) := by rw [← val_app, List.take_append_drop]
  have := val_mono (T.drop i) (val 0 (T.take i))
  omega
theorem nb_yes {T : List UInt8} (h0 : T ≠ []) (h1 : T.head? = some 48 → T = [48]) (h2 : T.all dig = true) (h3 : val 0 T ≤ 2147483647) : nb T = some (val 0 T) := by
  unfold nb
  rw [if_pos ⟨h0, h1, h2, h3⟩]
/-- What number and count answer. -/
def NbP (w : World) (r : Option Nat) (en : Ending) (w' : World) : Prop := w.grownBy w' none ∧ ((r = none ∧ en = .returned (.tuple #[.int .i64 0, .bool false])) ∨ ∃ n : Nat, r = some n ∧ en = .returned (.tuple #[.int .i64 (n : Nat), .bool true]))

end Go.Proofs.YtcjgmiilfjjbcaaGreatDoor

namespace Go.Proofs.YtcjgmiilfjjbcaaGreatDoor
open Go.RowKit

def szd (t : List UInt8) (lo hi : Nat) : Rs (List Int) := match uh t with
  | none => .error 201
  | some b => if b.length < lo ∨ hi < b.length then .error 41 else .ok b
def SzP (w : World) (r : Rs (List Int)) (en : Ending) (w' : World) : Prop := w.grownBy w' none ∧ ((∃ e : Int, r = .error e ∧ e ≠ 0 ∧ en = .returned (.tuple #[.slice none 0 0, .int .i64 e])) ∨
  ∃ b ao c, r = .ok b ∧ en = .returned (.tuple #[.slice ao b.length c, .int .i64 0]) ∧ Bt b ∧ w'.ownsRow w.heap.size 5 1 (.slice ao b.length c) b.length (b.map (Value.int .u8)))
theorem pp_eq (a : List Int) (line : List UInt8) : pp a line = if cua 32 line = [] ∨ cub 32 line = [] ∨ 32 ∈ cub 32 line then .error 200 else
    match szd (cua 32 line) 1 255 with
    | .error e => .error e
    | .ok k => match szd (cub 32 line) 0 262144 with
      | .error e => .error e
      | .ok v => if cmpZ k a ≤ 0 then .error 30 else .ok (k, v) := by
  unfold pp cua cub
  cases h : cutC 32 line with
  | none => simp
  | some q =>
    obtain ⟨l, r⟩ := q
    simp only
    by_cases hc : l = [] ∨ r = [] ∨ 32 ∈ r
    · rw [if_pos hc, if_pos hc]
    · rw [if_neg hc, if_neg hc]
      unfold szd
      cases uh l with
      | none => rfl
      | some k =>
        simp only
        by_cases h1 : k.length < 1 ∨ 255 < k.length
        · rw [if_pos h1, if_pos h1]
        · rw [if_neg h1, if_neg h1]
          cases uh r with
          | none => rfl
          | some v =>
            simp only
            by_cases h2 : 262144 < v.length
            · rw [if_pos h2, if_pos (.inr h2)]
            · have h3 : ¬ (v.length < 0 ∨ 262144 < v.length) := by omega
              rw [if_neg h2, if_neg h3]
theorem grown_cellD (w : World) (g i : Nat) (v : Value) : w.grownBy (w.setCell ⟨g, i, none⟩ v) (some g) :=
  ⟨rfl, rfl, rfl, by simp [World.setCell], fun k _ hk => Below.heap_setCell _ _ _ _ (fun e => hk (by rw [e]))⟩
theorem grown_transD {a b c : World} {r : Option Nat} (h : a.grownBy b r) (k : b.grownBy c r) : a.grownBy c r :=
  ⟨k.os.trans h.os, k.tape.trans h.tape, k.output.trans h.output, Nat.le_trans h.size k.size, fun j hj hn => (k.block j (Nat.lt_of_lt_of_le hj h.size) hn).trans (h.block j hj hn)⟩
theorem grown_boxD {w w1 w2 : World} {g : Nat} (h : w.grownBy w1 none) (k : w1.grownBy w2 (some g)) (hg : w.heap.size ≤ g) : w.grownBy w2 none :=
  ⟨k.os.trans h.os, k.tape.trans h.tape, k.output.trans h.output, Nat.le_trans h.size k.size, fun j hj hn => (k.block j (Nat.lt_of_lt_of_le hj h.size) (fun e => by have := Option.some.inj e; omega)).trans (h.block j hj hn)⟩
theorem own_boxD {w1 w2 : World} {g base e sz n : Nat} {v : Value} {xs : List Value} (h : w1.ownsRow base e sz v n xs) (k : w1.grownBy w2 (some g)) (hg : g < base) : w2.ownsRow base e sz v n xs := by
  refine h.kept k ?_
  cases hv : v.ownBlock with
  | none => exact .inl rfl
  | some b => exact .inr (fun e => by have := (h.lt b hv).1; have := Option.some.inj e; omega)
theorem own_keptD {w w' : World} {base e sz n : Nat} {v : Value} {xs : List Value} (h : w.ownsRow base e sz v n xs) (k : w.grownBy w' none) : w'.ownsRow base e sz v n xs := by
  refine h.kept k ?_
  cases v.ownBlock with
  | none => exact .inl rfl
  | some b => exact .inr (by simp)
theorem own_low {w : World} {base base' e sz n : Nat} {v : Value} {xs : List Value} (h : w.ownsRow base e sz v n xs) (hb : base' ≤ base) : w.ownsRow base' e sz v n xs := by
  refine ⟨h.1, ?_⟩
  rcases h.2 with h | ⟨g, cap, cur, h1, h2, h3⟩
  · exact .inl h
  · exact .inr ⟨g, cap, cur, h1, Nat.le_trans hb h2, h3⟩
theorem own_heapD {w W : World} {base e sz n : Nat} {v : Value} {xs : List Value} (h : w.ownsRow base e sz v n xs) (hW : W.heap = w.heap) : W.ownsRow base e sz v n xs := own_same20 h hW
/-- What parsePair answers. -/
def PpP (w : World) (r : Rs Pq) (en : Ending) (w' : World) : Prop := w.grownBy w' none ∧ ((∃ e : Int, r = .error e ∧ e ≠ 0 ∧ en = .returned (.tuple #[.agg #[.slice none 0 0, .slice none 0 0], .int .i64 e])) ∨
  ∃ k v ao c bo d, r = .ok (k, v) ∧ en = .returned (.tuple #[.agg #[.slice ao k.length c, .slice bo v.length d], .int .i64 0]) ∧ Bt k ∧ Bt v ∧ w'.ownsRow w.heap.size 5 1 (.slice ao k.length c) k.length (k.map (Value.int .u8)) ∧ w'.ownsRow w.heap.size 5 1 (.slice bo v.length d) v.length (v.map (Value.int .u8)))
theorem cua_len (x : UInt8) (t : List UInt8) : (cua x t).length ≤ t.length ∧ (cub x t).length ≤ t.length := by
  unfold cua cub
  cases h : cutC x t with
  | none => simp
  | some p =>
    have := (cutC_some (a := p.1) (b := p.2) h).1
    rw [this]; simp; omega
theorem str_nil (t : List UInt8) : ((tstr t).toList == []) = decide (t = []) := by
  have : (tstr t).toList = t := by rw [ByteArray.toList_eq]; rfl
  rw [this]
  cases t <;> rfl
end Go.Proofs.YtcjgmiilfjjbcaaGreatDoor

namespace Go.Proofs.YtcjgmiilfjjbcaaGreatDoor
open Go.RowKit

/-- Pairs of one's own: each key and value in a row of bytes. -/
structure Pw (w : World) (xs : List Value) (l : List Pq) : Prop where
  len : xs.length = l.length * 2
  el : ∀ i p, l[i]? = some p → ∃ ao c bo d, xs[i * 2]? = some (.slice ao p.1.length c) ∧ xs[i * 2 + 1]? = some (.slice bo p.2.length d) ∧ w.ownsRow 0 5 1 (.slice ao p.1.length c) p.1.length (p.1.map (Value.int .u8)) ∧ w.ownsRow 0 5 1 (.slice bo p.2.length d) p.2.length (p.2.map (Value.int .u8)) ∧ Bt p.1 ∧ Bt p.2
theorem Pw.nil (w : World) : Pw w [] [] := ⟨rfl, fun i p h => by simp at h⟩
theorem Pw.keptN {w w' : World} {xs : List Value} {l : List Pq} (h : Pw w xs l) (hg : w.grownBy w' none) : Pw w' xs l :=
  ⟨h.len, fun i p hp => by
    obtain ⟨ao, c, bo, d, h1, h2, h3, h4, h5⟩ := h.el i p hp
    exact ⟨ao, c, bo, d, h1, h2, own_keptD h3 hg, own_keptD h4 hg, h5⟩⟩
theorem own_neD {w : World} {b1 b2 e1 e2 s1 s2 n1 n2 : Nat} {v1 v2 : Value} {x1 x2 : List Value} (h : w.ownsRow b1 e1 s1 v1 n1 x1) (k : w.ownsRow b2 e2 s2 v2 n2 x2) (hne : e1 ≠ e2) : v1.ownBlock = none ∨ v1.ownBlock ≠ v2.ownBlock := by
  rcases h.2 with ⟨h1, _⟩ | ⟨g, cap, cur, h1, _, h3, _⟩
  · left; rw [h1]; rfl
  · right
    rcases k.2 with ⟨k1, _⟩ | ⟨g', cap', cur', k1, _, k3, _⟩
    · rw [h1, k1]; simp [Value.ownBlock]
    · rw [h1, k1]
      simp only [Value.ownBlock, ne_eq, Option.some.injEq]
      intro e
      subst e
      rw [h3] at k3
      simp only [Option.some.injEq, Obj.cells.injEq] at k3
      exact hne k3.2.1
theorem Pw.snoc {w : World} {xs : List Value} {l : List Pq} {p : Pq} {ao bo : Option Addr} {c d : Nat} (h : Pw w xs l) (h3 : w.ownsRow 0 5 1 (.slice ao p.1.length c) p.1.length (p.1.map (Value.int .u8))) (h4 : w.ownsRow 0 5 1 (.slice bo p.2.length d) p.2.length (p.2.map (Value.int .u8))) (hb : Bt p.1 ∧ Bt p.2) : Pw w (xs ++ [.slice ao p.1.length c, .slice bo p.2.length d]) (l ++ [p]) := by
  have hl := h.len
  refine ⟨by simp [hl]; omega, fun i q hq => ?_⟩
  by_cases hi : i < l.length
  · rw [List.getElem?_append_left hi] at hq
    obtain ⟨ao', c', bo', d', h1, h2, h3', h4', h5⟩ := h.el i q hq
    exact ⟨ao', c', bo', d', by rw [List.getElem?_append_left (by omega)]; exact h1, by rw [List.getElem?_append_left (by omega)]; exact h2, h3', h4', h5⟩
  · rw [List.getElem?_append_right (by omega)] at hq
    have hi2 : i - l.length = 0 := by
      cases hk : i - l.length with
      | zero => rfl
      | succ k => rw [hk] at hq; simp at hq
    rw [hi2] at hq
    simp only [List.getElem?_cons_zero, Option.some.injEq] at hq
    subst hq
    have hi3 : i = l.length := by omega
    subst hi3
    refine ⟨ao, c, bo, d, ?_, ?_, h3, h4, hb⟩
    · rw [List.getElem?_append_right (by omega), hl, Nat.sub_self]; rfl
    · rw [List.getElem?_append_right (by omega), hl, Nat.add_sub_cancel_left]; rfl
theorem byt_of_ownD {w : World} {base n c : Nat} {a : Option Addr} {zs : List Int} (h : w.ownsRow base 5 1 (.slice a n c) n (zs.map (Value.int .u8))) : Byt w a n c zs := by
  obtain ⟨a', c', e, hb⟩ := owns_any h
  simp only [Value.slice.injEq] at e
  obtain ⟨rfl, _, rfl⟩ := e
  exact hb
def Pa.pre (l : List Pq) : Pa → Pa
  | .ok m => .ok (l ++ m)
  | .error (k, e) => .error (k, e)
theorem Pa.pre_nil (r : Pa) : r.pre [] = r := by cases r <;> rfl
theorem Pa.pre_cons (l : List Pq) (p : Pq) (r : Pa) : (r.cons p).pre l = r.pre (l ++ [p]) := by cases r <;> simp [Pa.pre, Pa.cons]
theorem cnt_le {t : List UInt8} {n : Nat} (h : cnt t = some n) : n ≤ 2147483647 := by
  unfold cnt at h
  split at h
  · exact (dec_nb h).2
  · cases h
theorem cell_two20 (w : World) (e : TypeId) (a b : Value) : ∀ j u, [a, b][j]? = some u → (w.alloc (.cells #[a, b] e)).drew.cell? ((⟨w.heap.size, 0, none⟩ : Addr).add j) = some u := fun j u h => cell_two_new w e a b j u h
end Go.Proofs.YtcjgmiilfjjbcaaGreatDoor
