import Derived.Test.YtdoclmmghdaaaaaGreatDoorDuB
namespace Go.Proofs.YtdoclmmghdaaaaaGreatDoor
open Go.RowKit

def szd (t : List UInt8) (lo hi : Nat) : Rs (List Int) := match uh t with
  | none => .error 201
  | some b => if b.length < lo ∨ hi < b.length then .error 41 else .ok b
def SzP (w : World) (r : Rs (List Int)) (en : Ending) (w' : World) : Prop := w.grownBy w' none ∧ ((∃ e : Int, r = .error e ∧ e ≠ 0 ∧ en = .returned (.tuple #[.slice none 0 0, .int .i64 e])) ∨
  ∃ b ao c, r = .ok b ∧ en = .returned (.tuple #[.slice ao b.length c, .int .i64 0]) ∧ Bt b ∧ w'.ownsRow w.heap.size 5 1 (.slice ao b.length c) b.length (b.map (Value.int .u8)))
theorem pp_eq (a : List Int) (line : List UInt8) : pp a line = if cua 32 line = [] ∨ cub 32 line = [] ∨ 32 ∈ cub 32 line then .error 200 else
    match szd (cua 32 line) 1 255 with
    | .error e => .error e
    | .ok k => match szd (cub 32 line) 0 262144 with
      | .error e => .error e
      | .ok v => if cmpZ k a ≤ 0 then .error 30 else .ok (k, v) := by
  unfold pp cua cub
  cases h : cutC 32 line with
  | none => simp
  | some q =>
    obtain ⟨l, r⟩ := q
    simp only
    by_cases hc : l = [] ∨ r = [] ∨ 32 ∈ r
    · rw [if_pos hc, if_pos hc]
    · rw [if_neg hc, if_neg hc]
      unfold szd
      cases uh l with
      | none => rfl
      | some k =>
        simp only
        by_cases h1 : k.length < 1 ∨ 255 < k.length
        · rw [if_pos h1, if_pos h1]
        · rw [if_neg h1, if_neg h1]
          cases uh r with
          | none => rfl
          | some v =>
            simp only
            by_cases h2 : 262144 < v.length
            · rw [if_pos h2, if_pos (.inr h2)]
            · have h3 : ¬ (v.length < 0 ∨ 262144 < v.length) := by omega
              rw [if_neg h2, if_neg h3]
theorem grown_cellD (w : World) (g i : Nat) (v : Value) : w.grownBy (w.setCell ⟨g, i, none⟩ v) (some g) :=
  ⟨rfl, rfl, rfl, by simp [World.setCell], fun k _ hk => Below.heap_setCell _ _ _ _ (fun e => hk (by rw [e]))⟩
theorem grown_transD {a b c : World} {r : Option Nat} (h : a.grownBy b r) (k : b.grownBy c r) : a.grownBy c r :=
  ⟨k.os.trans h.os, k.tape.trans h.tape, k.output.trans h.output, Nat.le_trans h.size k.size, fun j hj hn => (k.block j (Nat.lt_of_lt_of_le hj h.size) hn).trans (h.block j hj hn)⟩
theorem grown_boxD {w w1 w2 : World} {g : Nat} (h : w.grownBy w1 none) (k : w1.grownBy w2 (some g)) (hg : w.heap.size ≤ g) : w.grownBy w2 none :=
  ⟨k.os.trans h.os, k.tape.trans h.tape, k.output.trans h.output, Nat.le_trans h.size k.size, fun j hj hn => (k.block j (Nat.lt_of_lt_of_le hj h.size) (fun e => by have := Option.some.inj e; omega)).trans (h.block j hj hn)⟩
theorem own_boxD {w1 w2 : World} {g base e sz n : Nat} {v : Value} {xs : List Value} (h : w1.ownsRow base e sz v n xs) (k : w1.grownBy w2 (some g)) (hg : g < base) : w2.ownsRow base e sz v n xs := by
  refine h.kept k ?_
  cases hv : v.ownBlock with
  | none => exact .inl rfl
  | some b => exact .inr (fun e => by have := (h.lt b hv).1; have := Option.some.inj e; omega)
theorem own_keptD {w w' : World} {base e sz n : Nat} {v : Value} {xs : List Value} (h : w.ownsRow base e sz v n xs) (k : w.grownBy w' none) : w'.ownsRow base e sz v n xs := by
  refine h.kept k ?_
  cases v.ownBlock with
  | none => exact .inl rfl
  | some b => exact .inr (by simp)
theorem own_low {w : World} {base base' e sz n : Nat} {v : Value} {xs : List Value} (h : w.ownsRow base e sz v n xs) (hb : base' ≤ base) : w.ownsRow base' e sz v n xs := by
  refine ⟨h.1, ?_⟩
  rcases h.2 with h | ⟨g, cap, cur, h1, h2, h3⟩
  · exact .inl h
  · exact .inr ⟨g, cap, cur, h1, Nat.le_trans hb h2, h3⟩
theorem own_heapD {w W : World} {base e sz n : Nat} {v : Value} {xs : List Value} (h : w.ownsRow base e sz v n xs) (hW : W.heap = w.heap) : W.ownsRow base e sz v n xs := own_same20 h hW
/-- What parsePair answers. -/
def PpP (w : World) (r : Rs Pq) (en : Ending) (w' : World) : Prop := w.grownBy w' none ∧ ((∃ e : Int, r = .error e ∧ e ≠ 0 ∧ en = .returned (.tuple #[.agg #[.slice none 0 0, .slice none 0 0], .int .i64 e])) ∨
  ∃ k v ao c bo d, r = .ok (k, v) ∧ en = .returned (.tuple #[.agg #[.slice ao k.length c, .slice bo v.length d], .int .i64 0]) ∧ Bt k ∧ Bt v ∧ w'.ownsRow w.heap.size 5 1 (.slice ao k.length c) k.length (k.map (Value.int .u8)) ∧ w'.ownsRow w.heap.size 5 1 (.slice bo v.length d) v.length (v.map (Value.int .u8)))
theorem cua_len (x : UInt8) (t : List UInt8) : (cua x t).length ≤ t.length ∧ (cub x t).length ≤ t.length := by
  unfold cua cub
  cases h : cutC x t with
  | none => simp
  | some p =>
    have := (cutC_some (a := p.1) (b := p.2) h).1
    rw [this]; simp; omega
theorem str_nil (t : List UInt8) : ((tstr t).toList == []) = decide (t = []) := by
  have : (tstr t).toList = t := by rw [ByteArray.toList_eq]; rfl
  rw [this]
  cases t <;> rfl
end Go.Proofs.YtdoclmmghdaaaaaGreatDoor
