import Derived.Test.YtdoclmmghdaaaaaGreatDoorDu6
import Derived.Laws.Concat
namespace Go.Proofs.YtdoclmmghdaaaaaGreatDoor
open Go.RowKit

theorem tstr_app (a b : List UInt8) : tstr a ++ tstr b = tstr (a ++ b) := by
  unfold tstr
  rw [ByteArray.mk_append_mk]
theorem tstr_size (a : List UInt8) : (tstr a).size = a.length := by unfold tstr; rfl
theorem tstr_data (a : List UInt8) : (tstr a).data.toList = a := rfl
theorem tstr_mk (s : ByteArray) : tstr s.data.toList = s := Lib.mk_data s
theorem digs_cut (q : Nat) (h : q < 16) : (⟨#[48, 49, 50, 51, 52, 53, 54, 55, 56, 57, 97, 98, 99, 100, 101, 102]⟩ : ByteArray).extract q (q + 1) = tstr [dgt q] := by
  have : ∀ q : Fin 16, ((⟨#[48, 49, 50, 51, 52, 53, 54, 55, 56, 57, 97, 98, 99, 100, 101, 102]⟩ : ByteArray).extract q.1 (q.1 + 1)).data = (tstr [dgt q.1]).data := by decide +kernel
  exact ByteArray.ext (this ⟨q, h⟩)
theorem dgt_dec {q : Nat} (h : q < 10) : dgt q = UInt8.ofNat (48 + q) := by unfold dgt; rw [if_pos h]
theorem dec_len : ∀ (k n : Nat), n < 10 ^ (k + 1) → (Lib.decDigits n).length ≤ k + 1
  | 0, n, h => by rw [dec_small (by simpa using h)]; simp
  | k + 1, n, h => by
    by_cases h10 : n < 10
    · rw [dec_small h10]; simp
    · rw [dec_big h10, List.length_append]
      have := dec_len k (n / 10) (by rw [Nat.pow_succ] at h; omega)
      simp; omega
end Go.Proofs.YtdoclmmghdaaaaaGreatDoor
