import Derived.Test.YtlfhonlifgpnhaaItemsIn
import Derived.Laws.BitsAllLaws
namespace Go.Proofs.Ytlfhonlifgpnhaa
open Go.RowKit

theorem Rw.set {w : World} {g : Nat} {zs : List Int} (h : Rw w g zs) (j : Nat) (z : Int) : Rw (w.setCell ⟨g, j, none⟩ (.int .u8 z)) g (zs.set j z) := by
  unfold Rw
  rw [heap_setCell_same w g j _ _ (.int .u8 z) h]
  simp [List.map_set]
theorem Bt.set4 {zs : List Int} (h : Bt zs) (j : Nat) (z : Int) (hz : 0 ≤ z ∧ z ≤ 255) : Bt (zs.set j z) := by
  intro y hy
  rcases List.mem_or_eq_of_mem_set hy with h1 | h1
  · exact h y h1
  · subst h1; exact hz
theorem xor_byte {z x : Int} (hz : 0 ≤ z ∧ z ≤ 255) (hx : 0 ≤ x ∧ x ≤ 255) : (0 ≤ bits .xor .u8 z x ∧ bits .xor .u8 z x ≤ 255) ∧ (bits .xor .u8 z x = z → x = 0) := by
  have e := u8_xor z x hz.1 (by omega) hx.1 (by omega)
  have hlt := Nat.xor_lt_two_pow (x := z.toNat) (y := x.toNat) (n := 8) (by omega) (by omega)
  rw [e]
  refine ⟨by omega, fun h => ?_⟩
  have h1 : z.toNat ^^^ x.toNat = z.toNat := by omega
  have h2 : z.toNat ^^^ (z.toNat ^^^ x.toNat) = z.toNat ^^^ z.toNat := by rw [h1]
  rw [← Nat.xor_assoc, Nat.xor_self, Nat.zero_xor] at h2
  omega
theorem place4 (x : Int) : ∃ (k : Nat) (y : Int), k < 4092 ∧ Int.tmod x 4092 = y ∧ -4092 < y ∧ y < 4092 ∧ Int.tmod (y + 4092) 4092 = (k : Int) := by
  have h1 := Int.tmod_lt_of_pos x (show (0 : Int) < 4092 by omega)
  have h2 := Int.lt_tmod_of_pos x (show (0 : Int) < 4092 by omega)
  refine ⟨((Int.tmod x 4092 + 4092) % 4092).toNat, _, by omega, rfl, h2, h1, ?_⟩
  rw [Int.tmod_eq_emod_of_nonneg (by omega)]
  omega

end Go.Proofs.Ytlfhonlifgpnhaa
