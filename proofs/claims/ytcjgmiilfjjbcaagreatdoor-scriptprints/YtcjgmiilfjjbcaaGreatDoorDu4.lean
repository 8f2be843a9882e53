import Derived.Test.YtcjgmiilfjjbcaaGreatDoorDu3
namespace Go.Proofs.YtcjgmiilfjjbcaaGreatDoor
open Go.RowKit

theorem ret20 {k : IntKind} {a b : Int} (h : a = b) : Ending.returned (.int k a) = .returned (.int k b) := by rw [h]
theorem vdg_neg (c : UInt8) (h : ∀ j, j < 16 → dgt j ≠ c) : vdg c = -1 := by
  by_cases hv : 0 ≤ vdg c
  · have h1 := dgt_vdg c hv
    have h2 := vdg_lt c
    exact absurd h1 (h _ (by omega))
  · have := vdg_ge c
    omega
theorem drop_two {T : List UInt8} {i : Nat} (h : i + 1 < T.length) : T.drop i = T.getD i 0 :: T.getD (i + 1) 0 :: T.drop (i + 2) := by
  rw [List.drop_eq_getElem_cons (by omega), List.drop_eq_getElem_cons (i := i + 1) h]
  simp [List.getD, List.getElem?_eq_getElem h, List.getElem?_eq_getElem (show i < T.length by omega)]
theorem cell_one20 (w : World) (e : TypeId) (a : Value) : ∀ j u, [a][j]? = some u → (w.alloc (.cells #[a] e)).cell? ((⟨w.heap.size, 0, none⟩ : Addr).add j) = some u := by
  intro j u hj
  match j, hj with
  | 0, hj => simp at hj; subst hj; simp [Addr.add]
end Go.Proofs.YtcjgmiilfjjbcaaGreatDoor
