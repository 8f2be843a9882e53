import Derived.Test.YtlhjociijkhimaaGreatDoorBrG
namespace Go.Proofs.YtlhjociijkhimaaGreatDoor
open Go.RowKit

theorem own_ne {w : World} {base sz : Nat} {e t : TypeId} {v : Value} {n : Nat} {xs : List Value} (ho : w.ownsRow base e sz v n xs) {b : Nat} {cur : Array Value} (h1 : w.heap[b]? = some (.cells cur t (0, 0))) (ht : t ≠ e) : some b ≠ v.ownBlock := by
  intro e1
  rcases ho.2 with ⟨rfl, _⟩ | ⟨g, cap, cur', rfl, _, hg, _⟩
  · cases e1
  · obtain rfl : b = g := Option.some.inj e1
    rw [h1] at hg
    simp only [Option.some.injEq, Obj.cells.injEq] at hg
    exact ht hg.2.1
theorem own_two {w : World} {base base2 sz sz2 : Nat} {e e2 : TypeId} {v v2 : Value} {n n2 : Nat} {xs ys : List Value} (ho : w.ownsRow base e sz v n xs) (hp : w.ownsRow base2 e2 sz2 v2 n2 ys) (hne : e ≠ e2) (h0 : 0 < n2) : v.ownBlock ≠ v2.ownBlock := by
  intro e1
  rcases hp.2 with ⟨rfl, rfl⟩ | ⟨g, cap, cur', rfl, _, hg, _⟩
  · omega
  · exact own_ne ho hg (fun e => hne e.symm) e1.symm
end Go.Proofs.YtlhjociijkhimaaGreatDoor
