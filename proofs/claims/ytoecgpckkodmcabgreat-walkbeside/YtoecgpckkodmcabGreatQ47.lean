import Derived.Test.YtoecgpckkodmcabGreatQ31
namespace Go.Proofs.YtoecgpckkodmcabGreat
open Go.RowKit
theorem take_mpT {w : World} {m n0 : Nat} {v : Value} {xs : List PgT} {L : List PrT} (ho : w.ownsRow m 30 2 v xs.length (pcs xs)) (hx : ∀ x ∈ xs, PxP n0 m x w) (hm : xs.map (fun x => x.2.2) = L) : ∃ a c, v = .slice a L.length c ∧ MpW w a L.length c L := by
 subst hm
 have hps : PsW w (xs.map fun x => [x.1, x.2.1]) (xs.map fun x => x.2.2) := by
  refine ⟨by simp, fun i e p h1 h2 => ?_⟩
  rw [List.getElem?_map] at h1 h2
  obtain ⟨x, hx1, rfl⟩ := Option.map_eq_some_iff.1 h1
  rw [hx1] at h2
  cases h2
  obtain ⟨lo, hi, _, _, h3⟩ := hx x (List.mem_of_getElem? hx1)
  exact pv_bp h3
 have e : pcs xs = (xs.map fun x => [x.1, x.2.1]).flatten := by simp [pcs, List.flatMap]
 rw [e] at ho
 rw [List.length_map]
 exact MpW.of ho hps (by simp)
theorem MpW.takeT {w : World} {a : Option Addr} {n c : Nat} {L : List PrT} (h : MpW w a n c L) {k : Nat} (hk : k ≤ n) : MpW w a k c (L.take k) := by
 obtain ⟨h3, es, he, hp⟩ := h
 exact ⟨by rw [List.length_take]; omega, es.take k, he.take hk, hp.take k⟩
end Go.Proofs.YtoecgpckkodmcabGreat
