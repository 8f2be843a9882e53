import Derived.Test.YtdoclmmghdaaaaaGreatDoorSf1
import Derived.Test.YtdoclmmghdaaaaaGreatDoorGrpU
namespace Go.Proofs.YtdoclmmghdaaaaaGreatDoor
open Go.RowKit

/-- The last kind below k whose word it is. -/
def kfw (T : List UInt8) : Nat → Nat
  | 0 => 0
  | k + 1 => if 1 ≤ k ∧ wrd (k : Nat) = T then k else kfw T k
theorem kfw_none {T : List UInt8} : ∀ n : Nat, (∀ k, 1 ≤ k → k < n → wrd (k : Nat) ≠ T) → kfw T n = 0
  | 0, _ => rfl
  | k + 1, h => by
    rw [kfw, if_neg (fun ⟨h1, h2⟩ => h k h1 (by omega) h2)]
    exact kfw_none k fun j h1 h2 => h j h1 (by omega)
theorem kfw_kdw (T : List UInt8) : kfw T 23 = kdw T := by
  by_cases h : ∃ i : Fin 23, i.val ≠ 0 ∧ (stT.getD i.val ([], [])).1 = T
  · obtain ⟨i, h0, rfl⟩ := h
    have : ∀ i : Fin 23, i.val ≠ 0 → kfw (stT.getD i.val ([], [])).1 23 = kdw (stT.getD i.val ([], [])).1 := by decide
    exact this i h0
  · have hk : kdw T = 0 := by
      rcases kix_lt T stT 0 with q | ⟨_, q2, q3⟩
      · exact q
      · by_cases h0 : kdw T = 0
        · exact h0
        · exact absurd ⟨⟨kdw T, by rw [stT_len] at q2; unfold kdw; omega⟩, h0, by simpa [kdw] using q3⟩ h
    rw [hk]
    refine kfw_none 23 fun k h1 h2 e => h ⟨⟨k, h2⟩, by simp only; omega, ?_⟩
    unfold wrd at e
    rw [if_pos (by omega), Int.toNat_natCast] at e
    exact e
theorem info_fateT : (Tryz.prog.info? 51).map (fun i => (i.zero, i.size, i.bytes)) = some (some (.agg #[.int .i64 0, .int .i64 0]), 2, 16) := by kernel_rfl
theorem str_eqb (a b : List UInt8) : ((tstr a).toList == (tstr b).toList) = decide (a = b) := by
  rw [tstr_toList, tstr_toList, Bool.eq_iff_iff, beq_iff_eq, decide_eq_true_iff]
theorem cell_ltS {w : World} {b i : Nat} {v : Value} (h : w.cell? ⟨b, i, none⟩ = some v) : b < w.heap.size := by
  by_cases hb : b < w.heap.size
  · exact hb
  · exfalso
    unfold World.cell? at h
    simp [Array.getElem?_eq_none (Nat.not_lt.1 hb)] at h
theorem opI_at {w : World} {B O : Nat} {o : Opq} {kv vv hv fv : Value} (hb : w.heap[O]? = some (.cells #[.int .i64 o.k, .int .i64 o.a, .int .i64 o.b, .int .i64 o.c, kv, vv, hv, fv] 49 (0, 0))) (h : OpV w B o kv vv hv fv) : OpI w B O o kv vv hv fv := ⟨hb, h.key, h.val, h.hi, h.f, h.bk, h.bv, h.bh⟩
/-- What the document's step answers. -/
def SpP (w : World) (r : Except Int Opq) (en : Ending) (w' : World) : Prop := w.grownBy w' none ∧ ((∃ o ka kc va vc ha hc fa fc, r = .ok o ∧ en = .returned (.tuple #[.agg #[.int .i64 o.k, .int .i64 o.a, .int .i64 o.b, .int .i64 o.c, .slice ka o.key.length kc, .slice va o.val.length vc, .slice ha o.hi.length hc, .slice fa o.f.length fc], .int .i64 0]) ∧ OpV w' w.heap.size o (.slice ka o.key.length kc) (.slice va o.val.length vc) (.slice ha o.hi.length hc) (.slice fa o.f.length fc)) ∨ ∃ o : Opq, ∃ ka kc va vc ha hc fa fc e, r = .error e ∧ e ≠ 0 ∧ en = .returned (.tuple #[.agg #[.int .i64 o.k, .int .i64 o.a, .int .i64 o.b, .int .i64 o.c, .slice ka o.key.length kc, .slice va o.val.length vc, .slice ha o.hi.length hc, .slice fa o.f.length fc], .int .i64 e]))
theorem FlP.split {w w' : World} {B : Nat} {o : Opq} {ka : Option Addr} {kc : Nat} {va : Option Addr} {vc : Nat} {ha : Option Addr} {hc : Nat} {fa : Option Addr} {fc : Nat} {r : Except Int Opq} {en : Ending} (h : FlP w B o (.slice ka o.key.length kc) (.slice va o.val.length vc) (.slice ha o.hi.length hc) (.slice fa o.f.length fc) r en w') :
    ∃ (o7 : Opq), ∃ ka7 kc7 va7 vc7 ha7 hc7 fa7 fc7 er, en = .returned (.tuple #[.agg #[.int .i64 o7.k, .int .i64 o7.a, .int .i64 o7.b, .int .i64 o7.c, .slice ka7 o7.key.length kc7, .slice va7 o7.val.length vc7, .slice ha7 o7.hi.length hc7, .slice fa7 o7.f.length fc7], .int .i64 er]) ∧ w.grownBy w' none ∧ ((er = 0 ∧ r = .ok o7 ∧ OpV w' B o7 (.slice ka7 o7.key.length kc7) (.slice va7 o7.val.length vc7) (.slice ha7 o7.hi.length hc7) (.slice fa7 o7.f.length fc7)) ∨ (er ≠ 0 ∧ r = .error er)) := by
  obtain ⟨hg, h⟩ := h
  rcases h with ⟨o7, kv, vv, hv, fv, r1, rfl, hV⟩ | ⟨e, r1, r2, rfl⟩
  · obtain ⟨ka7, kc7, rfl⟩ := own_shape20 hV.key
    obtain ⟨va7, vc7, rfl⟩ := own_shape20 hV.val
    obtain ⟨ha7, hc7, rfl⟩ := own_shape20 hV.hi
    obtain ⟨fa7, fc7, rfl⟩ := own_shape20 hV.f
    exact ⟨o7, _, _, _, _, _, _, _, _, 0, rfl, hg, .inl ⟨rfl, r1, hV⟩⟩
  · exact ⟨o, _, _, _, _, _, _, _, _, e, rfl, hg, .inr ⟨r2, r1⟩⟩
end Go.Proofs.YtdoclmmghdaaaaaGreatDoor
