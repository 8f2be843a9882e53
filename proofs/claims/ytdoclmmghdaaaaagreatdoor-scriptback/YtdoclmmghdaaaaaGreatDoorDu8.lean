import Derived.Test.YtdoclmmghdaaaaaGreatDoorDu7
import Derived.Deep.RegionHeld3
import Derived.Deep.DrawnRows
namespace Go.Proofs.YtdoclmmghdaaaaaGreatDoor
open Go.RowKit

theorem jdg_small : ∀ {l : List Pq} {a : List Int}, jdg a l = 0 → ∀ p ∈ l, p.1.length ≤ 255 ∧ p.2.length ≤ 262144
  | [], _, _, p, hp => by cases hp
  | q :: l, a, h, p, hp => by
    simp only [jdg] at h
    split at h
    · rename_i hf
      rcases List.mem_cons.1 hp with rfl | hp
      · unfold flt at hf
        split at hf
        · cases hf
        · rename_i hh; omega
      · exact jdg_small h p hp
    · rename_i hf; exact absurd h hf
theorem lne_len {p : Pq} (h : p.1.length ≤ 255 ∧ p.2.length ≤ 262144) : (lne p).length ≤ 525000 := by
  have h1 := (hx_len p.1).1
  have h2 := (hx_len p.2).1
  unfold lne lnh
  simp
  omega
def hdr (n : Nat) : List UInt8 := (ttl ++ Lib.decDigits n) ++ [10]
def txi (l : List Pq) (i : Nat) : List UInt8 := hdr l.length ++ (l.take i).flatMap lne
theorem txi_all (l : List Pq) : txi l l.length = tx l := by unfold txi tx hdr; rw [List.take_length]; simp
theorem txi_snoc {l : List Pq} {i : Nat} {p : Pq} (h : l[i]? = some p) : txi l (i + 1) = txi l i ++ lne p := by
  obtain ⟨hi, e⟩ := List.getElem?_eq_some_iff.1 h
  unfold txi
  rw [List.take_succ_eq_append_getElem hi, e, List.flatMap_append]
  simp
theorem hdr_len {n : Nat} (h : n ≤ 100000000) : (hdr n).length ≤ 30 := by
  have := dec_len 9 n (by omega)
  unfold hdr ttl
  simp
  omega
theorem txi_len {l : List Pq} (hl : l.length ≤ 100000000) (h : ∀ p ∈ l, p.1.length ≤ 255 ∧ p.2.length ≤ 262144) : ∀ i, i ≤ l.length → (txi l i).length ≤ 30 + i * 525000
  | 0, _ => by unfold txi; simp; exact hdr_len hl
  | i + 1, hi => by
    have hp : l[i]? = some (l[i]'(by omega)) := List.getElem?_eq_getElem (by omega)
    rw [txi_snoc hp, List.length_append]
    have h1 := txi_len hl h i (by omega)
    have h2 := lne_len (h _ (List.getElem_mem (by omega : i < l.length)))
    omega
theorem str_cells (t : List UInt8) : Lib.strCells (tstr t) = Lib.byteCells t := rfl

/-- What Text answers. -/
def txt (l : List Pq) : List UInt8 := if jdg [] l = 0 then tx l else []
end Go.Proofs.YtdoclmmghdaaaaaGreatDoor
