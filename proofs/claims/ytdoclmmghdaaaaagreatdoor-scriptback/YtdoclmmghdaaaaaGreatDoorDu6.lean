import Derived.Test.YtdoclmmghdaaaaaGreatDoorDu5
import Derived.Lib.ConvBytes
import Derived.KernelRfl
namespace Go.Proofs.YtdoclmmghdaaaaaGreatDoor
open Go.RowKit

/-- The table that strconv.Itoa reads is there. -/
def Tzd (w : World) : Prop := Lib.TabIs Tryz.prog w "internal/strconv.uint64pow10" .u64 Lib.pow10Tab
theorem tzd_named : Tryz.prog.globalNamed "internal/strconv.uint64pow10" = some 2 := by kernel_rfl
theorem Tzd.lt {w : World} (h : Tzd w) : 2 < w.heap.size := by
  unfold Tzd Lib.TabIs World.var? at h
  rw [tzd_named] at h
  simp only [Option.bind_some] at h
  rcases Nat.lt_or_ge 2 w.heap.size with h' | h'
  · exact h'
  · simp [Array.getElem?_eq_none h'] at h
theorem Tzd.keptN {w w' : World} (h : Tzd w) (hg : w.grownBy w' none) : Tzd w' := by
  have hb := hg.block 2 h.lt (by simp)
  unfold Tzd Lib.TabIs World.var? at h ⊢
  rw [tzd_named] at h ⊢
  simp only [Option.bind_some] at h ⊢
  rw [hb]
  exact h
theorem sort_grownD (w : World) (k : Nat) (os : Array Obj) : w.grownBy (Sort.grow (w.drewN k) os) none := by
  have hq := (Qt.drewN w k)
  refine ⟨hq.os, hq.tape, hq.output, ?_, fun i hi _ => ?_⟩
  · have := congrArg Array.size hq.heap; simp [Sort.grow]
  · show ((w.drewN k).heap ++ os)[i]? = _
    rw [hq.heap, Array.getElem?_append_left hi]
theorem grown_below {w w' : World} {B : Nat} (h : Below B w w') (hB : w.heap.size ≤ B) : w.grownBy w' none := ⟨h.os, h.tape, h.output, h.size, fun k hk _ => h.block k (by omega)⟩

/-! ### Pairs in memory -/
structure Pm (w : World) (a : Option Addr) (l : List Pq) : Prop where
  el : ∀ i p, l[i]? = some p → ∃ b off ao c bo d, a = some ⟨b, off, none⟩ ∧ w.cell? ⟨b, off + i * 2, none⟩ = some (.slice ao p.1.length c) ∧ w.cell? ⟨b, off + i * 2 + 1, none⟩ = some (.slice bo p.2.length d) ∧ Byt w ao p.1.length c p.1 ∧ Bt p.1 ∧ Byt w bo p.2.length d p.2 ∧ Bt p.2
theorem Pm.keptN {w w' : World} {a : Option Addr} {l : List Pq} (h : Pm w a l) (hg : w.grownBy w' none) : Pm w' a l :=
  ⟨fun i p hp => by
    obtain ⟨b, off, ao, c, bo, d, h1, h2, h3, h4, h5, h6, h7⟩ := h.el i p hp
    exact ⟨b, off, ao, c, bo, d, h1, hg.cell h2 (by simp), hg.cell h3 (by simp), h4.keptN hg, h5, h6.keptN hg, h7⟩⟩
theorem Pm.nil (w : World) (a : Option Addr) : Pm w a [] := ⟨fun i p h => by simp at h⟩
theorem Pm.bt {w : World} {a : Option Addr} {l : List Pq} (h : Pm w a l) : BtP l := fun p hp => by
  obtain ⟨i, hi, e⟩ := List.mem_iff_getElem.1 hp
  obtain ⟨b, off, ao, c, bo, d, h1, h2, h3, h4, h5, h6, h7⟩ := h.el i p (by rw [List.getElem?_eq_getElem hi, e])
  exact ⟨h5, h7⟩

theorem less_numsD : ∀ {a b : List Int}, Bt a → Bt b → Op.bytesLess (a.map fun n => UInt8.ofNat n.toNat) (b.map fun n => UInt8.ofNat n.toNat) = decide (cmpZ a b < 0)
  | [], [], _, _ => by simp [Op.bytesLess, cmpZ]
  | _ :: _, [], _, _ => by simp [Op.bytesLess, cmpZ]
  | [], _ :: _, _, _ => by simp [Op.bytesLess, cmpZ]
  | a :: xs, b :: ys, ha, hb => by
    have h1 := ha a (List.mem_cons_self ..)
    have h2 := hb b (List.mem_cons_self ..)
    have ih := less_numsD (a := xs) (b := ys) (fun z hz => ha z (List.mem_cons_of_mem _ hz)) (fun z hz => hb z (List.mem_cons_of_mem _ hz))
    have e1 : (UInt8.ofNat a.toNat < UInt8.ofNat b.toNat) ↔ a < b := by
      rw [UInt8.lt_iff_toNat_lt]; simp; omega
    have e2 : (UInt8.ofNat a.toNat = UInt8.ofNat b.toNat) ↔ a = b := by
      rw [← UInt8.toNat_inj]; simp; omega
    rw [List.map_cons, List.map_cons, Op.bytesLess, ih, cmp_cons]
    by_cases h3 : a < b
    · simp [e1, h3]
    · by_cases h4 : b < a
      · have h5 : ¬ a = b := by omega
        simp [e1, e2, h3, h4, h5]
      · have h5 : a = b := by omega
        subst h5
        simp

theorem jdg_drop {l : List Pq} {i : Nat} {p : Pq} (a : List Int) (h : l[i]? = some p) : jdg a (l.drop i) = if flt a p = 0 then jdg p.1 (l.drop (i + 1)) else flt a p := by
  obtain ⟨hi, e⟩ := List.getElem?_eq_some_iff.1 h
  rw [List.drop_eq_getElem_cons hi, e]; rfl
/-- The key ahead of a pair. -/
def ahd (l : List Pq) : Nat → List Int
  | 0 => []
  | i + 1 => ((l[i]?).getD ([], [])).1
theorem cmp_gt_nil {k : List Int} (h : 1 ≤ k.length) : ¬ cmpZ k [] ≤ 0 := by
  cases k with
  | nil => simp at h
  | cons x t => simp [cmpZ]
end Go.Proofs.YtdoclmmghdaaaaaGreatDoor
