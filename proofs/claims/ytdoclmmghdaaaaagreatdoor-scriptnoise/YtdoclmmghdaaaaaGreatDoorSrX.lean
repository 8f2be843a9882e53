import Derived.Test.YtdoclmmghdaaaaaGreatDoorSrT
import Derived.Test.YtdoclmmghdaaaaaGreatDoorSrU
namespace Go.Proofs.YtdoclmmghdaaaaaGreatDoor
open Go.RowKit

theorem byteCells_dzX (t : List UInt8) : Lib.byteCells t = (dz t).map (Value.int .u8) := by unfold Lib.byteCells dz; rw [List.map_map]; rfl
/-- A row of bytes as a text. -/
theorem conv_ownX {w : World} {B n c : Nat} {a : Option Addr} {t : List UInt8} (h : w.ownsRow B 5 1 (.slice a n c) n (Lib.byteCells t)) : (convert 42 9 (.slice a n c)).run Tryz.prog w = .ok (.string (tstr t)) w := by
  rw [byteCells_dzX] at h
  have := conv_str (byt_of_ownD h)
  rw [dz_str] at this
  exact this
theorem info_intX : (Tryz.prog.info? 3).map (fun i => (i.zero, i.size, i.bytes)) = some (some (.int .i64 0), 1, 8) := by kernel_rfl
theorem flt_cntX : ∀ ls : List (List UInt8), ls.length ≤ (flt23 ls).length
  | [] => Nat.zero_le _
  | l :: ls => by have := flt_cntX ls; rw [flt_cons]; simp; omega
/-- The two lists that the law lays: the text, and where the lines stand. -/
structure Nrw (w0 w : World) (sb sa : Value) (T : List UInt8) (A : List Int) : Prop where
  g : w0.grownBy w none
  b : w.ownsRow w0.heap.size 5 1 sb T.length (Lib.byteCells T)
  a : w.ownsRow w0.heap.size 3 1 sa A.length (A.map (Value.int .i64))
theorem Nrw.alloc {w0 w : World} {sb sa : Value} {T : List UInt8} {A : List Int} (h : Nrw w0 w sb sa T A) (o : Obj) : Nrw w0 (w.alloc o) sb sa T A := ⟨grown_trans h.g (World.grownBy_alloc w o none), h.b.alloc o, h.a.alloc o⟩
theorem Nrw.addB {w0 w w' : World} {sb sb' sa : Value} {T x : List UInt8} {A : List Int} {n : Nat} (h : Nrw w0 w sb sa T A) (hn : n = x.length) (ho : w'.ownsRow w0.heap.size 5 1 sb' (T.length + n) (Lib.byteCells (T ++ x))) (hg : w.grownBy w' sb.ownBlock) : Nrw w0 w' sb' sa (T ++ x) A := by
  subst hn
  exact ⟨grown_ofBelow h.g (below_ownS hg h.b h.g.size), by rw [List.length_append]; exact ho, h.a.kept hg (own_neD h.a h.b (by decide))⟩
theorem Nrw.addA {w0 w w' : World} {sb sa sa' : Value} {T : List UInt8} {A : List Int} {z : Int} (h : Nrw w0 w sb sa T A) (ho : w'.ownsRow w0.heap.size 3 1 sa' (A.length + 1) (A.map (Value.int .i64) ++ [.int .i64 z])) (hg : w.grownBy w' sa.ownBlock) : Nrw w0 w' sb sa' T (A ++ [z]) :=
  ⟨grown_ofBelow h.g (below_ownS hg h.a h.g.size), h.b.kept hg (own_neD h.b h.a (by decide)), by rw [List.length_append, List.map_append]; exact ho⟩
theorem Nrw.start (w : World) : Nrw w w (.slice none 0 0) (.slice none 0 0) [] [] := ⟨World.grownBy.refl _ _, ⟨rfl, .inl ⟨rfl, rfl⟩⟩, ⟨rfl, .inl ⟨rfl, rfl⟩⟩⟩
def atl (l : List (Int × Int)) (i : Nat) : List Int := (List.range i).map fun j => ((atz l j : Nat) : Int)
theorem atl_succ (l : List (Int × Int)) (i : Nat) : atl l (i + 1) = atl l i ++ [((atz l i : Nat) : Int)] := by unfold atl; rw [List.range_succ, List.map_append]; rfl
theorem atl_len (l : List (Int × Int)) (i : Nat) : (atl l i).length = i := by unfold atl; simp
theorem atl_at (l : List (Int × Int)) {i j : Nat} (h : j < i) : (atl l i)[j]? = some ((atz l j : Nat) : Int) := by unfold atl; rw [List.getElem?_map, List.getElem?_range h]; rfl
theorem ntx_le {l : List (Int × Int)} {L : List (List UInt8)} {i : Nat} (hf : (flt23 L).length ≤ 60001) (hl : l.length ≤ 60) (hi : i ≤ L.length) : (ntx l L i).length ≤ 430000 := by
  have h1 := ntx_len l L i hi
  have h2 := flt_take L i
  have h3 := flt_cntX L
  have h4 := cP_le l i
  omega
theorem ntp_le (i : Nat) (l : List (Int × Int)) : (ntp (nln i l)).length ≤ 31 * l.length := by
  have h1 := (nlp i l).sz
  have h2 := cE_le l i
  unfold ntp
  rw [List.length_append]
  omega
/-- The noise of line i, one more looked at. -/
theorem nln_take {l : List (Int × Int)} {i k : Nat} {p : Int × Int} (h : l[k]? = some p) : nln i (l.take (k + 1)) = nst i (nln i (l.take k)) p ∧ cE (l.take (k + 1)) i = cE (l.take k) i + if p.1 = (i : Int) then 1 else 0 := by
  have e : l.take (k + 1) = l.take k ++ [p] := by rw [List.take_add_one, h]; rfl
  rw [e]
  exact ⟨nln_snoc _ _ _, cE_snoc _ _ _⟩
theorem at_cell {w : World} {B n c : Nat} {a : Option Addr} {A : List Int} (h : w.ownsRow B 3 1 (.slice a n c) n (A.map (Value.int .i64))) {j : Nat} {z : Int} (hj : A[j]? = some z) : ∃ g, a = some ⟨g, 0, none⟩ ∧ w.cell? ⟨g, j, none⟩ = some (.int .i64 z) := by
  have hl := h.1
  have hjl := (List.getElem?_eq_some_iff.1 hj).1
  rcases h.2 with ⟨e1, e2⟩ | ⟨g, cap, cur, e1, _, e3, _, _, _, e7⟩
  · exfalso; simp at hl; omega
  · simp only [Value.slice.injEq] at e1
    refine ⟨g, e1.1, ?_⟩
    have hc : (cur.toList.take (n * 1))[j]? = some (.int .i64 z) := by rw [e7, List.getElem?_map, hj]; rfl
    rw [List.getElem?_take] at hc
    split at hc
    · exact cell_heapS e3 (by simpa using hc)
    · cases hc
end Go.Proofs.YtdoclmmghdaaaaaGreatDoor
