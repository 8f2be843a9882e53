import Derived.Test.YtnfelndfpmnkmaaGreatDoorQ1
import Derived.Lib.Bytealg
import Derived.Lib.BytesEntry
namespace Go.Proofs.YtnfelndfpmnkmaaGreatDoor
open Go.RowKit
def cmpZ : List Int → List Int → Int
 | [], [] => 0
 | [], _ :: _ => -1
 | _ :: _, [] => 1
 | a :: al, b :: bl => if a < b then -1 else if b < a then 1 else cmpZ al bl
def com : List Int → List Int → Nat
 | a :: al, b :: bl => if a = b then com al bl + 1 else 0
 | _, _ => 0
theorem com_nil (b : List Int) : com [] b = 0 := by unfold com; rfl
theorem com_nil2 (a : List Int) : com a [] = 0 := by cases a <;> rfl
theorem com_cons (a b : Int) (al bl : List Int) : com (a :: al) (b :: bl) = if a = b then com al bl + 1 else 0 := by rw [com]
theorem cmp_cons (a b : Int) (al bl : List Int) : cmpZ (a :: al) (b :: bl) = if a < b then -1 else if b < a then 1 else cmpZ al bl := by rw [cmpZ]
theorem com_le1 : ∀ (a b : List Int), com a b ≤ a.length
 | [], b => by rw [com_nil]; exact Nat.zero_le _
 | a :: al, [] => by rw [com_nil2]; exact Nat.zero_le _
 | a :: al, b :: bl => by
  rw [com_cons]; split
  ·have := com_le1 al bl; simp; exact this
  ·exact Nat.zero_le _
theorem com_le2 : ∀ (a b : List Int), com a b ≤ b.length
 | [], b => by rw [com_nil]; exact Nat.zero_le _
 | a :: al, [] => by rw [com_nil2]; exact Nat.zero_le _
 | a :: al, b :: bl => by
  rw [com_cons]; split
  ·have := com_le2 al bl; simp; exact this
  ·exact Nat.zero_le _
theorem drop_cons {a : List Int} {i : Nat} (h : i < a.length) : a.drop i = a.getD i 0 :: a.drop (i + 1) := by
 rw [List.drop_eq_getElem_cons h]; simp [List.getD, List.getElem?_eq_getElem h]
theorem com_on {a b : List Int} {i : Nat} (ha : i < a.length) (hb : i < b.length) (h : a.getD i 0 = b.getD i 0) : com (a.drop i) (b.drop i) = com (a.drop (i + 1)) (b.drop (i + 1)) + 1 := by
 rw [drop_cons ha, drop_cons hb, com_cons, if_pos h]
theorem com_off {a b : List Int} {i : Nat} (ha : i < a.length) (hb : i < b.length) (h : a.getD i 0 ≠ b.getD i 0) : com (a.drop i) (b.drop i) = 0 := by
 rw [drop_cons ha, drop_cons hb, com_cons, if_neg h]
theorem com_end {a b : List Int} {i : Nat} (h : a.length ≤ i ∨ b.length ≤ i) : com (a.drop i) (b.drop i) = 0 := by
 rcases h with h | h
 ·rw [List.drop_of_length_le h, com_nil]
 ·rw [List.drop_of_length_le h, com_nil2]
theorem com_take : ∀ (n : Nat) (a b : List Int), com (a.take n) b = min n (com a b)
 | 0, a, b => by rw [List.take_zero, com_nil]; omega
 | n + 1, [], b => by rw [List.take_nil, com_nil]; omega
 | n + 1, a :: al, [] => by rw [com_nil2, com_nil2]; omega
 | n + 1, a :: al, b :: bl => by
  rw [List.take_succ_cons, com_cons, com_cons]
  split
  ·rw [com_take n al bl]; omega
  ·omega
def comAll (f : List Int) (n : Nat) (l : List (List Int)) : Nat := l.foldl (fun n s => min n (com f s)) n
theorem comAll_cons (f : List Int) (n : Nat) (s : List Int) (l : List (List Int)) : comAll f n (s :: l) = comAll f (min n (com f s)) l := rfl
theorem comAll_le (f : List Int) : ∀ (l : List (List Int)) (n : Nat), comAll f n l ≤ n
 | [], n => Nat.le_refl _
 | s :: l, n => by rw [comAll_cons]; have := comAll_le f l (min n (com f s)); omega
theorem cmp_bytes : ∀ {a b : List Int}, Bt a → Bt b → Lib.compareBytes (Lib.bytesOf a) (Lib.bytesOf b) = cmpZ a b
 | [], [], _, _ => rfl
 | [], _ :: _, _, _ => rfl
 | _ :: _, [], _, _ => rfl
 | a :: al, b :: bl, ha, hb => by
  have h1 := ha a (List.mem_cons_self ..)
  have h2 := hb b (List.mem_cons_self ..)
  have ih := cmp_bytes (a := al) (b := bl) (fun z hz => ha z (List.mem_cons_of_mem _ hz)) (fun z hz => hb z (List.mem_cons_of_mem _ hz))
  have e1 : (a.toNat.toUInt8 < b.toNat.toUInt8) ↔ a < b := by
   rw [UInt8.lt_iff_toNat_lt]; simp; omega
  have e2 : (b.toNat.toUInt8 < a.toNat.toUInt8) ↔ b < a := by
   rw [UInt8.lt_iff_toNat_lt]; simp; omega
  show (if a.toNat.toUInt8 < b.toNat.toUInt8 then (-1 : Int) else if b.toNat.toUInt8 < a.toNat.toUInt8 then 1 else Lib.compareBytes (Lib.bytesOf al) (Lib.bytesOf bl)) = _
  rw [cmp_cons, ih]
  simp only [e1, e2]
theorem load_byt {P : Program} {w : World} {ao : Option Addr} {n cap : Nat} {zs : List Int} (h : Byt w ao n cap zs) :
  (Extern.Bytes.bytesOf (.slice ao n cap)).run P w = .ok ⟨(Lib.bytesOf zs).toArray⟩ w := by
 cases ao with
 | none =>
  have : zs = [] := List.length_eq_zero_iff.1 (h.len.trans (h.nil rfl).1)
  subst this
  rfl
 | some ad =>
  have k := Lib.run_loadBytesX (P := P) w zs ad .empty (fun j x hj => h.cells ad rfl j (.int .u8 x) (by rw [List.getElem?_map, hj]; rfl))
  rw [h.len] at k
  have he : (⟨ByteArray.empty.data ++ (Lib.bytesOf zs).toArray⟩ : ByteArray) = ⟨(Lib.bytesOf zs).toArray⟩ := by
   apply ByteArray.ext
   show (#[] : Array UInt8) ++ (Lib.bytesOf zs).toArray = (Lib.bytesOf zs).toArray
   simp
  rw [he] at k
  exact k
theorem run_compareByt {P : Program} {w : World} {ao bo : Option Addr} {n m c d : Nat} {za zb : List Int} (ha : Byt w ao n c za) (hb : Byt w bo m d zb) (ba : Bt za) (bb : Bt zb) :
  (Extern.BytealgCompare.compare #[.slice ao n c, .slice bo m d]).run P w = .ok (.int .i64 (cmpZ za zb)) w := by
 change Sem.run P (do pure (goInt (Extern.BytealgCompare.cmp (← Extern.Bytes.bytesOf (.slice ao n c)) (← Extern.Bytes.bytesOf (.slice bo m d))))) w = _
 simp only [Sem.run_bind, Sem.run_pure, Result.andThen, load_byt ha, load_byt hb]
 rw [Lib.cmp_eq, show (⟨(Lib.bytesOf za).toArray⟩ : ByteArray).data.toList = Lib.bytesOf za from rfl, show (⟨(Lib.bytesOf zb).toArray⟩ : ByteArray).data.toList = Lib.bytesOf zb from rfl, cmp_bytes ba bb]
 rfl
end Go.Proofs.YtnfelndfpmnkmaaGreatDoor
