import Derived.Test.YthodgddoolbenaaGreatDoorQ1
import Derived.Lib.Bytealg
import Derived.Lib.BytesEntry
namespace Go.Proofs.YthodgddoolbenaaGreatDoor
open Go.RowKit
def cmpZ : List Int → List Int → Int
 | [], [] => 0
 | [], _ :: _ => -1
 | _ :: _, [] => 1
 | a :: al, b :: bl => if a < b then -1 else if b < a then 1 else cmpZ al bl
theorem cmp_cons (a b : Int) (al bl : List Int) : cmpZ (a :: al) (b :: bl) = if a < b then -1 else if b < a then 1 else cmpZ al bl := by rw [cmpZ]
theorem cmp_anti : ∀ (a b : List Int), cmpZ b a = -cmpZ a b
 | [], [] => rfl
 | [], _ :: _ => rfl
 | _ :: _, [] => rfl
 | a :: al, b :: bl => by
  rw [cmp_cons, cmp_cons]
  by_cases h1 : a < b
  ·rw [if_pos h1, if_neg (by omega), if_pos h1]; rfl
  ·by_cases h2 : b < a
   ·rw [if_pos h2, if_neg h1, if_pos h2]
   ·rw [if_neg h2, if_neg h1, if_neg h1, if_neg h2]; exact cmp_anti al bl
theorem cmp_bytes : ∀ {a b : List Int}, Bt a → Bt b → Lib.compareBytes (Lib.bytesOf a) (Lib.bytesOf b) = cmpZ a b
 | [], [], _, _ => rfl
 | [], _ :: _, _, _ => rfl
 | _ :: _, [], _, _ => rfl
 | a :: al, b :: bl, ha, hb => by
  have h1 := ha a (List.mem_cons_self ..)
  have h2 := hb b (List.mem_cons_self ..)
  have ih := cmp_bytes (a := al) (b := bl) (fun z hz => ha z (List.mem_cons_of_mem _ hz)) (fun z hz => hb z (List.mem_cons_of_mem _ hz))
  have e1 : (a.toNat.toUInt8 < b.toNat.toUInt8) ↔ a < b := by
   rw [UInt8.lt_iff_toNat_lt]; simp; omega
  have e2 : (b.toNat.toUInt8 < a.toNat.toUInt8) ↔ b < a := by
   rw [UInt8.lt_iff_toNat_lt]; simp; omega
  show (if a.toNat.toUInt8 < b.toNat.toUInt8 then (-1 : Int) else if b.toNat.toUInt8 < a.toNat.toUInt8 then 1 else Lib.compareBytes (Lib.bytesOf al) (Lib.bytesOf bl)) = _
  rw [cmp_cons, ih]
  simp only [e1, e2]
theorem load_byt {P : Program} {w : World} {ao : Option Addr} {n cap : Nat} {zs : List Int} (h : Byt w ao n cap zs) :
  (Extern.Bytes.bytesOf (.slice ao n cap)).run P w = .ok ⟨(Lib.bytesOf zs).toArray⟩ w := by
 cases ao with
 | none =>
  have : zs = [] := List.length_eq_zero_iff.1 (h.len.trans (h.nil rfl).1)
  subst this
  rfl
 | some ad =>
  have k := Lib.run_loadBytesX (P := P) w zs ad .empty (fun j x hj => h.cells ad rfl j (.int .u8 x) (by rw [List.getElem?_map, hj]; rfl))
  rw [h.len] at k
  have he : (⟨ByteArray.empty.data ++ (Lib.bytesOf zs).toArray⟩ : ByteArray) = ⟨(Lib.bytesOf zs).toArray⟩ := by
   apply ByteArray.ext
   show (#[] : Array UInt8) ++ (Lib.bytesOf zs).toArray = (Lib.bytesOf zs).toArray
   simp
  rw [he] at k
  exact k
theorem run_compareByt {P : Program} {w : World} {ao bo : Option Addr} {n m c d : Nat} {za zb : List Int} (ha : Byt w ao n c za) (hb : Byt w bo m d zb) (ba : Bt za) (bb : Bt zb) :
  (Extern.BytealgCompare.compare #[.slice ao n c, .slice bo m d]).run P w = .ok (.int .i64 (cmpZ za zb)) w := by
 change Sem.run P (do pure (goInt (Extern.BytealgCompare.cmp (← Extern.Bytes.bytesOf (.slice ao n c)) (← Extern.Bytes.bytesOf (.slice bo m d))))) w = _
 simp only [Sem.run_bind, Sem.run_pure, Result.andThen, load_byt ha, load_byt hb]
 rw [Lib.cmp_eq, show (⟨(Lib.bytesOf za).toArray⟩ : ByteArray).data.toList = Lib.bytesOf za from rfl, show (⟨(Lib.bytesOf zb).toArray⟩ : ByteArray).data.toList = Lib.bytesOf zb from rfl, cmp_bytes ba bb]
 rfl
end Go.Proofs.YthodgddoolbenaaGreatDoor
