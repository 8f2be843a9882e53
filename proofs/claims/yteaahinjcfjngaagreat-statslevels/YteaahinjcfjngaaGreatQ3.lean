import Derived.Test.YteaahinjcfjngaaGreatQ2
import Derived.Lib.Bytealg
import Derived.Lib.BytesEntry
namespace Go.Proofs.YteaahinjcfjngaaGreat
open Go.RowKit
def cmpZ:List Int->List Int->Int
 | [],[]=>0
 | [],_::_=>-1
 | _::_,[]=>1
 | a::al,b::bl=>if a<b then -1 else if b<a then 1 else cmpZ al bl
def com:List Int->List Int->Nat
 | a::al,b::bl=>if a=b then com al bl+1 else 0
 | _,_=>0
theorem com_nil (b:List Int):com [] b=0:=by unfold com;rfl
theorem com_nil2 (a:List Int):com a []=0:=by cases a <;> rfl
theorem com_cons (a b:Int)(al bl:List Int):com (a::al) (b::bl)=if a=b then com al bl+1 else 0:=by rw [com]
theorem cmp_cons (a b:Int)(al bl:List Int):cmpZ (a::al) (b::bl)=if a<b then -1 else if b<a then 1 else cmpZ al bl:=by rw [cmpZ]
theorem com_le1:∀ (a b:List Int),com a b<=a.length
 | [],b=>by rw [com_nil];exact Nat.zero_le _
 | a::al,[]=>by rw [com_nil2];exact Nat.zero_le _
 | a::al,b::bl=>by
  rw [com_cons];split
  ·have:=com_le1 al bl;simp;exact this
  ·exact Nat.zero_le _
theorem com_le2:∀ (a b:List Int),com a b<=b.length
 | [],b=>by rw [com_nil];exact Nat.zero_le _
 | a::al,[]=>by rw [com_nil2];exact Nat.zero_le _
 | a::al,b::bl=>by
  rw [com_cons];split
  ·have:=com_le2 al bl;simp;exact this
  ·exact Nat.zero_le _
theorem cmp_range:∀ (a b:List Int),-1<=cmpZ a b/\cmpZ a b<=1
 | [],[]=>by first | decide | simp [cmpZ]
 | [],_::_=>by first | decide | simp [cmpZ]
 | _::_,[]=>by first | decide | simp [cmpZ]
 | a::al,b::bl=>by
  rw [cmp_cons];split
  ·decide
  ·split
   ·decide
   ·exact cmp_range al bl
theorem cmp_self:∀ (a:List Int),cmpZ a a=0
 | []=>rfl
 | a::al=>by rw [cmp_cons,if_neg (by omega),if_neg (by omega)];exact cmp_self al
theorem cmp_anti:∀ (a b:List Int),cmpZ b a=-cmpZ a b
 | [],[]=>rfl
 | [],_::_=>rfl
 | _::_,[]=>rfl
 | a::al,b::bl=>by
  rw [cmp_cons,cmp_cons]
  by_cases h1:a<b
  ·rw [if_pos h1,if_neg (by omega),if_pos h1];rfl
  ·by_cases h2:b<a
   ·rw [if_pos h2,if_neg h1,if_pos h2]
   ·rw [if_neg h2,if_neg h1,if_neg h1,if_neg h2];exact cmp_anti al bl
theorem cmp_trans:∀ {a b c:List Int},cmpZ a b<=0->cmpZ b c<=0->cmpZ a c<=0/\(cmpZ a c=0->cmpZ a b=0/\cmpZ b c=0)
 | [],b,[],h,k=>by
  cases b with
  | nil=>decide
  | cons=>exact absurd k (by first | decide | simp [cmpZ])
 | [],_,_::_,_,_=>⟨by first | decide | simp [cmpZ],fun e=>absurd e (by first | decide | simp [cmpZ])⟩
 | _::_,[],_,h,_=>absurd h (by first | decide | simp [cmpZ])
 | _::_,_::_,[],_,k=>absurd k (by first | decide | simp [cmpZ])
 | a::al,b::bl,c::cs,h,k=>by
  rw [cmp_cons] at h k;rw [cmp_cons,cmp_cons,cmp_cons]
  by_cases h1:a<b
  ·by_cases k1:b<c
   ·rw [if_pos h1,if_pos (show a<c by omega),if_pos k1];decide
   ·rw [if_neg k1] at k
    by_cases k2:c<b
    ·rw [if_pos k2] at k;exact absurd k (by first | decide | simp [cmpZ])
    ·rw [if_pos h1,if_pos (show a<c by omega)];exact ⟨by first | decide | simp [cmpZ],fun e=>absurd e (by first | decide | simp [cmpZ])⟩
  ·rw [if_neg h1] at h
   by_cases h2:b<a
   ·rw [if_pos h2] at h;exact absurd h (by first | decide | simp [cmpZ])
   ·rw [if_neg h2] at h
    by_cases k1:b<c
    ·rw [if_pos (show a<c by omega)];exact ⟨by first | decide | simp [cmpZ],fun e=>absurd e (by first | decide | simp [cmpZ])⟩
    ·rw [if_neg k1] at k
     by_cases k2:c<b
     ·rw [if_pos k2] at k;exact absurd k (by first | decide | simp [cmpZ])
     ·rw [if_neg k2] at k
      rw [if_neg h1,if_neg h2,if_neg k1,if_neg k2,if_neg (show ¬ a<c by omega),if_neg (show ¬ c<a by omega)];exact cmp_trans h k
theorem drop_cons {a:List Int}{i:Nat}(h:i<a.length):a.drop i=a.getD i 0::a.drop (i+1):=by
 rw [List.drop_eq_getElem_cons h];simp [List.getD,List.getElem?_eq_getElem h]
theorem com_on {a b:List Int}{i:Nat}(ha:i<a.length)(hb:i<b.length)(h:a.getD i 0=b.getD i 0):com (a.drop i) (b.drop i)=com (a.drop (i+1)) (b.drop (i+1))+1:=by
 rw [drop_cons ha,drop_cons hb,com_cons,if_pos h]
theorem com_off {a b:List Int}{i:Nat}(ha:i<a.length)(hb:i<b.length)(h:a.getD i 0≠b.getD i 0):com (a.drop i) (b.drop i)=0:=by
 rw [drop_cons ha,drop_cons hb,com_cons,if_neg h]
theorem com_end {a b:List Int}{i:Nat}(h:a.length<=i∨b.length<=i):com (a.drop i) (b.drop i)=0:=by
 rcases h with h | h
 ·rw [List.drop_of_length_le h,com_nil]
 ·rw [List.drop_of_length_le h,com_nil2]
theorem com_take:∀ (n:Nat) (a b:List Int),com (a.take n) b=min n (com a b)
 | 0,a,b=>by rw [List.take_zero,com_nil];omega
 | n+1,[],b=>by rw [List.take_nil,com_nil];omega
 | n+1,a::al,[]=>by rw [com_nil2,com_nil2];omega
 | n+1,a::al,b::bl=>by
  rw [List.take_succ_cons,com_cons,com_cons]
  split
  ·rw [com_take n al bl];omega
  ·omega
theorem com_lt:∀ {a b:List Int},cmpZ a b<0->com a b<b.length
 | [],[],h=>absurd h (by first | decide | simp [cmpZ])
 | [],b::bl,_=>by rw [com_nil];simp
 | _::_,[],h=>absurd h (by first | decide | simp [cmpZ])
 | a::al,b::bl,h=>by
  rw [cmp_cons] at h;rw [com_cons]
  split
  ·have e:cmpZ al bl<0:=by rw [if_neg (by omega),if_neg (by omega)] at h;exact h
   have:=com_lt e;simp;exact this
  ·simp
theorem cmp_take:∀ (n:Nat) (b:List Int),cmpZ (b.take n) b<=0
 | 0,[]=>by first | decide | simp [cmpZ]
 | 0,_::_=>by first | decide | simp [cmpZ]
 | n+1,[]=>by first | decide | simp [cmpZ]
 | n+1,b::bl=>by rw [List.take_succ_cons,cmp_cons,if_neg (by omega),if_neg (by omega)];exact cmp_take n bl
theorem sep_low:∀ {a b:List Int},cmpZ a b<0->cmpZ a (b.take (com a b+1))<0
 | [],[],h=>absurd h (by first | decide | simp [cmpZ])
 | [],b::bl,_=>by rw [List.take_succ_cons];simp [cmpZ]
 | _::_,[],h=>absurd h (by first | decide | simp [cmpZ])
 | a::al,b::bl,h=>by
  rw [cmp_cons] at h;rw [com_cons]
  split
  ·have e:cmpZ al bl<0:=by rw [if_neg (by omega),if_neg (by omega)] at h;exact h
   rw [List.take_succ_cons,cmp_cons,if_neg (by omega),if_neg (by omega)];exact sep_low e
  ·rename_i hne
   have hl:a<b:=by
    by_cases h1:a<b
    ·exact h1
    ·rw [if_neg h1,if_pos (by omega)] at h;exact absurd h (by first | decide | simp [cmpZ])
   rw [List.take_succ_cons,cmp_cons,if_pos hl];decide
theorem com_mid:∀ {a b c:List Int},cmpZ a b<=0->cmpZ b c<=0->com a c=min (com a b) (com b c)
 | [],b,c,_,_=>by rw [com_nil,com_nil];omega
 | _::_,[],_,h,_=>absurd h (by first | decide | simp [cmpZ])
 | _::_,_::_,[],_,k=>absurd k (by first | decide | simp [cmpZ])
 | a::al,b::bl,c::cs,h,k=>by
  rw [cmp_cons] at h k;rw [com_cons,com_cons,com_cons]
  have hab:a<=b:=by
   by_cases h1:a<b
   ·omega
   ·rw [if_neg h1] at h
    by_cases h2:b<a
    ·rw [if_pos h2] at h;exact absurd h (by first | decide | simp [cmpZ])
    ·omega
  have hbc:b<=c:=by
   by_cases h1:b<c
   ·omega
   ·rw [if_neg h1] at k
    by_cases h2:c<b
    ·rw [if_pos h2] at k;exact absurd k (by first | decide | simp [cmpZ])
    ·omega
  by_cases e1:a=b
  ·by_cases e2:b=c
   ·rw [if_neg (by omega),if_neg (by omega)] at h k
    rw [if_pos (e1.trans e2),if_pos e1,if_pos e2,com_mid h k];omega
   ·rw [if_neg (by omega),if_neg e2];omega
  ·rw [if_neg (by omega),if_neg e1];omega
def comAll (f:List Int)(n:Nat)(l:List (List Int)):Nat:=l.foldl (fun n s=>min n (com f s)) n
theorem comAll_cons (f:List Int)(n:Nat)(s:List Int)(l:List (List Int)):comAll f n (s::l)=comAll f (min n (com f s)) l:=rfl
theorem comAll_le (f:List Int):∀ (l:List (List Int)) (n:Nat),comAll f n l<=n
 | [],n=>Nat.le_refl _
 | s::l,n=>by rw [comAll_cons];have:=comAll_le f l (min n (com f s));omega
theorem cmp_bytes:∀ {a b:List Int},Bt a->Bt b->Lib.compareBytes (Lib.bytesOf a) (Lib.bytesOf b)=cmpZ a b
 | [],[],_,_=>rfl
 | [],_::_,_,_=>rfl
 | _::_,[],_,_=>rfl
 | a::al,b::bl,ha,hb=>by
  have h1:=ha a (List.mem_cons_self ..);have h2:=hb b (List.mem_cons_self ..);have ih:=cmp_bytes (a:=al) (b:=bl) (fun z hz=>ha z (List.mem_cons_of_mem _ hz)) (fun z hz=>hb z (List.mem_cons_of_mem _ hz))
  have e1:(a.toNat.toUInt8<b.toNat.toUInt8)↔a<b:=by
   rw [UInt8.lt_iff_toNat_lt];simp;omega
  have e2:(b.toNat.toUInt8<a.toNat.toUInt8)↔b<a:=by
   rw [UInt8.lt_iff_toNat_lt];simp;omega
  show (if a.toNat.toUInt8<b.toNat.toUInt8 then (-1:Int) else if b.toNat.toUInt8<a.toNat.toUInt8 then 1 else Lib.compareBytes (Lib.bytesOf al) (Lib.bytesOf bl))=_
  rw [cmp_cons,ih];simp only [e1,e2]
theorem load_byt {P:Program}{w:World}{ao:Option Addr}{n cap:Nat}{zs:List Int}(h:Byt w ao n cap zs) :
  (Extern.Bytes.bytesOf (.slice ao n cap)).run P w=.ok ⟨(Lib.bytesOf zs).toArray⟩ w:=by
 cases ao with
 | none =>
  have:zs=[]:=List.length_eq_zero_iff.1 (h.len.trans (h.nil rfl).1);subst this
  rfl
 | some ad =>
  have k:=Lib.run_loadBytesX (P:=P) w zs ad .empty (fun j x hj=>h.cells ad rfl j (.int .u8 x) (by rw [List.getElem?_map,hj];rfl));rw [h.len] at k
  have he:(⟨ByteArray.empty.data++(Lib.bytesOf zs).toArray⟩:ByteArray)=⟨(Lib.bytesOf zs).toArray⟩:=by
   apply ByteArray.ext
   show (#[]:Array UInt8)++(Lib.bytesOf zs).toArray=(Lib.bytesOf zs).toArray
   simp
  rw [he] at k;exact k
theorem run_compareByt {P:Program}{w:World}{ao bo:Option Addr}{n m c d:Nat}{za zb:List Int}(ha:Byt w ao n c za)(hb:Byt w bo m d zb)(ba:Bt za)(bb:Bt zb) :
  (Extern.BytealgCompare.compare #[.slice ao n c,.slice bo m d]).run P w=.ok (.int .i64 (cmpZ za zb)) w:=by
 change Sem.run P (do pure (goInt (Extern.BytealgCompare.cmp (<- Extern.Bytes.bytesOf (.slice ao n c)) (<- Extern.Bytes.bytesOf (.slice bo m d))))) w=_;simp only [Sem.run_bind,Sem.run_pure,Result.andThen,load_byt ha,load_byt hb];rw [Lib.cmp_eq,show (⟨(Lib.bytesOf za).toArray⟩:ByteArray).data.toList=Lib.bytesOf za from rfl,show (⟨(Lib.bytesOf zb).toArray⟩:ByteArray).data.toList=Lib.bytesOf zb from rfl,cmp_bytes ba bb]
 rfl
end Go.Proofs.YteaahinjcfjngaaGreat
