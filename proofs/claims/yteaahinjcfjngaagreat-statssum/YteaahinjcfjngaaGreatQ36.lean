import Derived.Test.YteaahinjcfjngaaGreatQ26
import Derived.Test.YteaahinjcfjngaaGreatQ35
namespace Go.Proofs.YteaahinjcfjngaaGreat
theorem flatMap_len {T U:Type}(f:T->List U):∀ (L:List T),(L.flatMap f).length=sumT (fun x=>(f x).length) L
 | []=>rfl
 | x::L=>by rw [List.flatMap_cons,List.length_append,flatMap_len f L,sumT]
theorem sumT_mul {T:Type}(c:Nat):∀ (L:List T),sumT (fun _=>c) L=c*L.length
 | []=>rfl
 | x::L=>by rw [sumT,sumT_mul c L,List.length_cons,Nat.mul_add];omega
structure SdT (t:Option TrT):Prop where
 ok:OkO t
 nj:NjO t
 rk:RkO t
 nq:NqO t
 ch:∀ p∈flatO t,p.chain.length<=65
def noT:(n:Nat)->NdT n->Int
 | 0,x=>LfT.no x
 | n+1,x=>BnT.no (T:=NdT n) x
def HnT:(n:Nat)->NdT n->Prop
 | 0,x=>LfT.no x≠0->∀ p∈LfT.ps x,frP p=0
 | n+1,x=>(BnT.no (T:=NdT n) x≠0->∀ k∈(BnT.row (T:=NdT n) x).ns,noT n k≠0)/\∀ k∈(BnT.row (T:=NdT n) x).ns,HnT n k
theorem tellL_mem {T:Type}{f:Nat->T->List NoT}{y:NoT}:∀ {L:List T} {k:Nat},y∈tellL f k L->∃ x k',x∈L/\y∈f k' x
 | [],_,h=>by simp [tellL] at h
 | x::L,k,h=>by
  rw [tellL,List.mem_append] at h;rcases h with h | h
  ·exact ⟨x,k,List.mem_cons_self,h⟩
  ·obtain ⟨z,k',h1,h2⟩:=tellL_mem h
   exact ⟨z,k',List.mem_cons_of_mem _ h1,h2⟩
end Go.Proofs.YteaahinjcfjngaaGreat
