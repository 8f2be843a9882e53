import Derived.Test.YteaahinjcfjngaaGreatQ24
import Derived.Test.YteaahinjcfjngaaGreatQ33
import Derived.Deep.RegionHeld3
namespace Go.Proofs.YteaahinjcfjngaaGreat
open Go.RowKit
def ChS (w:World)(base:Nat)(v:Value)(zs:List Int):Prop:=(zs=[]/\∃ ca,v=.slice ca 0 0)∨(0<zs.length/\w.ownsRow base 3 1 v zs.length (zs.map (Value.int .i64)))
theorem ChS.shape {w:World}{base:Nat}{v:Value}{zs:List Int}(h:ChS w base v zs):∃ a c,v=.slice a zs.length c:=by
 rcases h with ⟨rfl,ca,rfl⟩ | ⟨_,h⟩
 ·exact ⟨ca,0,rfl⟩
 ·exact own_shape10 h
theorem ChS.kept {w w':World}{base:Nat}{v:Value}{zs:List Int}{row:Option Nat}(h:ChS w base v zs)(hg:w.grownBy w' row)(hr:∀ g,row=some g->∃ t,TgT w g t/\t≠3):ChS w' base v zs:=by
 rcases h with h | ⟨h0,h⟩
 ·exact .inl h
 ·refine .inr ⟨h0,h.kept hg ?_⟩
  cases e:v.ownBlock with
  | none=>exact .inl rfl
  | some g =>
   refine .inr (fun e2=>?_);obtain ⟨_,_,cur,z,k⟩:=own_lt10 h e;obtain ⟨t,⟨cur',z',k'⟩,ht⟩:=hr g e2.symm;rw [k] at k';simp only [Option.some.injEq,Obj.cells.injEq] at k';exact ht k'.2.1.symm
theorem own_base {w:World}{b b' e sz n:Nat}{v:Value}{xs:List Value}(h:w.ownsRow b e sz v n xs)(hb:b'<=b):w.ownsRow b' e sz v n xs:=by
 refine ⟨h.1,?_⟩;rcases h.2 with h2 | ⟨g,cap,cur,h1,h2,h3⟩
 ·exact .inl h2
 ·exact .inr ⟨g,cap,cur,h1,by omega,h3⟩
theorem run_more {w:World}{base:Nat}{v:Value}{zs:List Int}{z:Int}{N:Nat}(h:ChS w base v zs)(hN:w.cell? ⟨N,0,none⟩=some (.int .i64 z))(hl:zs.length<=1000000000)(hb:base<=w.heap.size)(ty:TypeId) :
  ∃ v' w',(Builtin.append_ #[30,30] ty #[v,.slice (some ⟨N,0,none⟩) 1 1]).run Tryz.prog w=.ok v' w'/\ChS w' base v' (zs++[z])/\∃ row,w.grownBy w' row/\∀ g,row=some g->base<=g/\TgT w g 3:=by
 obtain ⟨i0,hi,hz0,hz1,hz2⟩:=info_parts info_i10
 have hnews:∀ j u,[Value.int .i64 z][j]?=some u->w.cell? ((⟨N,0,none⟩:Addr).add j)=some u:=by
  intro j u hu
  match j,hu with
  | 0,hu =>
   simp only [List.getElem?_cons_zero,Option.some.injEq] at hu;subst hu;rw [Addr.add_lit];exact hN
  | j+1,hu=>simp at hu
 have h1:∀ u∈[Value.int .i64 z],u.oneCell'=true:=by
  intro u hu;simp at hu;subst hu
  rfl
 rcases h with ⟨rfl,ca,rfl⟩ | ⟨h0,h⟩
 ·cases ca with
  | none =>
   obtain ⟨v',w',r,r1,r2,_⟩:=run_append_own (P:=Tryz.prog) w base 30 ty 3 i0 (.int .i64 0) 1 8 Tryz.underlying30 hi hz0 hz1 hz2 rfl (by decide) (.slice none 0 0) 0 [] ⟨rfl,.inl ⟨rfl,rfl⟩⟩ ⟨N,0,none⟩ 1 1 [.int .i64 z] rfl hnews h1 (by unfold maxLen;omega) (by omega) hb;exact ⟨v',w',r,.inr ⟨by simp,by simpa using r1⟩,_,r2,fun g e=>by simp [Value.ownBlock] at e⟩
  | some b =>
   obtain ⟨v',w',r,r1,r2⟩:=run_append_arg_grows (P:=Tryz.prog) w 30 ty 3 i0 (.int .i64 0) 1 8 Tryz.underlying30 hi hz0 hz1 hz2 rfl (by decide) b 0 0 [] rfl (fun j u hu=>by simp at hu) ⟨N,0,none⟩ 1 1 [.int .i64 z] rfl hnews (by omega) (by unfold maxLen;omega) (by omega);exact ⟨v',w',r,.inr ⟨by simp,by simpa using own_base r1 hb⟩,_,r2,fun g e=>by cases e⟩
 ·obtain ⟨v',w',r,r1,r2,_⟩:=run_append_own (P:=Tryz.prog) w base 30 ty 3 i0 (.int .i64 0) 1 8 Tryz.underlying30 hi hz0 hz1 hz2 rfl (by decide) v zs.length _ h ⟨N,0,none⟩ 1 1 [.int .i64 z] rfl hnews h1 (by unfold maxLen;omega) (by omega) hb
  refine ⟨v',w',r,.inr ⟨by simp,by simpa using r1⟩,_,r2,fun g e=>?_⟩;obtain ⟨k1,_,k2⟩:=own_lt10 h e;exact ⟨k1,k2⟩
theorem wpList_more {w:World}{ops:Array Oper}{rest:List Oper}{o:Oper}{a:Act}{Q:Exit->Act->World->Prop}(hgd:o.guard=none)(s x:Operand)
  (ho:o.op=.call { callee:=.builtin .append,args:=#[s,x],argTypes:=#[30,30] })
  {base:Nat} {v:Value} {zs:List Int} {z:Int} {N:Nat} (hs:a.eval s=v) (hx:a.eval x=.slice (some ⟨N,0,none⟩) 1 1) (h:ChS w base v zs) (hN:w.cell? ⟨N,0,none⟩=some (.int .i64 z)) (hl:zs.length<=1000000000) (hb:base<=w.heap.size)
  (hk:∀ v' w' row,ChS w' base v' (zs++[z])->w.grownBy w' row->(∀ g,row=some g->base<=g/\TgT w g 3)->wpList Tryz.prog ops Q rest (a.put o.dst v') w'):wpList Tryz.prog ops Q (o::rest) a w:=by
 refine wpList_plain hgd fun K hK=>?_
 obtain ⟨v',w',hrun,r1,row,r2,r3⟩:=run_more h hN hl hb o.type;unfold Oper.wp;simp [execOp,ho,resolve,invoke,builtin,hs,hx,hrun,Result.andThen];exact hK _ _ (hk v' w' row r1 r2 r3)
def tkL (S:List Int):List Int->Bool
 | []=>true
 | z::zs=>decide (2<=z/\z<524287/\z ∉ S) && tkL (S++[z]) zs
theorem tkL_snoc {zs:List Int}{z:Int}:∀ (S l:List Int),tkL S (l++z::zs)=(tkL S l && (decide (2<=z/\z<524287/\z ∉ S++l) && tkL (S++l++[z]) zs))
 | S,[]=>by simp [tkL]
 | S,y::l=>by
  rw [List.cons_append,tkL,tkL_snoc (S++[y]) l,tkL,Bool.and_assoc];simp
end Go.Proofs.YteaahinjcfjngaaGreat
