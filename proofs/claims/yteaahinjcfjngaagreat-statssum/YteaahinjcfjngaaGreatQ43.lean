import Derived.Test.YteaahinjcfjngaaGreatQ32
import Derived.Test.YteaahinjcfjngaaGreatQ20
set_option maxRecDepth 100000
set_option maxHeartbeats 4000000
namespace Go.Proofs.YteaahinjcfjngaaGreat
open Go.RowKit
def CkF (w w':World):Prop:=∀ (a:Addr) (v:Value),w.cell? a=some v->w'.cell? a=some v
theorem CkF.of {w w':World}(hg:w.grownBy w' none):CkF w w':=fun _ _ e=>hg.cell e (by simp)
theorem CkF.mapped {w w':World}{b:Nat}(h:NbT w b)(hg:w.grownBy w' (some b)):CkF w w':=fun a v e=>hg.cell e (fun e2=>by
 obtain ⟨D,⟨es,clock,hb,_⟩,_⟩:=h;simp only [Option.some.injEq] at e2;unfold World.cell? at e;rw [e2,hb] at e;simp at e)
structure BtU (w:World)(ao:Option Addr)(n c:Nat)(s:List Int):Prop where
 b:Byt w ao n c s
 l1:n<=c
 l2:c<=9223372036854775807
theorem BtU.kept {w w':World}{ao:Option Addr}{n c:Nat}{s:List Int}(h:BtU w ao n c s)(hg:CkF w w'):BtU w' ao n c s :=
 ⟨⟨h.b.len,h.b.nil,fun ad e j u hu=>hg _ _ (h.b.cells ad e j u hu)⟩,h.l1,h.l2⟩
structure EsU (w:World)(a:Option Addr)(n c k:Nat)(es:List (List Value)):Prop where
 len:es.length=n
 cap:n<=c
 c2:c<=9223372036854775807
 nil:a=none->c=0
 sz:∀ e∈es,e.length=k
 one:∀ e∈es,∀ v∈e,v.oneCell'=true
 cell:∀ i e,es[i]?=some e->∃ b off,a=some ⟨b,off,none⟩/\∀ f v,e[f]?=some v->w.cell? ⟨b,off+i*k+f,none⟩=some v
theorem EsU.kept {w w':World}{a:Option Addr}{n c k:Nat}{es:List (List Value)}(h:EsU w a n c k es)(hg:CkF w w'):EsU w' a n c k es :=
 ⟨h.len,h.cap,h.c2,h.nil,h.sz,h.one,fun i e he=>by
  obtain ⟨b,off,h1,h2⟩:=h.cell i e he;exact ⟨b,off,h1,fun f v hv=>hg _ _ (h2 f v hv)⟩⟩
theorem EsU.where {w:World}{a:Option Addr}{n c k:Nat}{es:List (List Value)}(h:EsU w a n c k es)(hn:0<n):∃ b off,a=some ⟨b,off,none⟩:=by
 have hl:=h.len;obtain ⟨b,off,h1,_⟩:=h.cell 0 _ (List.getElem?_eq_getElem (by omega));exact ⟨b,off,h1⟩
theorem EsU.cells {w:World}{ad:Addr}{n c k:Nat}{es:List (List Value)}(h:EsU w (some ad) n c k es):(∀ j u,es.flatten[j]?=some u->w.cell? (ad.add j)=some u)/\(∀ u∈es.flatten,u.oneCell'=true)/\es.flatten.length=n*k:=by
 refine ⟨fun j u hu=>?_,fun u hu=>?_,by rw [flat_len h.sz,h.len]⟩
 ·obtain ⟨i,f,e,h1,h2,rfl⟩:=flat_in h.sz hu
  obtain ⟨b,off,e1,e2⟩:=h.cell i e h1;simp only [Option.some.injEq] at e1;subst e1;rw [Addr.add_lit,<- Nat.add_assoc];exact e2 f u h2
 ·obtain ⟨e,he,hu⟩:=List.mem_flatten.1 hu
  exact h.one e he u hu
def NmU (w:World)(a:Option Addr)(n c:Nat)(zs:List Int):Prop:=EsU w a n c 1 (zs.map fun z=>[.int .i64 z])
structure SlU {T:Type}(w:World)(k:Nat)(I:List Value->T->Prop)(a:Option Addr)(n c:Nat)(L:List T):Prop where
 ex:∃ es,EsU w a n c k es/\ElyT I es L
theorem SlU.len {T:Type}{w:World}{k:Nat}{I:List Value->T->Prop}{a:Option Addr}{n c:Nat}{L:List T}(h:SlU w k I a n c L):L.length=n:=by
 obtain ⟨es,h1,h2⟩:=h.ex;rw [<- h2.len,h1.len]
theorem SlU.cap {T:Type}{w:World}{k:Nat}{I:List Value->T->Prop}{a:Option Addr}{n c:Nat}{L:List T}(h:SlU w k I a n c L):n<=c/\c<=9223372036854775807/\(a=none->c=0):=by
 obtain ⟨es,h1,h2⟩:=h.ex;exact ⟨h1.cap,h1.c2,h1.nil⟩
theorem SlU.mono {T:Type}{w w':World}{k:Nat}{I J:List Value->T->Prop}{a:Option Addr}{n c:Nat}{L:List T}(h:SlU w k I a n c L)(hg:CkF w w')(hI:∀ e x,I e x->J e x):SlU w' k J a n c L:=by
 obtain ⟨es,h1,h2⟩:=h.ex;exact ⟨es,h1.kept hg,h2.mono hI⟩
def IbU (w:World)(e:List Value)(s:List Int):Prop:=∃ ao n c,e=[.slice ao n c]/\BtU w ao n c s
def SsU (w:World)(a:Option Addr)(n c:Nat)(L:List (List Int)):Prop:=SlU w 1 (IbU w) a n c L
theorem SsU.kept {w w':World}{a:Option Addr}{n c:Nat}{L:List (List Int)}(h:SsU w a n c L)(hg:CkF w w'):SsU w' a n c L:=SlU.mono h hg (fun _ _ ⟨ao,n,c,h1,h2⟩=>⟨ao,n,c,h1,h2.kept hg⟩)
theorem SsU.str {w:World}{a:Option Addr}{n c:Nat}{L:List (List Int)}(h:SsU w a n c L){i:Nat}{x:List Int}(hx:L[i]?=some x):∃ b off ao m d,a=some ⟨b,off,none⟩/\w.cell? ⟨b,off+i,none⟩=some (.slice ao m d)/\BtU w ao m d x:=by
 obtain ⟨es,h1,h2⟩:=h.ex;obtain ⟨e,e1,ao,m,d,rfl,k1⟩:=h2.get hx;obtain ⟨b,off,rfl,e2⟩:=h1.cell i _ e1;have:=e2 0 _ rfl;rw [Nat.mul_one,Nat.add_zero] at this;exact ⟨b,off,ao,m,d,rfl,this,k1⟩
def IkU (w:World)(e:List Value)(p:List Int × List Int):Prop:=∃ ka kn kc va vn vc,e=[.slice ka kn kc,.slice va vn vc]/\BtU w ka kn kc p.1/\BtU w va vn vc p.2
def IchU (w:World)(e:List Value)(zs:List Int):Prop:=∃ a n c,e=[.slice a n c]/\NmU w a n c zs
def RpU (w:World)(a:Option Addr)(n c:Nat)(L:List (List Int × List Int)):Prop:=SlU w 2 (IkU w) a n c L
def RcU (w:World)(a:Option Addr)(n c:Nat)(L:List (List Int)):Prop:=SlU w 1 (IchU w) a n c L
theorem RpU.kept {w w':World}{a:Option Addr}{n c:Nat}{L:List (List Int × List Int)}(h:RpU w a n c L)(hg:CkF w w'):RpU w' a n c L:=SlU.mono h hg (fun _ _ ⟨ka,kn,kc,va,vn,vc,h1,h2,h3⟩=>⟨ka,kn,kc,va,vn,vc,h1,h2.kept hg,h3.kept hg⟩)
theorem RcU.kept {w w':World}{a:Option Addr}{n c:Nat}{L:List (List Int)}(h:RcU w a n c L)(hg:CkF w w'):RcU w' a n c L:=SlU.mono h hg (fun _ _ ⟨a,n,c,h1,h2⟩=>⟨a,n,c,h1,EsU.kept h2 hg⟩)
theorem RpU.pair {w:World}{a:Option Addr}{m c:Nat}{L:List (List Int × List Int)}(h:RpU w a m c L){i:Nat}{p:List Int × List Int}(hx:L[i]?=some p):∃ b off ka kn kc va vn vc,a=some ⟨b,off,none⟩/\w.cell? ⟨b,off+i*2,none⟩=some (.slice ka kn kc)/\w.cell? ⟨b,off+i*2+1,none⟩=some (.slice va vn vc)/\BtU w ka kn kc p.1/\BtU w va vn vc p.2:=by
 obtain ⟨es,h1,h2⟩:=h.ex;obtain ⟨e,e1,ka,kn,kc,va,vn,vc,rfl,k1,k2⟩:=h2.get hx;obtain ⟨b,off,rfl,e2⟩:=h1.cell i _ e1;exact ⟨b,off,ka,kn,kc,va,vn,vc,rfl,e2 0 _ rfl,e2 1 _ rfl,k1,k2⟩
theorem RcU.chain {w:World}{a:Option Addr}{m c:Nat}{L:List (List Int)}(h:RcU w a m c L){i:Nat}{x:List Int}(hx:L[i]?=some x):∃ b off ao n d,a=some ⟨b,off,none⟩/\w.cell? ⟨b,off+i,none⟩=some (.slice ao n d)/\NmU w ao n d x:=by
 obtain ⟨es,h1,h2⟩:=h.ex;obtain ⟨e,e1,ao,n,d,rfl,k1⟩:=h2.get hx;obtain ⟨b,off,rfl,e2⟩:=h1.cell i _ e1;have:=e2 0 _ rfl;rw [Nat.mul_one,Nat.add_zero] at this;exact ⟨b,off,ao,n,d,rfl,this,k1⟩
def JoinsU (n:Nat):Prop:=∀ (b:Nat) (v:Value) (x y:NdT n) (so:Option Addr) (sn sc:Nat) (s:List Int) (w:World),NodeT n w (.iface (tyN n) (.pointer (some ⟨b,0,none⟩))) x->NodeT n w v y->OkT n x->OkT n y->BtU w so sn sc s->Vs s ->
 Calls Tryz.prog (fJoins n) #[.pointer (some ⟨b,0,none⟩),.slice so sn sc,v] w fun en w'=>en=.returned (.bool (joinsT n x s y))/\w.grownBy w' none
theorem joinsU0:JoinsU 0:=fun b v x y so sn sc s w hx hy ox oy _ _=>ljoins_any b v x y so sn sc s w hx hy (LokT.of ox) (LokT.of oy)
theorem bjoinsU (n:Nat):JoinsU (n+1):=by
 intro b v x y so sn sc s w hx hy ox oy hs hv;obtain ⟨b',a,m,c,sa,sm,sc1,e,hb,_,hss⟩:=hx;simp only [tyN,Value.iface.injEq,Value.pointer.injEq,Option.some.injEq,Addr.mk.injEq,true_and,and_true] at e;subst e;obtain ⟨d,a2,m2,c2,sa2,sm2,sc2,rfl,hd,_,hss2⟩:=hy;obtain ⟨_,_,_,x4,x5⟩:=ox;obtain ⟨_,_,_,y4,y5⟩:=oy;have l1:=hss.len;have l2:=hss2.len;have f1:=seps_few x4;have f2:=seps_few y4;have k1:=cell_heap (i:=2) hb rfl;have k2:=cell_heap (i:=2) hd rfl
 have KX:Hid (∀ z∈(BnT.row (T:=NdT n) x).ss++([s]++(BnT.row (T:=NdT n) y).ss),z.length<=140737488351232):=by
  intro z hz;simp only [List.mem_append,List.mem_cons,List.not_mem_nil,or_false] at hz;rcases hz with h | rfl | h
  ·have:=(x5 z h).k2;omega
  ·have:=hv.k2;omega
  ·have:=(y5 z h).k2;omega
 have JB:=hZq (fun (W:World) (h:w.grownBy W none)=>joinBranches_any sa sm sc1 (BnT.row (T:=NdT n) x).ss so sn sc s sa2 sm2 sc2 (BnT.row (T:=NdT n) y).ss W (hss.kept (FrT.of h)).lz l1 hss.cap.2.2 (hs.b.keptN h) hs.l1 hs.l2 (hss2.kept (FrT.of h)).lz l2 hss2.cap.2.2 (by omega) KX.out);have HJ:Hid (joinsT (n+1) x s y=decide (bsize ((BnT.row (T:=NdT n) x).ss++([s]++(BnT.row (T:=NdT n) y).ss))<=3000)):=rfl;have G0:=hZq ((Qt.refl w).drew.grown none);have hta:=assertB;rw [HJ.out]
 show Calls Tryz.prog 184 _ _ _
 clear hb hd hss hss2 hs x5 y5;go_enter Tryz.func184,Tryz.ntmps184
 go_wp2_with fail
 go_region_held3 (fun w'=>w'.cell? ⟨b,2,none⟩=some (.slice sa sm sc1)/\w'.cell? ⟨d,2,none⟩=some (.slice sa2 sm2 sc2)) (first | exact ⟨k1,k2⟩ | exact S1 | go_keep) (first
  | (go_at_call 193;(with_reducible refine (JB.out _ G0.out).mono ?_);rintro en w6 ⟨rfl,hg6⟩;have GG:=gZq G0.out hg6;have S1:=And.intro (GG.cell k1 (by simp)) (GG.cell k2 (by simp))))
 all_goals go_wp2
 all_goals (go_ret;exact ⟨rfl,GG⟩)
theorem joinsU:∀ n,JoinsU n
 | 0=>joinsU0
 | n+1=>bjoinsU n
end Go.Proofs.YteaahinjcfjngaaGreat
