import Derived.Test.YteaahinjcfjngaaGreatQ27
import Derived.Deep.RegionHeld3
import Derived.Deep.QuietTactic
set_option maxRecDepth 100000
set_option maxHeartbeats 2000000
namespace Go.Proofs.YteaahinjcfjngaaGreat
open Go.RowKit
attribute [local go_sem] Oper.semAt_some
def CeF (w W:World):Prop:=∀ (b:Nat) (cs:Array Value) (t:TypeId) (z:Nat × Nat),w.heap[b]?=some (.cells cs t z)->W.heap[b]?=some (.cells cs t z)
theorem CeF.of {w W:World}(h:w.grownBy W none):CeF w W:=fun b _ _ _ e=>(h.block b (Array.getElem?_eq_some_iff.1 e).1 (by simp)).trans e
theorem CeF.frt {w W:World}(h:CeF w W):FrT w W:=⟨fun b t cur z _ e=>h b cur t z e⟩
end Go.Proofs.YteaahinjcfjngaaGreat
namespace Go.Proofs.YteaahinjcfjngaaGreat
open Go.RowKit
theorem CeF.cell {w W:World}(h:CeF w W){a:Addr}{v:Value}(hc:w.cell? a=some v):W.cell? a=some v:=by
 unfold World.cell? at hc ⊢;cases e:w.heap[a.block]? with
 | none=>rw [e] at hc;cases hc
 | some o =>
  rw [e] at hc;cases o with
  | cells cs t z =>
   rw [h _ _ _ _ e];exact hc
  | _=>cases hc
theorem byt_cef {w W:World}(h:CeF w W){ao:Option Addr}{n c:Nat}{s:List Int}(hb:Byt w ao n c s):Byt W ao n c s :=
 ⟨hb.len,hb.nil,fun ad e j u hu=>h.cell (hb.cells ad e j u hu)⟩
theorem undrewW {x y:World}{r:Option Nat}(h:x.drew.grownBy y r):x.grownBy y r:=⟨h.os,h.tape,h.output,h.size,h.block⟩
def BpW (w:World)(e:List Value)(p:PrT):Prop:=∃ ka kc va vc,e=[.slice ka p.key.length kc,.slice va p.val.length vc]/\Byt w ka p.key.length kc p.key/\Byt w va p.val.length vc p.val
theorem BpW.cef {w W:World}(h:CeF w W){e:List Value}{p:PrT}(k:BpW w e p):BpW W e p:=by
 obtain ⟨ka,kc,va,vc,h1,h2,h3⟩:=k;exact ⟨ka,kc,va,vc,h1,byt_cef h h2,byt_cef h h3⟩
theorem pv_bp {w:World}{lo hi:Nat}{e:List Value}{p:PrT}(h:PvT w lo hi e p):BpW w e p:=by
 obtain ⟨kv,vv,mid,rfl,_,_,o1,o2⟩:=h;obtain ⟨ka,kc,rfl⟩:=own_shape10 o1.1;obtain ⟨va,vc,rfl⟩:=own_shape10 o2.1;exact ⟨ka,kc,va,vc,rfl,own_bytT o1.1,own_bytT o2.1⟩
structure PsW (w:World)(es:List (List Value))(L:List PrT):Prop where
 len:es.length=L.length
 get:∀ (i:Nat) (e:List Value) (p:PrT),es[i]?=some e->L[i]?=some p->BpW w e p
theorem PsW.cef {w W:World}(h:CeF w W){es:List (List Value)}{L:List PrT}(k:PsW w es L):PsW W es L:=⟨k.len,fun i e p h1 h2=>(k.get i e p h1 h2).cef h⟩
theorem PsW.nil (w:World):PsW w [] []:=⟨rfl,fun i e p h _=>by simp at h⟩
theorem PsW.app {w:World}{es fs:List (List Value)}{L M:List PrT}(h:PsW w es L)(k:PsW w fs M):PsW w (es++fs) (L++M):=by
 refine ⟨by rw [List.length_append,List.length_append,h.len,k.len],fun i e p h1 h2=>?_⟩;have hl:=h.len
 by_cases hi:i<es.length
 ·rw [List.getElem?_append_left hi] at h1
  rw [List.getElem?_append_left (by omega)] at h2;exact h.get i e p h1 h2
 ·rw [List.getElem?_append_right (by omega)] at h1
  rw [List.getElem?_append_right (by omega),<- hl] at h2;exact k.get _ e p h1 h2
theorem PsW.one {w:World}{e:List Value}{p:PrT}(h:BpW w e p):PsW w [e] [p]:=⟨rfl,fun i e' p' h1 h2=>by
 match i,h1,h2 with
 | 0,h1,h2=>simp at h1 h2;subst h1 h2;exact h
 | i+1,h1,_=>simp at h1⟩
theorem PsW.sz {w:World}{es:List (List Value)}{L:List PrT}(h:PsW w es L):∀ e∈es,e.length=2:=fun e he=>by
 obtain ⟨i,hi,rfl⟩:=List.mem_iff_getElem.1 he;have hl:=h.len;obtain ⟨_,_,_,_,e1,_⟩:=h.get i _ _ (List.getElem?_eq_getElem hi) (List.getElem?_eq_getElem (by omega));rw [e1];rfl
theorem PsW.cells {w:World}{es:List (List Value)}{L:List PrT}(h:PsW w es L):∀ e∈es,∀ v∈e,v.oneCell'=true:=fun e he v hv=>by
 obtain ⟨i,hi,rfl⟩:=List.mem_iff_getElem.1 he;have hl:=h.len;obtain ⟨_,_,_,_,e1,_⟩:=h.get i _ _ (List.getElem?_eq_getElem hi) (List.getElem?_eq_getElem (by omega));rw [e1] at hv;simp only [List.mem_cons,List.not_mem_nil,or_false] at hv;rcases hv with rfl | rfl <;> rfl
def MpW (w:World)(a:Option Addr)(n c:Nat)(L:List PrT):Prop:=L.length=n/\∃ es,EsT w 64 a n c 2 es/\PsW w es L
theorem MpW.cef {w W:World}(h:CeF w W){a:Option Addr}{n c:Nat}{L:List PrT}(k:MpW w a n c L):MpW W a n c L:=by
 obtain ⟨h0,es,h1,h2⟩:=k;exact ⟨h0,es,h1.kept (by decide) h.frt,h2.cef h⟩
theorem MpW.of {w:World}{base n:Nat}{v:Value}{es:List (List Value)}{L:List PrT}(h:w.ownsRow base 64 2 v n es.flatten)(k:PsW w es L)(hn:L.length=n):∃ a c,v=.slice a n c/\MpW w a n c L:=by
 obtain ⟨a,c,rfl,he⟩:=EsT.of_owns h (by decide) k.sz k.cells;exact ⟨a,c,rfl,hn,es,he,k⟩
theorem MpW.get {w:World}{a:Option Addr}{n c:Nat}{L:List PrT}(h:MpW w a n c L){i:Nat}{p:PrT}(hp:L[i]?=some p) :
  ∃ b off ka kc va vc,a=some ⟨b,off,none⟩/\w.cell? ⟨b,off+i*2,none⟩=some (.slice ka p.key.length kc)/\w.cell? ⟨b,off+i*2+1,none⟩=some (.slice va p.val.length vc)/\Byt w ka p.key.length kc p.key/\Byt w va p.val.length vc p.val:=by
 obtain ⟨h0,es,h1,h2⟩:=h;have hl:=h2.len;have hi:=(List.getElem?_eq_some_iff.1 hp).1;have he:es[i]?=some (es[i]'(by omega)):=List.getElem?_eq_getElem (by omega);obtain ⟨ka,kc,va,vc,e1,e2,e3⟩:=h2.get i _ p he hp;obtain ⟨b,off,e4,_,e5⟩:=h1.cell i _ he;rw [e1] at e5;exact ⟨b,off,ka,kc,va,vc,e4,e5 0 _ rfl,e5 1 _ rfl,e2,e3⟩
end Go.Proofs.YteaahinjcfjngaaGreat
namespace Go.Proofs.YteaahinjcfjngaaGreat
open Go.RowKit
def ZrW (w:World)(a:Option Addr)(zs:List Int):Prop:=∀ i z,zs[i]?=some z->∃ b off,a=some ⟨b,off,none⟩/\w.cell? ⟨b,off+i,none⟩=some (.int .i64 z)
theorem ZrW.kept {w w':World}{a:Option Addr}{zs:List Int}(h:ZrW w a zs)(hg:w.grownBy w' none):ZrW w' a zs:=fun i z hz=>by
 obtain ⟨b,off,h1,h2⟩:=h i z hz;exact ⟨b,off,h1,hg.cell h2 (by simp)⟩
theorem ZrW.heap {w w':World}{a:Option Addr}{zs:List Int}(h:ZrW w a zs)(e:w'.heap=w.heap):ZrW w' a zs:=fun i z hz=>by
 obtain ⟨b,off,h1,h2⟩:=h i z hz;exact ⟨b,off,h1,(World.cell?_of_block (by rw [e])).trans h2⟩
def ZlW (w:World)(a:Option Addr)(C:List (List Int)):Prop:=∀ i s,C[i]?=some s->∃ b off ao c,a=some ⟨b,off,none⟩/\w.cell? ⟨b,off+i,none⟩=some (.slice ao s.length c)/\ZrW w ao s
theorem ZlW.kept {w w':World}{a:Option Addr}{C:List (List Int)}(h:ZlW w a C)(hg:w.grownBy w' none):ZlW w' a C:=fun i z hz=>by
 obtain ⟨b,off,ao,c,h1,h2,h3⟩:=h i z hz;exact ⟨b,off,ao,c,h1,hg.cell h2 (by simp),h3.kept hg⟩
def BlW (w:World)(a:Option Addr)(C:List (List Int)):Prop:=∀ i s,C[i]?=some s->∃ b off ao c,a=some ⟨b,off,none⟩/\w.cell? ⟨b,off+i,none⟩=some (.slice ao s.length c)/\Byt w ao s.length c s
theorem BlW.kept {w w':World}{a:Option Addr}{C:List (List Int)}(h:BlW w a C)(hg:w.grownBy w' none):BlW w' a C:=fun i z hz=>by
 obtain ⟨b,off,ao,c,h1,h2,h3⟩:=h i z hz;exact ⟨b,off,ao,c,h1,hg.cell h2 (by simp),h3.keptN hg⟩
structure NoW (w:World)(pa:Option Addr)(pc:Nat)(ca:Option Addr)(sa:Option Addr)(ka:Option Addr)(x:NoT):Prop where
 p:MpW w pa x.ps.length pc x.ps
 c:ZlW w ca (x.ps.map PrT.chain)
 s:BlW w sa x.ss
 k:ZrW w ka (x.ks.map fun (k:Nat)=>(k:Int))
theorem NoW.kept {w w':World}{pa:Option Addr}{pc:Nat}{ca sa ka:Option Addr}{x:NoT}(h:NoW w pa pc ca sa ka x)(hg:w.grownBy w' none):NoW w' pa pc ca sa ka x :=
 ⟨h.p.cef (CeF.of hg),h.c.kept hg,h.s.kept hg,h.k.kept hg⟩
theorem sameInts10 (a b:Option Addr)(n c d:Nat)(zs:List Int)(w:World)(h1:ZrW w a zs)(h2:ZrW w b zs)(hn:zs.length=n)(hm:n<=9223372036854775807) :
  Calls Tryz.prog 13 #[.slice a n c,.slice b n d] w fun en w'=>en=.returned (.bool true)/\Qt w w':=by
 have HL:=hZq h1;have HM:=hZq h2;clear h1 h2;have g0:((n:Int)==(n:Int))=true:=by simp
 go_enter Tryz.func13,Tryz.ntmps13;go_wp2;go_loopw [5] (fun si wr=>∃ i:Nat,i<=n/\si=.int .i64 (i:Nat)/\Qt w wr) (fun si _=>n - (intOf si).toNat)
 case atStart=>exact ⟨0,Nat.zero_le _,rfl,Qt.refl _⟩
 case round =>
  obtain ⟨i,hi,rfl,hq⟩:=hrel;have HQ:=hZq hq;clear hq
  by_cases hlt:i<n
  ·obtain ⟨z,hz⟩:∃ z,zs[i]?=some z:=⟨_,List.getElem?_eq_getElem (by omega)⟩
   obtain ⟨b1,o1,rfl,q1⟩:=HL.out i z hz;obtain ⟨b2,o2,rfl,q2⟩:=HM.out i z hz;have x1:=(HQ.out.cell _).trans q1;have x2:=(HQ.out.cell _).trans q2;have g1:(0:Int)<=(i:Int):=by omega
   have g2:(i:Int)<(n:Int):=by omega
   have g3:(z==z)=true:=by simp
   clear hz q1 q2;go_wp2
   go_quiet (fail)
   generalize hwd:wr.drewN _=w9 at *;have q9:Qt wr w9:=by rw [<- hwd];exact Qt.drewN _ _
   have Q9:=hZq (HQ.out.trans q9);clear hwd q9;go_wp2;go_roundw
   case rel=>exact ⟨i+1,by omega,by go_num,Q9.out⟩
   case measure=>simp [intOf];omega
  ·obtain rfl:i=n:=by omega
   go_wp2;go_ret;exact ⟨rfl,HQ.out⟩
theorem sameLists10 (a b:Option Addr)(n c d:Nat)(L:List (List Int))(w:World)(h1:BlW w a L)(h2:BlW w b L)(hn:L.length=n)(hm:n<=9223372036854775807) :
  Calls Tryz.prog 66 #[.slice a n c,.slice b n d] w fun en w'=>en=.returned (.bool true)/\Qt w w':=by
 have HL:=hZq h1;have HM:=hZq h2;clear h1 h2;have g0:((n:Int)==(n:Int))=true:=by simp
 go_enter Tryz.func66,Tryz.ntmps66;go_wp2;go_loopw [5,6] (fun si _ wr=>∃ i:Nat,i<=n/\si=.int .i64 (i:Nat)/\Qt w wr) (fun si _ _=>n - (intOf si).toNat)
 case atStart=>exact ⟨0,Nat.zero_le _,rfl,Qt.refl _⟩
 case round =>
  obtain ⟨i,hi,rfl,hq⟩:=hrel;have HQ:=hZq hq;clear hq
  by_cases hlt:i<n
  ·obtain ⟨z,hz⟩:∃ z,L[i]?=some z:=⟨_,List.getElem?_eq_getElem (by omega)⟩
   obtain ⟨b1,o1,ao1,c1,rfl,q1,q3⟩:=HL.out i z hz;obtain ⟨b2,o2,ao2,c2,rfl,q2,q4⟩:=HM.out i z hz;have x1:=(HQ.out.cell _).trans q1;have x2:=(HQ.out.cell _).trans q2;have HC:=hZq (fun (W:World) (hW:W.heap=wr.heap)=>same_yes ao1 ao2 _ _ c1 c2 _ _ W (q3.heap (hW.trans HQ.out.heap)) (q4.heap (hW.trans HQ.out.heap)) rfl);have g1:(0:Int)<=(i:Int):=by omega
   have g2:(i:Int)<(n:Int):=by omega
   clear hz q1 q2 q3 q4;generalize z.length=zl at *;go_wp2
   go_quiet ((go_at_call 88;exact Calls.quiet_of_same (HC.out _ rfl)))
   generalize hwd:wr.drewN _=w9 at *;have q9:Qt wr w9:=by rw [<- hwd];exact Qt.drewN _ _
   have Q9:=hZq (HQ.out.trans q9);clear hwd q9;go_wp2;go_roundw
   case rel=>exact ⟨i+1,by omega,by go_num,Q9.out⟩
   case measure=>simp [intOf];omega
  ·obtain rfl:i=n:=by omega
   go_wp2;go_ret;exact ⟨rfl,HQ.out⟩
end Go.Proofs.YteaahinjcfjngaaGreat
namespace Go.Proofs.YteaahinjcfjngaaGreat
open Go.RowKit
theorem pvl_ps {w:World}:∀ {es:List (List Value)} {ps:List PrT} {lo hi:Nat},PvL w es ps lo hi->PsW w es ps
 | [],[],_,_,_=>PsW.nil _
 | e::es,p::ps,_,_,h=>by
  obtain ⟨q,_,_,h3,h4⟩:=h;exact (PsW.one (pv_bp h3)).app (pvl_ps h4)
 | [],_::_,_,_,h=>h.elim
 | _::_,[],_,_,h=>h.elim
end Go.Proofs.YteaahinjcfjngaaGreat
namespace Go.Proofs.YteaahinjcfjngaaGreat
open Go.RowKit
theorem empty_any (w:World):Calls Tryz.prog 26 #[] w fun en w'=>∃ p,en=.returned (.pointer (some ⟨p,0,none⟩))/\TreeT w' p none/\w.grownBy w' none:=by
 go_enter Tryz.func26,Tryz.ntmps26;go_wp2;go_ret;exact ⟨_,rfl,⟨_,_,_,_,_,_,heap_at0 w _ _,rfl⟩,World.grownBy_alloc w _ none⟩
end Go.Proofs.YteaahinjcfjngaaGreat
namespace Go.Proofs.YteaahinjcfjngaaGreat
open Go.RowKit
theorem samePair11 (a1 b1 a2 b2:Option Addr)(n1 m1 c1 d1 c2 d2:Nat)(k v:List Int)(w:World)(h1:Byt w a1 n1 c1 k)(h2:Byt w b1 m1 d1 v)(h3:Byt w a2 n1 c2 k)(h4:Byt w b2 m1 d2 v) :
  Calls Tryz.prog 87 #[.agg #[.slice a1 n1 c1,.slice b1 m1 d1],.agg #[.slice a2 n1 c2,.slice b2 m1 d2]] w fun en w'=>en=.returned (.bool true)/\w.grownBy w' none:=by
 have ga:=World.grownBy_alloc w (.cells #[.slice a1 n1 c1,.slice b1 m1 d1] 64) none;have gb:=gZq ga (World.grownBy_alloc (w.alloc (.cells #[.slice a1 n1 c1,.slice b1 m1 d1] 64)) (.cells #[.slice a2 n1 c2,.slice b2 m1 d2] 64) none);have HG:=hZq gb;have HC1:=hZq (same_yes a1 a2 n1 n1 c1 c2 k k _ (h1.keptN gb) (h3.keptN gb) rfl);have HC2:=hZq (same_yes b1 b2 m1 m1 d1 d2 v v _ (h2.keptN gb) (h4.keptN gb) rfl);clear h1 h2 h3 h4 ga gb;go_enter Tryz.func87,Tryz.ntmps87
 go_wp2_with fail
 refine HC1.out.mono ?_;rintro en w2 ⟨rfl,hw2⟩;subst hw2
 go_wp2_with fail
 refine HC2.out.mono ?_;rintro en w3 ⟨rfl,hw3⟩;subst hw3;go_wp2;go_ret;exact ⟨rfl,HG.out⟩
end Go.Proofs.YteaahinjcfjngaaGreat
