import Derived.Test.YtepcgckapoljpaaGreatQ38
import Derived.Test.YtepcgckapoljpaaGreatQ37
import Derived.Deep.RegionHeld3
import Derived.Deep.QuietTactic
import Derived.Deep.CutBlock
import Derived.Deep.DeepCutAuto
import Derived.Deep.CutRange
import Derived.Laws.AppendOwnNone
set_option maxRecDepth 100000
set_option maxHeartbeats 16000000
namespace Go.Proofs.YtepcgckapoljpaaGreat
open Go.RowKit Go.Shelf
attribute [local go_sem] Oper.semAt_some
def CeF (w W:World):Prop:=∀ (b:Nat) (cs:Array Value) (t:TypeId) (z:Nat × Nat),w.heap[b]?=some (.cells cs t z)->W.heap[b]?=some (.cells cs t z)
theorem CeF.refl (w:World):CeF w w:=fun _ _ _ _ h=>h
theorem CeF.trans {a b c:World}(h:CeF a b)(k:CeF b c):CeF a c:=fun g cs t z e=>k g cs t z (h g cs t z e)
theorem CeF.of {w W:World}(h:w.grownBy W none):CeF w W:=fun b _ _ _ e=>(h.block b (Array.getElem?_eq_some_iff.1 e).1 (by simp)).trans e
theorem CeF.frt {w W:World}(h:CeF w W):FrT w W:=⟨fun b t cur z _ e=>h b cur t z e⟩
end Go.Proofs.YtepcgckapoljpaaGreat
namespace Go.Proofs.YtepcgckapoljpaaGreat
open Go.RowKit
theorem CeF.cell {w W:World}(h:CeF w W){a:Addr}{v:Value}(hc:w.cell? a=some v):W.cell? a=some v:=by
 unfold World.cell? at hc ⊢;cases e:w.heap[a.block]? with
 | none=>rw [e] at hc;cases hc
 | some o =>
  rw [e] at hc;cases o with
  | cells cs t z =>
   rw [h _ _ _ _ e];exact hc
  | _=>cases hc
theorem byt_cef {w W:World}(h:CeF w W){ao:Option Addr}{n c:Nat}{s:List Int}(hb:Byt w ao n c s):Byt W ao n c s :=
 ⟨hb.len,hb.nil,fun ad e j u hu=>h.cell (hb.cells ad e j u hu)⟩
theorem undrewW {x y:World}{r:Option Nat}(h:x.drew.grownBy y r):x.grownBy y r:=⟨h.os,h.tape,h.output,h.size,h.block⟩
def BpW (w:World)(e:List Value)(p:PrT):Prop:=∃ ka kc va vc,e=[.slice ka p.key.length kc,.slice va p.val.length vc]/\Byt w ka p.key.length kc p.key/\Byt w va p.val.length vc p.val
theorem BpW.cef {w W:World}(h:CeF w W){e:List Value}{p:PrT}(k:BpW w e p):BpW W e p:=by
 obtain ⟨ka,kc,va,vc,h1,h2,h3⟩:=k;exact ⟨ka,kc,va,vc,h1,byt_cef h h2,byt_cef h h3⟩
theorem pv_bp {w:World}{lo hi:Nat}{e:List Value}{p:PrT}(h:PvT w lo hi e p):BpW w e p:=by
 obtain ⟨kv,vv,mid,rfl,_,_,o1,o2⟩:=h;obtain ⟨ka,kc,rfl⟩:=own_shape10 o1.1;obtain ⟨va,vc,rfl⟩:=own_shape10 o2.1;exact ⟨ka,kc,va,vc,rfl,own_bytT o1.1,own_bytT o2.1⟩
structure PsW (w:World)(es:List (List Value))(L:List PrT):Prop where
 len:es.length=L.length
 get:∀ (i:Nat) (e:List Value) (p:PrT),es[i]?=some e->L[i]?=some p->BpW w e p
theorem PsW.cef {w W:World}(h:CeF w W){es:List (List Value)}{L:List PrT}(k:PsW w es L):PsW W es L:=⟨k.len,fun i e p h1 h2=>(k.get i e p h1 h2).cef h⟩
theorem PsW.nil (w:World):PsW w [] []:=⟨rfl,fun i e p h _=>by simp at h⟩
theorem PsW.app {w:World}{es fs:List (List Value)}{L M:List PrT}(h:PsW w es L)(k:PsW w fs M):PsW w (es++fs) (L++M):=by
 refine ⟨by rw [List.length_append,List.length_append,h.len,k.len],fun i e p h1 h2=>?_⟩;have hl:=h.len
 by_cases hi:i<es.length
 ·rw [List.getElem?_append_left hi] at h1
  rw [List.getElem?_append_left (by omega)] at h2;exact h.get i e p h1 h2
 ·rw [List.getElem?_append_right (by omega)] at h1
  rw [List.getElem?_append_right (by omega),<- hl] at h2;exact k.get _ e p h1 h2
theorem PsW.take {w:World}{es:List (List Value)}{L:List PrT}(h:PsW w es L)(i:Nat):PsW w (es.take i) (L.take i):=by
 refine ⟨by rw [List.length_take,List.length_take,h.len],fun j e p h1 h2=>?_⟩;rw [List.getElem?_take] at h1 h2
 split at h1
 ·rename_i hj
  rw [if_pos hj] at h2;exact h.get j e p h1 h2
 ·cases h1
theorem PsW.drop {w:World}{es:List (List Value)}{L:List PrT}(h:PsW w es L)(i:Nat):PsW w (es.drop i) (L.drop i):=by
 refine ⟨by rw [List.length_drop,List.length_drop,h.len],fun j e p h1 h2=>?_⟩;rw [List.getElem?_drop] at h1 h2;exact h.get _ e p h1 h2
theorem PsW.one {w:World}{e:List Value}{p:PrT}(h:BpW w e p):PsW w [e] [p]:=⟨rfl,fun i e' p' h1 h2=>by
 match i,h1,h2 with
 | 0,h1,h2=>simp at h1 h2;subst h1 h2;exact h
 | i+1,h1,_=>simp at h1⟩
theorem PsW.sz {w:World}{es:List (List Value)}{L:List PrT}(h:PsW w es L):∀ e∈es,e.length=2:=fun e he=>by
 obtain ⟨i,hi,rfl⟩:=List.mem_iff_getElem.1 he;have hl:=h.len;obtain ⟨_,_,_,_,e1,_⟩:=h.get i _ _ (List.getElem?_eq_getElem hi) (List.getElem?_eq_getElem (by omega));rw [e1];rfl
theorem PsW.cells {w:World}{es:List (List Value)}{L:List PrT}(h:PsW w es L):∀ e∈es,∀ v∈e,v.oneCell'=true:=fun e he v hv=>by
 obtain ⟨i,hi,rfl⟩:=List.mem_iff_getElem.1 he;have hl:=h.len;obtain ⟨_,_,_,_,e1,_⟩:=h.get i _ _ (List.getElem?_eq_getElem hi) (List.getElem?_eq_getElem (by omega));rw [e1] at hv;simp only [List.mem_cons,List.not_mem_nil,or_false] at hv;rcases hv with rfl | rfl <;> rfl
def MpW (w:World)(a:Option Addr)(n c:Nat)(L:List PrT):Prop:=L.length=n/\∃ es,EsT w 40 a n c 2 es/\PsW w es L
theorem MpW.cef {w W:World}(h:CeF w W){a:Option Addr}{n c:Nat}{L:List PrT}(k:MpW w a n c L):MpW W a n c L:=by
 obtain ⟨h0,es,h1,h2⟩:=k;exact ⟨h0,es,h1.kept (by decide) h.frt,h2.cef h⟩
theorem MpW.of {w:World}{base n:Nat}{v:Value}{es:List (List Value)}{L:List PrT}(h:w.ownsRow base 40 2 v n es.flatten)(k:PsW w es L)(hn:L.length=n):∃ a c,v=.slice a n c/\MpW w a n c L:=by
 obtain ⟨a,c,rfl,he⟩:=EsT.of_owns h (by decide) k.sz k.cells;exact ⟨a,c,rfl,hn,es,he,k⟩
theorem MpW.nil (w:World):MpW w none 0 0 []:=⟨rfl,[],EsT.nul _ _ _,PsW.nil _⟩
theorem MpW.get {w:World}{a:Option Addr}{n c:Nat}{L:List PrT}(h:MpW w a n c L){i:Nat}{p:PrT}(hp:L[i]?=some p) :
  ∃ b off ka kc va vc,a=some ⟨b,off,none⟩/\w.cell? ⟨b,off+i*2,none⟩=some (.slice ka p.key.length kc)/\w.cell? ⟨b,off+i*2+1,none⟩=some (.slice va p.val.length vc)/\Byt w ka p.key.length kc p.key/\Byt w va p.val.length vc p.val:=by
 obtain ⟨h0,es,h1,h2⟩:=h;have hl:=h2.len;have hi:=(List.getElem?_eq_some_iff.1 hp).1;have he:es[i]?=some (es[i]'(by omega)):=List.getElem?_eq_getElem (by omega);obtain ⟨ka,kc,va,vc,e1,e2,e3⟩:=h2.get i _ p he hp;obtain ⟨b,off,e4,_,e5⟩:=h1.cell i _ he;rw [e1] at e5;exact ⟨b,off,ka,kc,va,vc,e4,e5 0 _ rfl,e5 1 _ rfl,e2,e3⟩
end Go.Proofs.YtepcgckapoljpaaGreat
namespace Go.Proofs.YtepcgckapoljpaaGreat
open Go.RowKit
theorem samePair11 (a1 b1 a2 b2:Option Addr)(n1 m1 c1 d1 c2 d2:Nat)(k v:List Int)(w:World)(h1:Byt w a1 n1 c1 k)(h2:Byt w b1 m1 d1 v)(h3:Byt w a2 n1 c2 k)(h4:Byt w b2 m1 d2 v) :
  Calls Tryz.prog 40 #[.agg #[.slice a1 n1 c1,.slice b1 m1 d1],.agg #[.slice a2 n1 c2,.slice b2 m1 d2]] w fun en w'=>en=.returned (.bool true)/\w.grownBy w' none:=by
 have ga:=World.grownBy_alloc w (.cells #[.slice a1 n1 c1,.slice b1 m1 d1] 40) none;have gb:=gZq ga (World.grownBy_alloc (w.alloc (.cells #[.slice a1 n1 c1,.slice b1 m1 d1] 40)) (.cells #[.slice a2 n1 c2,.slice b2 m1 d2] 40) none);have HG:=hZq gb;have HC1:=hZq (same_yes a1 a2 n1 n1 c1 c2 k k _ (h1.keptN gb) (h3.keptN gb) rfl);have HC2:=hZq (same_yes b1 b2 m1 m1 d1 d2 v v _ (h2.keptN gb) (h4.keptN gb) rfl);clear h1 h2 h3 h4 ga gb;go_enter Tryz.func40,Tryz.ntmps40
 go_wp2_with fail
 refine HC1.out.mono ?_;rintro en w2 ⟨rfl,hw2⟩;subst hw2
 go_wp2_with fail
 refine HC2.out.mono ?_;rintro en w3 ⟨rfl,hw3⟩;subst hw3;go_wp2;go_ret;exact ⟨rfl,HG.out⟩
theorem samePairs11 (a b:Option Addr)(n c d:Nat)(L:List PrT)(w:World)(h1:MpW w a n c L)(h2:MpW w b n d L)(h0:n<=100000000) :
  Calls Tryz.prog 15 #[.slice a n c,.slice b n d] w fun en w'=>en=.returned (.bool true)/\w.grownBy w' none:=by
 have HL:=hZq h1;have HK:=hZq h2;have HN:=hZq h1.1;clear h1 h2;have g0:((n:Int)==(n:Int))=true:=by simp
 go_enter Tryz.func15,Tryz.ntmps15;go_wp2;go_loopw [5,6] (fun si _ wr=>∃ i:Nat,i<=n/\si=.int .i64 (i:Nat)/\w.grownBy wr none) (fun si _ _=>n - (intOf si).toNat)
 case atStart=>exact ⟨0,Nat.zero_le _,rfl,World.grownBy.refl _ _⟩
 case round =>
  obtain ⟨i,hi,rfl,hg⟩:=hrel;have HG:=hZq hg;clear hg
  by_cases hlt:i<n
  ·obtain ⟨p,hp⟩:∃ p,L[i]?=some p:=⟨_,List.getElem?_eq_getElem (by have:=HN.out;omega)⟩
   obtain ⟨b1,off1,ao1,c1,bo1,d1,rfl,q1,q2,q3,q5⟩:=HL.out.get hp;obtain ⟨b2,off2,ao2,c2,bo2,d2,rfl,r1,r2,r3,r5⟩:=HK.out.get hp;have HSP:=hZq (fun (W:World) (hW:W.heap=wr.heap)=>samePair11 ao1 bo1 ao2 bo2 _ _ c1 d1 c2 d2 p.key p.val W ((q3.keptN HG.out).heap hW) ((q5.keptN HG.out).heap hW) ((r3.keptN HG.out).heap hW) ((r5.keptN HG.out).heap hW));have x1:=HG.out.cell q1 (by simp);have x2:=HG.out.cell q2 (by simp);have y1:=HG.out.cell r1 (by simp);have y2:=HG.out.cell r2 (by simp);clear q1 q2 q3 q5 r1 r2 r3 r5 hp;generalize p.key.length=n1 at *;generalize p.val.length=m1 at *;have g1:(0:Int)<=(i:Int):=by omega
   have g2:(i:Int)<(n:Int):=by omega
   go_upto_region 6 with fail
   go_region_with ((go_at_call 40;refine (HSP.out wr.drew rfl).mono ?_;rintro en w3 ⟨rfl,hg3⟩;have G3:=hZq (gZq HG.out (undrewW hg3));clear hg3))
   all_goals
    go_wp2;go_roundw
    case rel=>exact ⟨i+1,by omega,by go_num,G3.out⟩
    case measure=>simp [intOf];omega
  ·obtain rfl:i=n:=by omega
   go_wp2;go_ret;exact ⟨rfl,HG.out⟩
end Go.Proofs.YtepcgckapoljpaaGreat
namespace Go.Proofs.YtepcgckapoljpaaGreat
open Go.RowKit
theorem sameW (ao bo:Option Addr)(n m c d:Nat)(za zb:List Int)(w:World)(ha:Byt w ao n c za)(hb:Byt w bo m d zb)(ba:Bt za)(bb:Bt zb) :
  Calls Tryz.prog 12 #[.slice ao n c,.slice bo m d] w fun en w'=>en=.returned (.bool (decide (za=zb)))/\w'=w:=by
 by_cases e:za=zb
 ·rw [decide_eq_true e];exact same_yes ao bo n m c d za zb w ha hb e
 ·rw [decide_eq_false e];exact same_no ao bo n m c d za zb w ha hb ba bb e
end Go.Proofs.YtepcgckapoljpaaGreat
namespace Go.Proofs.YtepcgckapoljpaaGreat
open Go.RowKit
theorem pvl_ps {w:World}:∀ {es:List (List Value)} {ps:List PrT} {lo hi:Nat},PvL w es ps lo hi->PsW w es ps
 | [],[],_,_,_=>PsW.nil _
 | e::es,p::ps,_,_,h=>by
  obtain ⟨q,_,_,h3,h4⟩:=h;exact (PsW.one (pv_bp h3)).app (pvl_ps h4)
 | [],_::_,_,_,h=>h.elim
 | _::_,[],_,_,h=>h.elim
theorem row10_any (va:Option Addr)(N vc lb:Nat)(es:List (List Value))(xs:List NoT)(lo hi:Nat)(w1:World)(ho:w1.ownsRow lb 54 6 (.slice va N vc) N es.flatten)(htm:ToM w1 lb es xs lo hi)(hN:xs.length=N)(hs:N<=10000000)(hf:(xs.flatMap NoT.ps).length<=10000000) :
  Calls Tryz.prog 13 #[.slice va N vc] w1 fun en w'=>∃ a n c,en=.returned (.slice a n c)/\MpW w' a n c (xs.flatMap NoT.ps)/\w1.grownBy w' none:=by
 obtain ⟨ip,hip,hp0,hp1,hp2⟩:=info_parts info_pair10;have HO:=hZq ho;have HT:=hZq htm;have hel:=htm.len;clear ho htm;go_enter Tryz.func13,Tryz.ntmps13
 go_wp2_with fail
 go_loopw [3,4] (fun sl si wr=>∃ (k m:Nat) (ps:List (List Value)),k<=N/\si=.int .i64 (k:Nat)/\w1.grownBy wr none/\wr.ownsRow w1.heap.size 40 2 sl ((xs.take k).flatMap NoT.ps).length ps.flatten/\PvL w1 ps ((xs.take k).flatMap NoT.ps) lo m/\ToM w1 lb (es.drop k) (xs.drop k) m hi) (fun _ si _=>N - (intOf si).toNat)
 case atStart=>exact ⟨0,lo,[],Nat.zero_le _,rfl,World.grownBy.refl _ _,⟨rfl,.inl ⟨rfl,rfl⟩⟩,Nat.le_refl _,HT.out⟩
 case round =>
  obtain ⟨k,m,ps,hk,rfl,hg,hl,hpv,htm⟩:=hrel;have G1:=hZq hg;have PV:=hZq hpv;obtain ⟨la,lc,hv⟩:=own_shape10 hl;subst hv
  by_cases hlt:k<N
  ·have hx:xs[k]?=some (xs[k]'(by omega)):=List.getElem?_eq_getElem (by omega)
   have hek:es[k]?=some (es[k]'(by omega)):=List.getElem?_eq_getElem (by omega);have dx:xs.drop k=xs[k]'(by omega)::xs.drop (k+1):=List.drop_eq_getElem_cons (by omega);have de:es.drop k=es[k]'(by omega)::es.drop (k+1):=List.drop_eq_getElem_cons (by omega);rw [dx,de] at htm;clear dx de
   revert hx hek htm
   generalize xs[k]'(by omega)=x;generalize es[k]'(by omega)=e5;intro htm hx hek;obtain ⟨m',hm1,hm2,⟨vp,qs,ca,cn,cc,sa,sn,sc,ka,kn,kc,he5,o1,o2,o3,_⟩,hrest⟩:=htm;rw [he5] at hek;clear he5
   have hva:∃ g,va=some ⟨g,0,none⟩:=by
    rcases HO.out.2 with ⟨_,h0⟩ | ⟨g,cap,cur,hv,_⟩
    ·omega
    ·exact ⟨g,by injection hv⟩
   obtain ⟨g,rfl⟩:=hva
   have cel:∀ f u,[Value.int .i64 x.no,.int .i64 (x.lv:Int),vp,.slice ca cn cc,.slice sa sn sc,.slice ka kn kc][f]?=some u->wr.cell? ⟨g,k*6+f,none⟩=some u:=fun f u hu=>by
    have h6:f<6:=(List.getElem?_eq_some_iff.1 hu).1;have:=HO.out.cellAt (k*6+f) (by omega);rw [flat_at HT.out.sz hek hu] at this;exact hg.cell this (by simp)
   have c0:=cel 0 _ rfl;have c1:=cel 1 _ rfl;have c2:=cel 2 _ rfl;have c3:=cel 3 _ rfl;have c4:=cel 4 _ rfl;have c5:=cel 5 _ rfl;rw [Nat.add_zero] at c0;obtain ⟨pa,pc,hvp⟩:=own_shape10 o1;subst hvp;have i1:(k:Int)<(N:Int):=by omega
   have i0:(0:Int)<=(k:Int):=by omega
   have O1:=hZq (o1.kept hg (Classical.em _));have O3:=hZq o3;have HL:=hZq hl;have HR:=hZq hrest;have HX:=hZq hx;have hcnt:=flatMap_le (xs:=xs) (k+1);rw [flatMap_take hx,List.length_append] at hcnt;obtain ⟨M,hM⟩:∃ M,((xs.take k).flatMap NoT.ps).length=M:=⟨_,rfl⟩;obtain ⟨L,hL⟩:∃ L,x.ps.length=L:=⟨_,rfl⟩;rw [hM,hL] at hcnt;rw [hM] at HL ⊢;rw [hL] at O1 c2;have HM:=hZq hM;have HLn:=hZq hL;have hsz:=hg.size;have ONE:=hZq o3.one;clear hM hL hg hl hpv hrest hx hek o1 o3 cel
   go_wp2_with (at_builtin;refine append_vp rfl _ _ 27 rfl w1.heap.size 40 ip (.agg #[.slice none 0 0,.slice none 0 0]) 2 48 Tryz.underlying27 hip hp0 hp1 hp2 rfl (by decide) _ M ps.flatten rfl HL.out m _ L qs.flatten rfl O1.out ONE.out ?c3 ?c4 ?c5 ?_)
   case c3=>unfold maxLen;omega
   case c4=>omega
   case c5=>exact hsz
   intro v9 w9 ho9 hg9;have O9:=hZq ho9
   have G9:Hid (w1.grownBy w9 none):=by
    have h1:=G1.out;cases hb:(Value.slice la M lc).ownBlock with
    | none=>rw [hb] at hg9;exact gZq h1 hg9
    | some d=>rw [hb] at hg9;exact grown_new h1 hg9 (own_lt10 HL.out hb).1
   clear ho9 hg9
   go_wp2_with fail
   go_roundw
   case rel =>
    refine ⟨k+1,m',ps++qs,by omega,by go_num,G9.out,?_,?_,HR.out⟩
    ·rw [flatMap_take HX.out,List.length_append,HM.out,HLn.out,List.flatten_append]
     exact O9.out
    ·rw [flatMap_take HX.out]
     exact PV.out.app O3.out
   case measure=>simp [intOf];omega
  ·have hin:k=N:=by omega
   subst hin;have hta:xs.take k=xs:=List.take_of_length_le (by omega);rw [hta] at hl PV;have hz:=hg.size;have HL:=hZq hl;rw [hta];obtain ⟨M,hM⟩:∃ M,(xs.flatMap NoT.ps).length=M:=⟨_,rfl⟩;rw [hM] at HL ⊢;have HM:=hZq hM;clear hg hl hpv htm hM
   go_wp2_with fail
   go_ret;obtain ⟨a9,c9,e9,m9⟩:=MpW.of HL.out ((pvl_ps PV.out).cef (CeF.of G1.out)) HM.out;simp only [Value.slice.injEq] at e9;obtain ⟨rfl,_,rfl⟩:=e9;exact ⟨_,_,_,rfl,m9,G1.out⟩
end Go.Proofs.YtepcgckapoljpaaGreat
namespace Go.Proofs.YtepcgckapoljpaaGreat
open Go.RowKit
def ZrW (w:World)(a:Option Addr)(zs:List Int):Prop:=∀ i z,zs[i]?=some z->∃ b off,a=some ⟨b,off,none⟩/\w.cell? ⟨b,off+i,none⟩=some (.int .i64 z)
theorem ZrW.kept {w w':World}{a:Option Addr}{zs:List Int}(h:ZrW w a zs)(hg:w.grownBy w' none):ZrW w' a zs:=fun i z hz=>by
 obtain ⟨b,off,h1,h2⟩:=h i z hz;exact ⟨b,off,h1,hg.cell h2 (by simp)⟩
theorem ZrW.heap {w w':World}{a:Option Addr}{zs:List Int}(h:ZrW w a zs)(e:w'.heap=w.heap):ZrW w' a zs:=fun i z hz=>by
 obtain ⟨b,off,h1,h2⟩:=h i z hz;exact ⟨b,off,h1,(World.cell?_of_block (by rw [e])).trans h2⟩
def ZlW (w:World)(a:Option Addr)(C:List (List Int)):Prop:=∀ i s,C[i]?=some s->∃ b off ao c,a=some ⟨b,off,none⟩/\w.cell? ⟨b,off+i,none⟩=some (.slice ao s.length c)/\ZrW w ao s
theorem ZlW.kept {w w':World}{a:Option Addr}{C:List (List Int)}(h:ZlW w a C)(hg:w.grownBy w' none):ZlW w' a C:=fun i z hz=>by
 obtain ⟨b,off,ao,c,h1,h2,h3⟩:=h i z hz;exact ⟨b,off,ao,c,h1,hg.cell h2 (by simp),h3.kept hg⟩
def BlW (w:World)(a:Option Addr)(C:List (List Int)):Prop:=∀ i s,C[i]?=some s->∃ b off ao c,a=some ⟨b,off,none⟩/\w.cell? ⟨b,off+i,none⟩=some (.slice ao s.length c)/\Byt w ao s.length c s
theorem BlW.kept {w w':World}{a:Option Addr}{C:List (List Int)}(h:BlW w a C)(hg:w.grownBy w' none):BlW w' a C:=fun i z hz=>by
 obtain ⟨b,off,ao,c,h1,h2,h3⟩:=h i z hz;exact ⟨b,off,ao,c,h1,hg.cell h2 (by simp),h3.keptN hg⟩
structure NoW (w:World)(pa:Option Addr)(pc:Nat)(ca:Option Addr)(sa:Option Addr)(ka:Option Addr)(x:NoT):Prop where
 p:MpW w pa x.ps.length pc x.ps
 c:ZlW w ca (x.ps.map PrT.chain)
 s:BlW w sa x.ss
 k:ZrW w ka (x.ks.map fun (k:Nat)=>(k:Int))
theorem NoW.kept {w w':World}{pa:Option Addr}{pc:Nat}{ca sa ka:Option Addr}{x:NoT}(h:NoW w pa pc ca sa ka x)(hg:w.grownBy w' none):NoW w' pa pc ca sa ka x :=
 ⟨h.p.cef (CeF.of hg),h.c.kept hg,h.s.kept hg,h.k.kept hg⟩
theorem sameInts10 (a b:Option Addr)(n c d:Nat)(zs:List Int)(w:World)(h1:ZrW w a zs)(h2:ZrW w b zs)(hn:zs.length=n)(hm:n<=9223372036854775807) :
  Calls Tryz.prog 44 #[.slice a n c,.slice b n d] w fun en w'=>en=.returned (.bool true)/\Qt w w':=by
 have HL:=hZq h1;have HM:=hZq h2;clear h1 h2;have g0:((n:Int)==(n:Int))=true:=by simp
 go_enter Tryz.func44,Tryz.ntmps44;go_wp2;go_loopw [5] (fun si wr=>∃ i:Nat,i<=n/\si=.int .i64 (i:Nat)/\Qt w wr) (fun si _=>n - (intOf si).toNat)
 case atStart=>exact ⟨0,Nat.zero_le _,rfl,Qt.refl _⟩
 case round =>
  obtain ⟨i,hi,rfl,hq⟩:=hrel;have HQ:=hZq hq;clear hq
  by_cases hlt:i<n
  ·obtain ⟨z,hz⟩:∃ z,zs[i]?=some z:=⟨_,List.getElem?_eq_getElem (by omega)⟩
   obtain ⟨b1,o1,rfl,q1⟩:=HL.out i z hz;obtain ⟨b2,o2,rfl,q2⟩:=HM.out i z hz;have x1:=(HQ.out.cell _).trans q1;have x2:=(HQ.out.cell _).trans q2;have g1:(0:Int)<=(i:Int):=by omega
   have g2:(i:Int)<(n:Int):=by omega
   have g3:(z==z)=true:=by simp
   clear hz q1 q2;go_wp2
   go_quiet (fail)
   generalize hwd:wr.drewN _=w9 at *;have q9:Qt wr w9:=by rw [<- hwd];exact Qt.drewN _ _
   have Q9:=hZq (HQ.out.trans q9);clear hwd q9;go_wp2;go_roundw
   case rel=>exact ⟨i+1,by omega,by go_num,Q9.out⟩
   case measure=>simp [intOf];omega
  ·obtain rfl:i=n:=by omega
   go_wp2;go_ret;exact ⟨rfl,HQ.out⟩
theorem sameLists10 (a b:Option Addr)(n c d:Nat)(L:List (List Int))(w:World)(h1:BlW w a L)(h2:BlW w b L)(hn:L.length=n)(hm:n<=9223372036854775807) :
  Calls Tryz.prog 56 #[.slice a n c,.slice b n d] w fun en w'=>en=.returned (.bool true)/\Qt w w':=by
 have HL:=hZq h1;have HM:=hZq h2;clear h1 h2;have g0:((n:Int)==(n:Int))=true:=by simp
 go_enter Tryz.func56,Tryz.ntmps56;go_wp2;go_loopw [5,6] (fun si _ wr=>∃ i:Nat,i<=n/\si=.int .i64 (i:Nat)/\Qt w wr) (fun si _ _=>n - (intOf si).toNat)
 case atStart=>exact ⟨0,Nat.zero_le _,rfl,Qt.refl _⟩
 case round =>
  obtain ⟨i,hi,rfl,hq⟩:=hrel;have HQ:=hZq hq;clear hq
  by_cases hlt:i<n
  ·obtain ⟨z,hz⟩:∃ z,L[i]?=some z:=⟨_,List.getElem?_eq_getElem (by omega)⟩
   obtain ⟨b1,o1,ao1,c1,rfl,q1,q3⟩:=HL.out i z hz;obtain ⟨b2,o2,ao2,c2,rfl,q2,q4⟩:=HM.out i z hz;have x1:=(HQ.out.cell _).trans q1;have x2:=(HQ.out.cell _).trans q2;have HC:=hZq (fun (W:World) (hW:W.heap=wr.heap)=>same_yes ao1 ao2 _ _ c1 c2 _ _ W (q3.heap (hW.trans HQ.out.heap)) (q4.heap (hW.trans HQ.out.heap)) rfl);have g1:(0:Int)<=(i:Int):=by omega
   have g2:(i:Int)<(n:Int):=by omega
   clear hz q1 q2 q3 q4;generalize z.length=zl at *;go_wp2
   go_quiet ((go_at_call 12;exact Calls.quiet_of_same (HC.out _ rfl)))
   generalize hwd:wr.drewN _=w9 at *;have q9:Qt wr w9:=by rw [<- hwd];exact Qt.drewN _ _
   have Q9:=hZq (HQ.out.trans q9);clear hwd q9;go_wp2;go_roundw
   case rel=>exact ⟨i+1,by omega,by go_num,Q9.out⟩
   case measure=>simp [intOf];omega
  ·obtain rfl:i=n:=by omega
   go_wp2;go_ret;exact ⟨rfl,HQ.out⟩
end Go.Proofs.YtepcgckapoljpaaGreat
namespace Go.Proofs.YtepcgckapoljpaaGreat
open Go.RowKit
theorem sameChains10 (no1 lv1 p1 s1 k1 no2 lv2 p2 s2 k2:Value)(a b:Option Addr)(n c d:Nat)(C:List (List Int))(w:World)(h1:ZlW w a C)(h2:ZlW w b C)(hn:C.length=n)(hm:n<=9223372036854775807)(hs:∀ s∈C,s.length<=9223372036854775807) :
  Calls Tryz.prog 55 #[.agg #[no1,lv1,p1,.slice a n c,s1,k1],.agg #[no2,lv2,p2,.slice b n d,s2,k2]] w fun en w'=>en=.returned (.bool true)/\w.grownBy w' none:=by
 have ga:=World.grownBy_alloc w (.cells #[no1,lv1,p1,.slice a n c,s1,k1] 54) none;have gb:=World.grownBy_alloc (w.alloc (.cells #[no1,lv1,p1,.slice a n c,s1,k1] 54)) (.cells #[no2,lv2,p2,.slice b n d,s2,k2] 54) none;have X1:=hZq (heap_kept (heap_at0 w #[no1,lv1,p1,.slice a n c,s1,k1] 54) gb);have Y1:=hZq (heap_at0 (w.alloc (.cells #[no1,lv1,p1,.slice a n c,s1,k1] 54)) #[no2,lv2,p2,.slice b n d,s2,k2] 54);have hs1:(w.alloc (.cells #[no1,lv1,p1,.slice a n c,s1,k1] 54)).heap.size=w.heap.size+1:=by simp
 rw [hs1] at Y1;have HG:=hZq (gZq ga gb);have HL:=hZq (h1.kept HG.out);have HM:=hZq (h2.kept HG.out);have HS:=hZq hs;clear ga gb h1 h2 hs hs1;go_enter Tryz.func55,Tryz.ntmps55;go_upto_region 1 with fail
 generalize (w.alloc (.cells #[no1,lv1,p1,.slice a n c,s1,k1] 54)).alloc (.cells #[no2,lv2,p2,.slice b n d,s2,k2] 54)=w1 at *;obtain ⟨B,hB⟩:∃ B,w.heap.size=B:=⟨_,rfl⟩;rw [hB] at X1 Y1 ⊢;clear hB;have x3:=cell_heap (i:=3) X1.out rfl;have y3:=cell_heap (i:=3) Y1.out rfl;have gm:max (n:Int) (n:Int)=(n:Int):=by simp
 go_upto_block 0 with fail
 go_wp2_with fail
 go_loopw [6,7,8,9] (fun si _ _ _ wr=>∃ i:Nat,i<=n/\si=.int .i64 (i:Nat)/\Qt w1 wr) (fun si _ _ _ _=>n - (intOf si).toNat)
 case atStart=>exact ⟨0,Nat.zero_le _,rfl,Qt.refl _⟩
 case round =>
  obtain ⟨i,hi,rfl,hq⟩:=hrel;have HQ:=hZq hq;clear hq;have e3:=(HQ.out.cell _).trans x3;have f3:=(HQ.out.cell _).trans y3
  by_cases hlt:i<n
  ·obtain ⟨z,hz⟩:∃ z,C[i]?=some z:=⟨_,List.getElem?_eq_getElem (by omega)⟩
   obtain ⟨b1,o1,ao1,c1,rfl,q1,q3⟩:=HL.out i z hz;obtain ⟨b2,o2,ao2,c2,rfl,q2,q4⟩:=HM.out i z hz;have q1':=(HQ.out.cell _).trans q1;have q2':=(HQ.out.cell _).trans q2;have hzl:=HS.out z (List.mem_of_getElem? hz);have HC:=hZq (sameInts10 ao1 ao2 _ c1 c2 z wr (q3.heap HQ.out.heap) (q4.heap HQ.out.heap) rfl (by omega));have g1:(0:Int)<=(i:Int):=by omega
   have g2:(i:Int)<(n:Int):=by omega
   clear hz q1 q2 q3 q4 hzl;generalize z.length=zl at *
   go_wp2_with fail
   refine HC.out.mono ?_;rintro en w9 ⟨rfl,hq9⟩;have Q9:=hZq (HQ.out.trans hq9);clear hq9 HC;go_wp2;go_roundw
   case rel=>exact ⟨i+1,by omega,by go_num,Q9.out⟩
   case measure=>simp [intOf];omega
  ·obtain rfl:i=n:=by omega
   go_wp2;go_ret;exact ⟨rfl,gZq HG.out (HQ.out.grown none)⟩
theorem sameNode10 (pa ca sa ka pb cb sb kb:Option Addr)(pc cc sc kc pd cd sd kd:Nat)(x:NoT)(cn sn kn:Nat)(w:World)(h1:NoW w pa pc ca sa ka x)(h2:NoW w pb pd cb sb kb x)(hc:(x.ps.map PrT.chain).length=cn)(hs:x.ss.length=sn)(hk:(x.ks.map fun (k:Nat)=>(k:Int)).length=kn)(l1:x.ps.length<=100000000)(l2:sn<=9223372036854775807)(l3:kn<=9223372036854775807)(l4:∀ p∈x.ps,p.chain.length<=9223372036854775807) :
  Calls Tryz.prog 30 #[.agg #[.int .i64 x.no,.int .i64 (x.lv:Int),.slice pa x.ps.length pc,.slice ca cn cc,.slice sa sn sc,.slice ka kn kc],.agg #[.int .i64 x.no,.int .i64 (x.lv:Int),.slice pb x.ps.length pd,.slice cb cn cd,.slice sb sn sd,.slice kb kn kd]] w fun en w'=>en=.returned (.bool true)/\w.grownBy w' none:=by
 have H1:=hZq h1;have H2:=hZq h2;have L4:=hZq l4;have HC:=hZq hc;have HS:=hZq hs;have HK:=hZq hk;have l5:cn<=9223372036854775807:=by rw [List.length_map] at hc;omega
 clear h1 h2 l4 hc hs hk;obtain ⟨pn,hpn⟩:∃ pn,x.ps.length=pn:=⟨_,rfl⟩;have HPN:=hZq hpn;obtain ⟨no,hno⟩:∃ no,x.no=no:=⟨_,rfl⟩;obtain ⟨lv,hlv⟩:∃ lv:Int,(x.lv:Int)=lv:=⟨_,rfl⟩;rw [hpn] at l1;rw [hpn,hno,hlv];clear hpn hno hlv;have ga:=World.grownBy_alloc w (.cells #[.int .i64 no,.int .i64 lv,.slice pa pn pc,.slice ca cn cc,.slice sa sn sc,.slice ka kn kc] 54) none;have gb:=World.grownBy_alloc (w.alloc (.cells #[.int .i64 no,.int .i64 lv,.slice pa pn pc,.slice ca cn cc,.slice sa sn sc,.slice ka kn kc] 54)) (.cells #[.int .i64 no,.int .i64 lv,.slice pb pn pd,.slice cb cn cd,.slice sb sn sd,.slice kb kn kd] 54) none;have X1:=hZq (heap_kept (heap_at0 w #[.int .i64 no,.int .i64 lv,.slice pa pn pc,.slice ca cn cc,.slice sa sn sc,.slice ka kn kc] 54) gb);have Y1:=hZq (heap_at0 (w.alloc (.cells #[.int .i64 no,.int .i64 lv,.slice pa pn pc,.slice ca cn cc,.slice sa sn sc,.slice ka kn kc] 54)) #[.int .i64 no,.int .i64 lv,.slice pb pn pd,.slice cb cn cd,.slice sb sn sd,.slice kb kn kd] 54);have hs1:(w.alloc (.cells #[.int .i64 no,.int .i64 lv,.slice pa pn pc,.slice ca cn cc,.slice sa sn sc,.slice ka kn kc] 54)).heap.size=w.heap.size+1:=by simp
 rw [hs1] at Y1;have HG:=hZq (gZq ga gb);have N1:=hZq (H1.out.kept HG.out);have N2:=hZq (H2.out.kept HG.out);clear ga gb hs1 H1 H2;go_enter Tryz.func30,Tryz.ntmps30;go_upto_region 1 with fail
 generalize (w.alloc (.cells #[.int .i64 no,.int .i64 lv,.slice pa pn pc,.slice ca cn cc,.slice sa sn sc,.slice ka kn kc] 54)).alloc (.cells #[.int .i64 no,.int .i64 lv,.slice pb pn pd,.slice cb cn cd,.slice sb sn sd,.slice kb kn kd] 54)=w1 at *;obtain ⟨B,hB⟩:∃ B,w.heap.size=B:=⟨_,rfl⟩;rw [hB] at X1 Y1 ⊢;clear hB;have x2:=cell_heap (i:=2) X1.out rfl;have y2:=cell_heap (i:=2) Y1.out rfl;have SP:=hZq (samePairs11 pa pb pn pc pd x.ps w1 (by have:=N1.out.p;rw [HPN.out] at this;exact this) (by have:=N2.out.p;rw [HPN.out] at this;exact this) l1)
 go_wp2_with fail
 refine SP.out.mono ?_;rintro en w2 ⟨rfl,g2⟩;have G2:=hZq g2;have X2:=hZq (heap_kept X1.out g2);have Y2:=hZq (heap_kept Y1.out g2);clear g2 x2 y2;have x0:=cell_heap (i:=0) X2.out rfl;have x1:=cell_heap (i:=1) X2.out rfl;have x2:=cell_heap (i:=2) X2.out rfl;have x3:=cell_heap (i:=3) X2.out rfl;have x4:=cell_heap (i:=4) X2.out rfl;have x5:=cell_heap (i:=5) X2.out rfl;have y0:=cell_heap (i:=0) Y2.out rfl;have y1:=cell_heap (i:=1) Y2.out rfl;have y2:=cell_heap (i:=2) Y2.out rfl;have y3:=cell_heap (i:=3) Y2.out rfl;have y4:=cell_heap (i:=4) Y2.out rfl;have y5:=cell_heap (i:=5) Y2.out rfl
 have SC:=hZq (sameChains10 (.int .i64 no) (.int .i64 lv) (.slice pa pn pc) (.slice sa sn sc) (.slice ka kn kc) (.int .i64 no) (.int .i64 lv) (.slice pb pn pd) (.slice sb sn sd) (.slice kb kn kd) ca cb cn cc cd (x.ps.map PrT.chain) w2 (N1.out.c.kept G2.out) (N2.out.c.kept G2.out) HC.out l5 (fun s hs=>by
  obtain ⟨p,hp,rfl⟩:=List.mem_map.1 hs;exact L4.out p hp))
 go_wp2_with fail
 refine SC.out.mono ?_;rintro en w3 ⟨rfl,g3⟩;have G3:=hZq (gZq G2.out g3);clear g3 x0 x1 x2 x3 x4 x5 y0 y1 y2 y3 y4 y5;have X3:=hZq (heap_kept X1.out G3.out);have Y3:=hZq (heap_kept Y1.out G3.out);have x4:=cell_heap (i:=4) X3.out rfl;have y4:=cell_heap (i:=4) Y3.out rfl;have SL:=hZq (sameLists10 sa sb sn sc sd x.ss w3 (N1.out.s.kept G3.out) (N2.out.s.kept G3.out) HS.out (by omega))
 go_wp2_with fail
 refine SL.out.mono ?_;rintro en w4 ⟨rfl,q4⟩;have G4:=hZq (gZq G3.out (q4.grown none));clear q4 x4 y4;have X4:=hZq (heap_kept X1.out G4.out);have Y4:=hZq (heap_kept Y1.out G4.out);have x5:=cell_heap (i:=5) X4.out rfl;have y5:=cell_heap (i:=5) Y4.out rfl;have SK:=hZq (sameInts10 ka kb kn kc kd (x.ks.map fun (k:Nat)=>(k:Int)) w4 (N1.out.k.kept G4.out) (N2.out.k.kept G4.out) HK.out (by omega))
 go_wp2_with fail
 refine SK.out.mono ?_;rintro en w5 ⟨rfl,q5⟩;have G5:=hZq (gZq G4.out (q5.grown none));clear q5 x5 y5;have X5:=hZq (heap_kept X1.out G5.out);have Y5:=hZq (heap_kept Y1.out G5.out);have x0:=cell_heap (i:=0) X5.out rfl;have y0:=cell_heap (i:=0) Y5.out rfl;have x1:=cell_heap (i:=1) X5.out rfl;have y1:=cell_heap (i:=1) Y5.out rfl;have g0:(no==no)=true:=by simp
 have g1:(lv==lv)=true:=by simp
 go_wp2;go_ret;exact ⟨rfl,gZq HG.out G5.out⟩
end Go.Proofs.YtepcgckapoljpaaGreat
