import Derived.Test.YteaahinjcfjngaaGreatQ20
import Derived.Maps.AppendAt
import Derived.Deep.RegionHeld3
import Derived.Deep.CutBlock
import Derived.Deep.DeepCutAuto
import Derived.Deep.CutRange
import Derived.Deep.QuietTactic
set_option maxRecDepth 100000
set_option maxHeartbeats 16000000
namespace Go.Proofs.YteaahinjcfjngaaGreat
open Go.RowKit
theorem wp_thenT {P:Program}{s:Code}{Q:Exit->Act->World->Prop}{a:Act}{w:World}(h:s.wp P (Exit.then (fun a w=>Q .normal a w) Q) a w):s.wp P Q a w:=by
 refine wp_mono h ?_;intro e a' w' hq;cases e with
 | normal=>exact hq
 | exit id=>exact hq
 | goto l=>exact hq
 | ret=>exact hq
 | panic ch=>exact hq
 | outgrown=>exact hq
theorem append_at10 {P:Program}{w:World}{ops:Array Oper}{rest:List Oper}{o:Oper}{a:Act}{Q:Exit->Act->World->Prop}(hgd:o.guard=none)(s x:Operand)(t:TypeId)
  (ho:o.op=.call { callee:=.builtin .append,args:=#[s,x],argTypes:=#[t,t] })
  (base:Nat) (e:TypeId) (i:TypeInfo) (z:Value) (size bytes:Nat) (ht:P.underlying t=some (.slice e)) (hi:P.info? e=some i) (hz:i.zero=some z) (hsize:i.size=size) (hby:i.bytes=bytes) (hzs:z.cells.size=size) (hsz:0<size)
  (v:Value) (n:Nat) (xs:List Value) (hs:a.eval s=v) (hown:w.ownsRow base e size v n xs)
  (ad:Addr) (m c:Nat) (news:List Value) (hx:a.eval x=.slice (some ad) m c) (hl:news.length=m*size) (hnews:∀ j u,news[j]?=some u->w.cell? (ad.add j)=some u) (h1:∀ u∈news,u.oneCell'=true)
  (h63:n+m<=maxLen) (hbytes:(n+m)*bytes<=140737488355328) (hbase:base<=w.heap.size)
  (h:∀ v' w',w'.ownsRow base e size v' (n+m) (xs++news)->w.grownBy w' v.ownBlock->(∀ g,v'.ownBlock=some g->v.ownBlock=some g∨w.heap.size<=g)->wpList P ops Q rest (a.put o.dst v') w'):wpList P ops Q (o::rest) a w:=by
 refine wpList_plain hgd fun K hK=>?_
 obtain ⟨v',w',hrun,r1,r2,_,r4⟩:=run_append_own_at (P:=P) w base t o.type e i z size bytes ht hi hz hsize hby hzs hsz v n xs hown ad m c news hl hnews h1 h63 hbytes hbase;unfold Oper.wp;simp [execOp,ho,resolve,invoke,builtin,hs,hx,hrun,Result.andThen];refine hK _ _ (h v' w' r1 r2 (fun g hg=>?_));rcases r4 with r4 | r4
 ·exact .inl (by rw [<- r4];exact hg)
 ·rw [r4] at hg
  exact .inr (by rw [<- Option.some.inj hg];exact Nat.le_refl _)
theorem ltell0 {y0 y1 y2 y3 y4 y6 y7 y8 y9 y10 y11 y12 y13 y14 y15 y16 y17 y18 y19 y20 y21 y22 y23 y24 y25 y26 y27 y31 y32 y33 y34 y35 y36 y37 y38 y39 y40 y41 y42 y43 y44 y45 y46 y47 y48 y49 y50 y51 y52 y53 y54 y55 y56 y57:Value}{w0 wc:World}{N P C m c:Nat}{a:Option Addr}{no:Int}{ps:List PrT}(HT:Hid (TlL w0 wc N P C m no ps 0 0 [] []))(HP:Hid (PsT w0 a m c ps))(hps:∀ p∈ps,p.key.length<=255/\p.val.length<=262144/\p.chain.length<=100000)(hm9:m<=100000){J:Act->World->Prop}{Q':Exit->Act->World->Prop}
  (hK:∀ (v6 v7 v30 v31 v32 v33 v34 v35 v36 v37 v38 v39 v40 v41 v42 v43 v44 v45 v46 v47 v48 v49 v50 v51 v52 v53:Value) (wx:World),(∃ es cs,TlL w0 wx N P C m no ps m m es cs)->J ⟨#[y0,y1,y2,y3,y4,.pointer (some ⟨N,0,none⟩),v6,v7,y8,y9,y10,y11,y12,y13,y14,y15,y16,y17,y18,y19,y20,y21,y22,y23,y24,y25,y26,y27,.slice a m c,.int .i64 (m:Int),v30,v31,v32,v33,v34,v35,v36,v37,v38,v39,v40,v41,v42,v43,v44,v45,v46,v47,v48,v49,v50,v51,v52,v53,y54,y55,y56,y57],[]⟩ wx) :
  Code.wp Tryz.prog (Go.Code.block 0 ((Go.Code.region 3 #[⟨some 31,.binOp .lss 3 (.tmp 30) (.tmp 29) 3,0, "leaf.go:102",#[],none⟩] false).seq ((Go.Code.cond (Go.Operand.tmp 31) Go.Code.skip (Go.Code.exit 0)).seq ((Go.Code.block 1 ((Go.Code.region 4 #[⟨some 32,.move (.tmp 30),3, "leaf.go:102",#[],none⟩,⟨some 33,.indexAddr 107 (.tmp 28) (.tmp 30),0, "leaf.go:102",#[],none⟩,⟨some 34,.load 106 (.tmp 33),106, "leaf.go:102",#[⟨1,.data⟩],none⟩,⟨some 7,.alloc 106,0, "leaf.go:102",#[],none⟩,⟨some 6,.assign (.tmp 32),3, "leaf.go:102",#[⟨0,.data⟩,⟨0,.phase⟩,⟨1,.phase⟩,⟨2,.phase⟩,⟨3,.phase⟩],none⟩,⟨none,.store 106 (.tmp 7) (.tmp 34),0, "leaf.go:102",#[⟨3,.data⟩,⟨2,.data⟩,⟨4,.chain⟩,⟨0,.phase⟩,⟨1,.phase⟩,⟨2,.phase⟩,⟨3,.phase⟩,⟨4,.phase⟩],none⟩] false).seq ((Go.Code.region 5 #[⟨some 35,.fieldAddr 61 (.tmp 5) 2,0, "leaf.go:103",#[],none⟩,⟨some 36,.load 57 (.tmp 35),57, "leaf.go:103",#[⟨0,.data⟩],none⟩,⟨some 37,.move (.tmp 6),3, "leaf.go:103",#[],none⟩,⟨some 38,.fieldAddr 106 (.tmp 7) 0,0, "leaf.go:103",#[],none⟩,⟨some 39,.load 62 (.tmp 38),62, "leaf.go:103",#[⟨3,.data⟩],none⟩,⟨some 40,.call { callee:=.value (.func 56),args:=#[.tmp 39],argTypes:=#[62] },62, "leaf.go:103",#[⟨4,.data⟩],none⟩,⟨some 41,.fieldAddr 106 (.tmp 7) 1,0, "leaf.go:103",#[],none⟩,⟨some 42,.load 62 (.tmp 41),62, "leaf.go:103",#[⟨6,.data⟩],none⟩,⟨some 43,.call { callee:=.value (.func 56),args:=#[.tmp 42],argTypes:=#[62] },62, "leaf.go:103",#[⟨7,.data⟩,⟨5,.chain⟩],none⟩,⟨some 44,.build 64 #[(0,.tmp 40),(1,.tmp 43)],64, "leaf.go:103",#[⟨5,.data⟩,⟨8,.data⟩],none⟩,⟨some 45,.indexAddr 57 (.tmp 36) (.tmp 37),0, "leaf.go:103",#[⟨1,.data⟩,⟨2,.data⟩,⟨0,.phase⟩,⟨1,.phase⟩,⟨2,.phase⟩,⟨3,.phase⟩,⟨4,.phase⟩,⟨5,.phase⟩,⟨6,.phase⟩,⟨7,.phase⟩,⟨8,.phase⟩,⟨9,.phase⟩],none⟩,⟨none,.store 64 (.tmp 45) (.tmp 44),0, "leaf.go:103",#[⟨10,.data⟩,⟨9,.data⟩,⟨8,.chain⟩,⟨0,.phase⟩,⟨1,.phase⟩,⟨2,.phase⟩,⟨3,.phase⟩,⟨4,.phase⟩,⟨5,.phase⟩,⟨6,.phase⟩,⟨7,.phase⟩,⟨8,.phase⟩,⟨9,.phase⟩],none⟩] true).seq (Go.Code.region 6 #[⟨some 46,.fieldAddr 61 (.tmp 5) 3,0, "leaf.go:104",#[],none⟩,⟨some 47,.load 58 (.tmp 46),58, "leaf.go:104",#[⟨0,.data⟩],none⟩,⟨some 48,.move (.tmp 6),3, "leaf.go:104",#[],none⟩,⟨some 49,.fieldAddr 106 (.tmp 7) 2,0, "leaf.go:104",#[],none⟩,⟨some 50,.load 30 (.tmp 49),30, "leaf.go:104",#[⟨3,.data⟩],none⟩,⟨some 51,.call { callee:=.value (.func 132),args:=#[.tmp 50],argTypes:=#[30] },30, "leaf.go:104",#[⟨4,.data⟩],none⟩,⟨some 52,.indexAddr 58 (.tmp 47) (.tmp 48),0, "leaf.go:104",#[⟨1,.data⟩,⟨2,.data⟩,⟨0,.phase⟩,⟨1,.phase⟩,⟨2,.phase⟩,⟨3,.phase⟩,⟨4,.phase⟩,⟨5,.phase⟩],none⟩,⟨none,.store 30 (.tmp 52) (.tmp 51),0, "leaf.go:104",#[⟨6,.data⟩,⟨5,.data⟩,⟨5,.chain⟩,⟨0,.phase⟩,⟨1,.phase⟩,⟨2,.phase⟩,⟨3,.phase⟩,⟨4,.phase⟩,⟨5,.phase⟩],none⟩] true)))).seq (Go.Code.region 7 #[⟨some 53,.binOp .add 3 (.tmp 30) (.const (.int .i64 1)) 3,3, "leaf.go:102",#[],none⟩,⟨some 30,.move (.tmp 53),3, "leaf.go:102",#[⟨0,.data⟩],none⟩] false)))).loop) (Exit.then J Q') ⟨#[y0,y1,y2,y3,y4,.pointer (some ⟨N,0,none⟩),y6,y7,y8,y9,y10,y11,y12,y13,y14,y15,y16,y17,y18,y19,y20,y21,y22,y23,y24,y25,y26,y27,.slice a m c,.int .i64 (m:Int),.int .i64 0,y31,y32,y33,y34,y35,y36,y37,y38,y39,y40,y41,y42,y43,y44,y45,y46,y47,y48,y49,y50,y51,y52,y53,y54,y55,y56,y57],[]⟩ wc:=by
 have HK:=hZq hK;clear hK
 dsimp only
 go_wp2_with fail
 go_loopw [30] (fun si wr=>∃ (k:Nat) (es cs:List (List Value)),k<=m/\si=.int .i64 (k:Nat)/\TlL w0 wr N P C m no ps k k es cs) (fun si _=>m - (intOf si).toNat)
 case atStart=>exact ⟨0,[],[],Nat.zero_le _,rfl,HT.out⟩
 case round =>
  obtain ⟨k,es,cs,hk,rfl,ht⟩:=hrel;have HT1:=hZq ht;clear ht HT
  by_cases hlt:k<m
  ·have i1:(k:Int)<(m:Int):=by omega
   have i0:(0:Int)<=(k:Int):=by omega
   have hln:ps.length=m:=HP.out.len;have hx:ps[k]?=some ps[k]:=List.getElem?_eq_getElem (by omega)
   revert hx
   generalize ps[k]'(by omega)=p;intro hx;obtain ⟨b,off,ka,kn,kc,va,vn,vc,ca,cn,cc,rfl,c0,c1,c2,hp⟩:=(HP.out.kept (FrT.of HT1.out.b.gr)).pair hx;have HI:=hZq hp;have HX:=hZq hx;have hb9:=hps p (List.mem_of_getElem? hx);have hkl:=hp.k.b.len;have hvl:=hp.v.b.len;have hcl:p.chain.length=cn:=by have:=hp.c.len;simpa using this
   clear hp hx;go_upto_region 5 with fail
   have ga:=World.grownBy_alloc wr (.cells #[.slice ka kn kc,.slice va vn vc,.slice ca cn cc] 106) none;have HT2:=hZq (HT1.out.keptN ga);have HI2:=hZq (HI.out.kept (FrT.of ga));have hrow:=heap_alloc_new wr (.cells #[.slice ka kn kc,.slice va vn vc,.slice ca cn cc] 106);clear ga HT1 HI c0 c1 c2;generalize wr.alloc (.cells #[.slice ka kn kc,.slice va vn vc,.slice ca cn cc] 106)=W2 at *;generalize wr.heap.size=D at *;have e0:W2.cell? ⟨D,0,none⟩=some (.slice ka kn kc):=cell_of_row W2 D 0 _ _ (0,0) hrow;have e1:W2.cell? ⟨D,1,none⟩=some (.slice va vn vc):=cell_of_row W2 D 1 _ _ (0,0) hrow;have e2:W2.cell? ⟨D,2,none⟩=some (.slice ca cn cc):=cell_of_row W2 D 2 _ _ (0,0) hrow;have HD:Hid (TgT W2 D 106):=⟨_,_,hrow⟩;clear hrow;go_cut [] from 35 to 45 (fun wx=>∃ e,TlL w0 wx N P C m no ps (k+1) k (es++[e]) cs/\W2.grownBy wx (some P))
   case first =>
    rename_i J K' hJ hM;refine ltell5 HT2 hlt HX.out HI2 e0 e1 (by omega) (by omega) HD.out ?_;intro _ _ _ _ _ _ _ _ _ _ _ wx hrl;refine hM _ _ ?_;go_meet;exact hrl
   case rest =>
    obtain ⟨e,ht3,hg3⟩:=hcut;have HT3:=hZq ht3;have nD:D≠P:=tg_ne HD.out HT2.out.fp.tg (by decide);have tP:=HT2.out.fp.tg;have d2:=hg3.cell e2 (by simpa using nD)
    have HD3:Hid (TgT wc D 106):=by
     obtain ⟨cur,z,q⟩:=HD.out;exact ⟨cur,z,(hg3.block D (Array.getElem?_eq_some_iff.1 q).1 (by simpa using nD)).trans q⟩
    have HC3:Hid (NmT wc ca cn cc p.chain):=EsT.other HI2.out.c hg3 tP (by decide);clear ht3 hg3 HT2 HI2 e0 e1 e2 HD nD tP;go_upto_region 6 with fail
    refine wp_thenT ?_;refine ltell6 HT3 hlt HX.out HC3 d2 (by omega) HD3.out ?_;intro _ _ _ _ _ _ _ wx hrl;obtain ⟨e',ht4,_⟩:=hrl;have HT4:=hZq ht4;clear ht4 HT3
    dsimp only
    go_wp2_with fail
    go_roundw
    case rel=>exact ⟨k+1,_,_,by omega,by go_num,HT4.out⟩
    case measure=>simp [intOf];omega
  ·have hin:k=m:=by omega
   subst hin
   go_wp2_with fail
   refine HK.out _ _ _ _ _ _ _ _ _ _ _ _ _ _ _ _ _ _ _ _ _ _ _ _ _ _ _ ?_;exact ⟨_,_,HT1.out⟩
theorem TlL.node {w0 w:World}{N P C m:Nat}{no:Int}{ps:List PrT}{es cs:List (List Value)}(h:TlL w0 w N P C m no ps m m es cs)(hm:ps.length=m)(hb:m<=100000):NoM w w0.heap.size w0.heap.size w.heap.size [.int .i64 no,.int .i64 0,.slice (some ⟨P,0,none⟩) m m,.slice (some ⟨C,0,none⟩) m m,.slice none 0 0,.slice none 0 0] ⟨no,0,ps,[],[]⟩:=by
 have ht:ps.take m=ps:=List.take_of_length_le (by omega);have hpv:=h.pv;have hic:=h.ic;rw [ht] at hpv hic;obtain ⟨cur,r1,r2,r3⟩:=h.fp.row;refine ⟨_,es,_,_,_,_,_,_,_,_,_,rfl,?_,fun g e=>?_,hpv,⟨cs,h.fc.es h.cl (by omega),hic⟩,SlT.nil _ _ _ _,EsT.nul _ _ _,fun ad h=>(by cases h)⟩
 ·have hel:es.flatten.length=m*2:=by rw [flat_len h.fp.wf.sz,h.el]
  refine ⟨by show es.flatten.length=ps.length*2;omega,.inr ⟨P,m,cur,by rw [hm],h.b.p0,r1,by show ps.length<=m;omega,by unfold maxLen;omega,by omega,?_⟩⟩;apply List.ext_getElem?;intro j
  by_cases hj:j<m*2
  ·rw [List.getElem?_take,if_pos (by show j<ps.length*2;omega)]
   obtain ⟨u,hu⟩:∃ u,es.flatten[j]?=some u:=⟨_,List.getElem?_eq_getElem (by omega)⟩;rw [hu];obtain ⟨i,f,e,q1,q2,q3⟩:=flat_in h.fp.wf.sz hu;rw [Array.getElem?_toList,q3];exact r3 i e q1 f u q2
  ·rw [List.getElem?_eq_none (by rw [List.length_take];show min (ps.length*2) _<=j;omega),List.getElem?_eq_none (by omega)]
 ·have e':P=g:=Option.some.inj e
  subst e';exact h.fp.lt
theorem ltell_any (b:Nat)(x:LfT)(v0:Value)(k0 base:Nat)(xs0:List Value)(w:World)(hx:NodeT 0 w (.iface 133 (.pointer (some ⟨b,0,none⟩))) x)(hn:x.ps.length<=100000)(hps:∀ p∈x.ps,p.key.length<=255/\p.val.length<=262144/\p.chain.length<=100000)(ho:w.ownsRow base 61 6 v0 k0 xs0)(hk0:k0<=100000000)(hbase:base<=w.heap.size) :
  Calls Tryz.prog 175 #[.pointer (some ⟨b,0,none⟩),v0] w fun en w'=>∃ v' e hi,en=.returned v'/\w'.ownsRow base 61 6 v' (k0+1) (xs0++e)/\NoM w' w.heap.size w.heap.size hi e ⟨x.no,0,x.ps,[],[]⟩/\hi<=w'.heap.size/\w.grownBy w' v0.ownBlock/\∀ g,v'.ownBlock=some g->v0.ownBlock=some g∨w.heap.size<=g:=by
 obtain ⟨ia,hia,ha0,ha1,ha2⟩:=info_parts info_anode10;obtain ⟨b',a,m,c,e,hb,hp⟩:=hx;simp only [Value.iface.injEq,Value.pointer.injEq,Option.some.injEq,Addr.mk.injEq,true_and,and_true] at e;subst e;have k1:=cell_heap (i:=0) hb rfl;have k2:=cell_heap (i:=1) hb rfl;have hl:x.ps.length=m:=hp.len;have HP:=hZq hp;have HB:=hZq hb;have HO:=hZq ho;have HPS:=hZq hps;clear hp ho hps hb;go_enter Tryz.func175,Tryz.ntmps175;go_upto_region 1 with fail
 go_cut [5] from 8 to 24 (fun s5 wx=>∃ N P C,s5=.pointer (some ⟨N,0,none⟩)/\TlL w wx N P C m x.no x.ps 0 0 [] [])
 case first =>
  rename_i J K' hJ hM;refine ltell1 (ps:=x.ps) k1 k2 (by omega) ?_;intro _ _ _ _ _ _ _ _ _ _ _ _ _ _ _ _ _ _ wx hrl;refine hM _ _ ?_;go_meet;exact hrl
 case rest =>
  obtain ⟨N,P,C,rfl,ht⟩:=hcut;have HT:=hZq ht;have k3:=ht.b.gr.cell k2 (by simp);clear ht k1 k2
  go_upto_block 0 with fail
  go_cut [6,7,30] from 31 to 53 (fun _ _ _ wx=>∃ es cs,TlL w wx N P C m x.no x.ps m m es cs)
  case first =>
   rename_i J K' hJ hM;refine ltell0 HT HP HPS.out (by omega) ?_;intro _ _ _ _ _ _ _ _ _ _ _ _ _ _ _ _ _ _ _ _ _ _ _ _ _ _ wx hrl;refine hM _ _ ?_;go_meet;exact hrl
  case rest =>
   obtain ⟨es,cs,ht2⟩:=hcut;have HT2:=hZq ht2;have HN:=hZq (ht2.node hl (by omega));have q0:=ht2.b.cell 0;have q1:=ht2.b.cell 1;have q2:=ht2.b.cell 2;have q3:=ht2.b.cell 3;have q4:=ht2.b.cell 4;have q5:=ht2.b.cell 5;simp only [nbx] at q0 q1 q2 q3 q4 q5;have g0:wc.cell? ⟨N,0,none⟩=some (.int .i64 x.no):=q0;have g1:wc.cell? ⟨N,1,none⟩=some (.int .i64 0):=q1;have g2:wc.cell? ⟨N,2,none⟩=some (.slice (some ⟨P,0,none⟩) m m):=q2;have g3:wc.cell? ⟨N,3,none⟩=some (.slice (some ⟨C,0,none⟩) m m):=q3;have g4:wc.cell? ⟨N,4,none⟩=some (.slice none 0 0):=q4;have g5:wc.cell? ⟨N,5,none⟩=some (.slice none 0 0):=q5;have HO2:=hZq (HO.out.kept ht2.b.gr (Classical.em _));have hsz:=ht2.b.gr.size;clear ht2 q0 q1 q2 q3 q4 q5 k3 HT
   go_wp2_with (at_builtin;refine append_at10 rfl _ _ 22 rfl base 61 ia (.agg #[.int .i64 0,.int .i64 0,.slice none 0 0,.slice none 0 0,.slice none 0 0,.slice none 0 0]) 6 112 Tryz.underlying22 hia ha0 ha1 ha2 rfl (by decide) _ k0 xs0 rfl (HO2.out.alloc _) ⟨wc.heap.size,0,none⟩ 1 1 [.int .i64 x.no,.int .i64 0,.slice (some ⟨P,0,none⟩) m m,.slice (some ⟨C,0,none⟩) m m,.slice none 0 0,.slice none 0 0] rfl rfl ?c1 ?c2 ?c3 ?c4 ?c5 ?_)
   case c1 =>
    intro j u hu;rw [Addr.add_lit,cell_of_row _ wc.heap.size _ _ _ (0,0) (heap_alloc_new wc _),Nat.zero_add];simpa using hu
   case c2=>simp [Value.oneCell']
   case c3=>unfold maxLen;omega
   case c4=>omega
   case c5=>simp;omega
   intro v' w10 ho10 hg10 hl10;have HO10:=hZq ho10;have HF:Hid (FrT wc w10):=(FrT.of (World.grownBy_alloc wc (.cells #[.int .i64 x.no,.int .i64 0,.slice (some ⟨P,0,none⟩) m m,.slice (some ⟨C,0,none⟩) m m,.slice none 0 0,.slice none 0 0] 61) none)).trans (FrT.row hg10 (fun g e=>⟨_,(own_lt10 (HO2.out.alloc _) e).2.2,by decide⟩));have HG:Hid (w.grownBy w10 v0.ownBlock):=(grown_any (HT2.out.b.gr)).andThen ((grown_any (World.grownBy_alloc wc (.cells #[.int .i64 x.no,.int .i64 0,.slice (some ⟨P,0,none⟩) m m,.slice (some ⟨C,0,none⟩) m m,.slice none 0 0,.slice none 0 0] 61) none)).andThen hg10 (fun j e=>.inr e)) (fun j e=>.inr e);have hs10:wc.heap.size<=w10.heap.size:=by have:=hg10.size;simp at this;omega
   have HL10:Hid (∀ g,v'.ownBlock=some g->v0.ownBlock=some g∨w.heap.size<=g):=fun g e=>(hl10 g e).imp id (fun q=>by have hz9:=hsz;omega)
   clear ho10 hg10 hl10
   go_wp2_with fail
   go_ret;exact ⟨v',_,wc.heap.size,rfl,HO10.out,HN.out.kept HF.out,hs10,HG.out,HL10.out⟩
end Go.Proofs.YteaahinjcfjngaaGreat
