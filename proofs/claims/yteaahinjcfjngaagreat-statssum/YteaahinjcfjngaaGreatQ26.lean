import Derived.Test.YteaahinjcfjngaaGreatQ24
import Derived.Test.YteaahinjcfjngaaGreatQ25
import Derived.Maps.AppendAt
import Derived.Deep.RegionHeld3
import Derived.Deep.CutBlock
import Derived.Deep.DeepCutAuto
import Derived.Deep.CutRange
import Derived.Deep.QuietTactic
set_option maxRecDepth 100000
set_option maxHeartbeats 8000000
namespace Go.Proofs.YteaahinjcfjngaaGreat
open Go.RowKit
theorem step_append_at10 {P:Program}{ops:Array Oper}{o:Oper}{a:Act}{w:World}{K:Act->World->Prop}{Q:Exit->Act->World->Prop}{E:Prop}(hgd:o.guard=none)(s x:Operand)(t:TypeId)
  (ho:o.op=.call { callee:=.builtin .append,args:=#[s,x],argTypes:=#[t,t] })
  (base:Nat) (e:TypeId) (i:TypeInfo) (z:Value) (size bytes:Nat) (ht:P.underlying t=some (.slice e)) (hi:P.info? e=some i) (hz:i.zero=some z) (hsize:i.size=size) (hby:i.bytes=bytes) (hzs:z.cells.size=size) (hsz:0<size)
  (v:Value) (n:Nat) (xs:List Value) (hs:a.eval s=v) (hown:w.ownsRow base e size v n xs)
  (ad:Addr) (m c:Nat) (news:List Value) (hx:a.eval x=.slice (some ad) m c) (hl:news.length=m*size) (hnews:∀ j u,news[j]?=some u->w.cell? (ad.add j)=some u) (h1:∀ u∈news,u.oneCell'=true)
  (h63:n+m<=maxLen) (hbytes:(n+m)*bytes<=140737488355328) (hbase:base<=w.heap.size)
  (h:∀ v' w',w'.ownsRow base e size v' (n+m) (xs++news)->w.grownBy w' v.ownBlock->(∀ g,v'.ownBlock=some g->v.ownBlock=some g∨w.heap.size<=g)->K (a.put o.dst v') w') :
  if Region.wanted o (yielded ops a.tmps)=true then Oper.wp P o a w K Q else E:=by
 have hw:Region.wanted o (yielded ops a.tmps)=true:=by simp [Region.wanted,hgd]
 rw [if_pos hw];obtain ⟨v',w',hrun,r1,r2,_,r4⟩:=run_append_own_at (P:=P) w base t o.type e i z size bytes ht hi hz hsize hby hzs hsz v n xs hown ad m c news hl hnews h1 h63 hbytes hbase;unfold Oper.wp;simp [execOp,ho,resolve,invoke,builtin,hs,hx,hrun,Result.andThen];refine h v' w' r1 r2 (fun g hg=>?_);rcases r4 with r4 | r4
 ·exact .inl (by rw [<- r4];exact hg)
 ·rw [r4] at hg
  exact .inr (by rw [<- Option.some.inj hg];exact Nat.le_refl _)
theorem BtyT.other {w w':World}{ao:Option Addr}{n c d:Nat}{s:List Int}{u:TypeId}(hb:BtyT w ao n c s)(hg:w.grownBy w' (some d))(hd:TgT w d u)(hne:5≠u):BtyT w' ao n c s:=by
 refine ⟨⟨hb.b.len,hb.b.nil,fun ad had j u hu=>?_⟩,fun ad h1 h2=>?_,hb.l1,hb.l2⟩
 ·have hj:j<s.length:=by have:=(List.getElem?_eq_some_iff.1 hu).1;simpa using this
  have hl:=hb.b.len;have h1:=hb.b.cells ad had j u hu;have ht:=hb.t ad had (by omega);have hbk:(ad.add j).block=ad.block:=by unfold Addr.add;split <;> rfl
  have hs:w'.heap[(ad.add j).block]?=w.heap[(ad.add j).block]?:=by
   rw [hbk];obtain ⟨_,_,q⟩:=id ht;exact hg.block _ (Array.getElem?_eq_some_iff.1 q).1 (fun e=>tg_ne ht hd hne (Option.some.inj e))
  exact (World.cell?_of_block hs).trans h1
 ·have ht:=hb.t ad h1 h2
  obtain ⟨cur,z,q⟩:=id ht;exact ⟨cur,z,(hg.block _ (Array.getElem?_eq_some_iff.1 q).1 (fun e=>tg_ne ht hd hne (Option.some.inj e))).trans q⟩
theorem info_bytes10:(Tryz.prog.info? 62).map (fun i=>(i.zero,i.size,i.bytes))=some (some (.slice none 0 0),1,24):=by kernel_rfl
theorem btell {n:Nat}(hR:RtC n)(hLv:BlC n):TelC (n+1) 188:=by
 obtain ⟨ia,hia,ha0,ha1,ha2⟩:=info_parts info_anode10;obtain ⟨iz,hiz,hz0,hz1,hz2⟩:=info_parts info_bytes10;intro x b v n0 xs0 base w hx ox hc ht hb hs hn;have HLV:=hZq (fun w' (hg:FrT w w')=>hLv b x w' (NodeT.kept (n+1) hx hg) ox hn);obtain ⟨b',a,m,c,sa,sm,sc,e,hbx,hns,hss⟩:=hx;simp only [tyN,Value.iface.injEq,Value.pointer.injEq,Option.some.injEq,Addr.mk.injEq,true_and,and_true] at e;subst e;have fw:=seps_few ox.2.2.2.1;have ln3:(BnT.row (T:=NdT n) x).ns.length=m:=hns.len;have sl3:=ox.2.2.1.len;have p3:=List.length_pos_iff.2 ox.1;have hsm:(BnT.row (T:=NdT n) x).ss.length=sm:=hss.len;have hvs:=ox.2.2.2.2;have hsz0:sizeT (n+1) x=sumT (sizeT n) (BnT.row (T:=NdT n) x).ns+1:=rfl;have RC:=hZq (hR (BnT.row (T:=NdT n) x).ns a m c sa sm sc v n0 xs0 base w hns ox.2.1 (fun y hy=>hc.kid hy) (by omega) ht hb (by omega) (by omega));have hlt9:(tellL (tellT n) n0 (BnT.row (T:=NdT n) x).ns).length=sumT (sizeT n) (BnT.row (T:=NdT n) x).ns:=tellL_len (fun k x=>tell_len n k x) _ _;have hNL:n0+(tellL (tellT n) n0 (BnT.row (T:=NdT n) x).ns).length<=10000000:=by omega
 have HTT:Hid (tellT (n+1) n0 x=tellL (tellT n) n0 (BnT.row (T:=NdT n) x).ns++[⟨BnT.no (T:=NdT n) x,n+1,[],(BnT.row (T:=NdT n) x).ss,placesL (tellT n) n0 (BnT.row (T:=NdT n) x).ns⟩]):=rfl;have HTW:=hZq ht;have HB:=hZq hb;have HBX:=hZq hbx;have HSS:=hZq hss;have HVS:=hZq hvs;have k1:=cell_heap (i:=1) hbx rfl;have k2:=cell_heap (i:=2) hbx rfl;clear hns hss ox hc ht hb hbx hvs sl3 p3 hsz0 hlt9;generalize tellL (tellT n) n0 (BnT.row (T:=NdT n) x).ns=TL at *;generalize placesL (tellT n) n0 (BnT.row (T:=NdT n) x).ns=PL at *;generalize (BnT.row (T:=NdT n) x).ss=ss at *;generalize BnT.no (T:=NdT n) x=no at *;go_enter Tryz.func188,Tryz.ntmps188
 go_wp2_with fail
 refine RC.out.mono ?_;rintro en w1 ⟨v1,es1,P,rfl,hr1,hk1,hP⟩;obtain ⟨va1,vc1,hv1⟩:=own_shape10 hr1.own;subst hv1;have F1:=hZq (FrT.row hr1.gr (tg_node HTW.out));have R1:=hZq hr1;have K1:=hZq hk1;have hb1:=F1.out.keep b _ _ _ (by decide) HBX.out;have HB1:=hZq hb1;have HSS1:=hZq (HSS.out.kept F1.out);have c0:=cell_heap (i:=0) hb1 rfl;have c2:=cell_heap (i:=2) hb1 rfl;have hP1:=hP;clear hr1 hk1 RC HBX HSS k1 k2 hb1 hP
 go_wp2_with (at_make;refine wpList_make_full _ rfl _ _ 59 rfl w1.heap.size 62 iz (.slice none 0 0) 1 Tryz.underlying59 hiz hz0 hz1 _ _ _ _ sm rfl rfl rfl rfl ?b2 ?b3 (Nat.le_refl _) ?_)
 case b2=>rw [hz2];omega
 case b3=>unfold maxLen;omega
 intro w2 hown2 hg2;have F2:=hZq (FlT.start hown2);have G2:=hZq hg2;have d2:=hg2.cell c2 (by simp);obtain ⟨S,hS⟩:∃ S,S=w1.heap.size:=⟨_,rfl⟩;rw [<- hS] at F2 ⊢;have HS0:=hZq hS;clear hown2 hg2 hS
 go_wp2_with fail
 go_loopw [31] (fun si wr=>∃ (k:Nat) (es:List (List Value)),k<=sm/\si=.int .i64 (k:Nat)/\es.length=k/\FlT wr S sm 1 62 es/\ElyT (IbT wr) es (ss.take k)/\w1.grownBy wr none) (fun si _=>sm - (intOf si).toNat)
 case atStart=>exact ⟨0,[],Nat.zero_le _,rfl,rfl,F2.out,by rw [List.take_zero];exact ElyT.nil,G2.out⟩
 case round =>
  obtain ⟨k,es,hk,rfl,hes,hfl,hel,hg⟩:=hrel;have HF:=hZq hfl;have HE:=hZq hel;have HG:=hZq hg;clear hfl hel hg
  by_cases hlt:k<sm
  ·have i1:(k:Int)<(sm:Int):=by omega
   have i0:(0:Int)<=(k:Int):=by omega
   have hx:ss[k]?=some (ss[k]'(by omega)):=List.getElem?_eq_getElem (by omega)
   revert hx
   generalize ss[k]'(by omega)=sp;intro hx;obtain ⟨g,off,ao,sn,sd,rfl,q1,q2⟩:=(HSS1.out.kept (FrT.of HG.out)).str hx;have HX:=hZq hx;have hsl:=(HVS.out sp (List.mem_of_getElem? hx)).k2;have hsn:=q2.b.len;have CL:=hZq (clone_bty ao sn sd sp wr q2.b (by omega));clear hx q2
   go_wp2_with fail
   refine CL.out.mono ?_;rintro en w5 ⟨⟨a5,c5,rfl,hb5⟩,hg5⟩;have B5:=hZq hb5;have G5:=hZq (gZq HG.out hg5);have E5:=hZq (HE.out.mono (fun _ _ q=>q.kept (FrT.of hg5)));have FF:=HF.out.keptN hg5;have FF5:=hZq FF;obtain ⟨⟨u0,f0⟩,z0⟩:=FF.cell (j:=k) (by omega);clear hb5 hg5 CL FF q1
   go_wp2_with fail
   have hnx:=FF5.out.next (by omega) [.slice a5 sn c5] rfl (by simp [Value.oneCell'])
   rw [hes,Nat.mul_one] at hnx;have hgs:=grown_cell w5 S k (.slice a5 sn c5);have hs1:=HG.out.size;have hnx':FlT (w5.setCell ⟨S,k,none⟩ (.slice a5 sn c5)) S sm 1 62 (es++[[.slice a5 sn c5]]):=hnx
   have hel':ElyT (IbT (w5.setCell ⟨S,k,none⟩ (.slice a5 sn c5))) (es++[[.slice a5 sn c5]]) (ss.take (k+1)):=by
    rw [takeS HX.out];refine (E5.out.mono (fun e c q=>?_)).app (ElyT.one ⟨a5,sn,c5,rfl,B5.out.other hgs FF5.out.tg (by decide)⟩);obtain ⟨ao,n,c',r1,r2⟩:=q;exact ⟨ao,n,c',r1,r2.other hgs FF5.out.tg (by decide)⟩
   have hgr':w1.grownBy (w5.setCell ⟨S,k,none⟩ (.slice a5 sn c5)) none:=grown_new G5.out hgs (by have:=HS0.out;omega);have HN1:=hZq hnx';have HN2:=hZq hel';have HN3:=hZq hgr';clear hnx hnx' hel' hgr' hgs;go_roundw
   case rel=>exact ⟨k+1,_,by omega,by go_num,by simp [hes],HN1.out,HN2.out,HN3.out⟩
   case measure=>simp [intOf];omega
  ·have hin:k=sm:=by omega
   subst hin;have hta:ss.take k=ss:=List.take_of_length_le (by omega);have hel2:=HE.out;rw [hta] at hel2;have HSS2:Hid (SsT wr (some ⟨S,0,none⟩) k k ss):=⟨es,HF.out.es hes (by omega),hel2⟩;have d0:=HG.out.cell c0 (by simp);have HO2:=hZq (R1.out.own.kept HG.out (Classical.em _));have hs1:=HG.out.size;have hsR:=R1.out.gr.size;clear hel2 HE HF;have HO3:Hid (∀ V:World,wr.grownBy V none->V.ownsRow base 61 6 (.slice va1 (n0+TL.length) vc1) (n0+TL.length) (xs0++es1.flatten)):=fun V hV=>HO2.out.kept hV (Classical.em _)
   have NB:Hid (∀ d,(Value.slice va1 (n0+TL.length) vc1).ownBlock=some d->d≠b):=fun d e=>tg_ne (own_lt10 R1.out.own e).2.2 (show TgT w1 b 163 from ⟨_,_,HB1.out⟩) (by decide)
   go_upto_region 8 with fail
   go_region_held3 (fun w'=>w'.cell? ⟨b,0,none⟩=some (.int .i64 no)) (first | exact d0 | exact T5.out | exact T9.out | go_keep)
    (first
     | (go_simp;go_at_call 185;refine (HLV.out _ (F1.out.trans (FrT.of (gZq HG.out ((Qt.refl _).drew.grown none))))).mono ?_;rintro en w5 ⟨rfl,hg5⟩;have G5:=hZq (gZq ((Qt.refl wr).drew.grown none) hg5);have T5:=hZq (G5.out.cell d0 (by simp));clear hg5)
     | (refine step_append_at10 rfl (.tmp 42) (.tmp 52) 22 (by rfl) base 61 ia (.agg #[.int .i64 0,.int .i64 0,.slice none 0 0,.slice none 0 0,.slice none 0 0,.slice none 0 0]) 6 112 Tryz.underlying22 hia ha0 ha1 ha2 rfl (by decide) (.slice va1 (n0+TL.length) vc1) (n0+TL.length) (xs0++es1.flatten) (by rfl) (by exact HO3.out _ (grown_al G5.out _)) ⟨w5.heap.size,0,none⟩ 1 1 [.int .i64 no,.int .i64 ((n+1:Nat):Int),.slice none 0 0,.slice none 0 0,.slice (some ⟨S,0,none⟩) k k,.slice (some ⟨P,0,none⟩) m m] (by rfl) (by rfl) (by intro j u hu;rw [Addr.add_lit,cell_of_row _ w5.heap.size _ _ _ (0,0) (heap_alloc_new w5 _),Nat.zero_add];simpa using hu) (by simp [Value.oneCell']) (by unfold maxLen;omega) (by omega) (by have:=G5.out.size;have:=HB.out;simp;omega) ?_;intro v9 w9 ho9 hg9 ha9;have O9:=hZq ho9;have G9:=hZq hg9;have A9:=hZq ha9;have T9:=hZq (G9.out.cell ((grown_al (World.grownBy.refl w5 none) _).cell T5.out (by simp)) (fun e=>NB.out _ e.symm rfl));clear ho9 hg9 ha9))
   all_goals
    have O1:=HO3.out _ (grown_al G5.out (.cells #[.int .i64 no,.int .i64 ((n:Int)+1),.slice none 0 0,.slice none 0 0,.slice (some ⟨S,0,none⟩) k k,.slice (some ⟨P,0,none⟩) m m] 61));have R9:=hZq (FrT.row G9.out (tg_node O1));have F9:=hZq ((FrT.of (grown_al G5.out (.cells #[.int .i64 no,.int .i64 ((n:Int)+1),.slice none 0 0,.slice none 0 0,.slice (some ⟨S,0,none⟩) k k,.slice (some ⟨P,0,none⟩) m m] 61))).trans R9.out);have F19:=hZq ((FrT.of HG.out).trans F9.out);have g19:w1.grownBy w9 (Value.slice va1 (n0+TL.length) vc1).ownBlock:=(grown_any (gZq HG.out (grown_al G5.out _))).andThen G9.out (fun j e=>.inr e);have hz9:=g19.size
    have hno:NoM w9 w.heap.size w1.heap.size w9.heap.size [.int .i64 no,.int .i64 ((n+1:Nat):Int),.slice none 0 0,.slice none 0 0,.slice (some ⟨S,0,none⟩) k k,.slice (some ⟨P,0,none⟩) m m] ⟨no,n+1,[],ss,PL⟩ :=
     ⟨_,[],_,_,_,_,_,_,_,_,_,rfl,⟨rfl,.inl ⟨rfl,rfl⟩⟩,fun g e=>(by cases e),hz9,SlT.nil _ _ _ _,HSS2.out.kept F9.out,EsT.kept K1.out (by decide) F19.out,fun ad e _=>by cases e;exact hP1⟩
    have HNO:=hZq hno;have G19:=hZq g19;clear hno g19 O1
    go_wp2_with fail
    go_ret;refine ⟨_,es1++[[.int .i64 no,.int .i64 ((n+1:Nat):Int),.slice none 0 0,.slice none 0 0,.slice (some ⟨S,0,none⟩) k k,.slice (some ⟨P,0,none⟩) m m]],rfl,?_⟩;rw [HTT.out];refine ⟨?_,(R1.out.tm.kept F19.out).app (ToM.one HNO.out (Nat.le_refl _)),R1.out.gr.andThen G19.out (fun j e=>(R1.out.at' j e).symm),fun g e=>?_⟩
    ·rw [List.length_append,List.flatten_append,<- List.append_assoc,<- Nat.add_assoc]
     have e1:∀ l:List Value,[l].flatten=l:=fun l=>by simp
     rw [e1];exact O9.out
    ·rcases A9.out g e with q | q
     ·exact R1.out.at' g q
     ·exact .inr (by have:=G5.out.size;simp at q;omega)
theorem rtell:∀ n,RtC n
 | 0=>rtell_L
 | n+1=>rtell_B (btell (rtell n) (blevel_any (rlevel n)))
theorem row0_tell (a:Option Addr)(c:Nat)(sa:Option Addr)(sm sc:Nat)(va0:Option Addr)(n0 vc0:Nat)(w:World) :
  Calls Tryz.prog 41 #[.agg #[.slice a 0 c,.slice sa sm sc],.slice va0 n0 vc0] w fun en w'=>∃ q,en=.returned (.tuple #[.slice va0 n0 vc0,q])/\w.grownBy w' none:=by
 obtain ⟨ii,hii,hi0,hi1,hi2⟩:=info_parts info_i10;have e0:=cell_heap (i:=0) (heap_at0 w #[.slice a 0 c,.slice sa sm sc] 89) rfl;have G1:=hZq (World.grownBy_alloc w (.cells #[.slice a 0 c,.slice sa sm sc] 89) none);go_enter Tryz.func41,Tryz.ntmps41;go_upto_region 1 with fail
 generalize w.alloc (.cells #[.slice a 0 c,.slice sa sm sc] 89)=w1 at *
 go_wp2_with (at_make;refine wpList_make_full _ rfl _ _ 30 rfl w1.heap.size 3 ii (.int .i64 0) 1 Tryz.underlying30 hii hi0 hi1 _ _ _ _ 0 rfl rfl rfl rfl ?b2 ?b3 (Nat.le_refl _) ?_)
 case b2=>rw [hi2];omega
 case b3=>unfold maxLen;omega
 intro w2 hown2 hg2;have G2:=hZq (gZq G1.out hg2);have d0:=hg2.cell e0 (by simp);clear hown2 hg2 e0;generalize w1.heap.size=P at *
 go_wp2_with fail
 go_loopw [1,16] (fun sv si wr=>sv=.slice va0 n0 vc0/\si=.int .i64 0/\w.grownBy wr none) (fun _ _ _=>0)
 case atStart=>exact ⟨rfl,rfl,G2.out⟩
 case round =>
  obtain ⟨rfl,rfl,hg⟩:=hrel;have HG:=hZq hg;clear hg
  go_wp2_with fail
  go_ret2
  exact ⟨_,rfl,HG.out⟩
def ChkO:Option TrT->Prop
 | none=>True
 | some t=>ChkT t.lv t.root
theorem nodes_any (t:Option TrT)(p:Nat)(w:World)(ht:TreeT w p t)(ox:OkO t)(hc:ChkO t)(hs:(tellO t).length<=10000000)(hh:highO t<=1000000) :
  Calls Tryz.prog 15 #[.pointer (some ⟨p,0,none⟩)] w fun en w'=>∃ v es,en=.returned v/\w'.ownsRow w.heap.size 61 6 v (tellO t).length es.flatten/\ToM w' w.heap.size es (tellO t) w.heap.size w'.heap.size/\w.grownBy w' none:=by
 obtain ⟨a,m,c,sa,sm,sc,hp,htop⟩:=ht;have k1:=cell_heap (i:=0) hp rfl;have k2:=cell_heap (i:=1) hp rfl
 have RC:Hid (Calls Tryz.prog 41 #[.agg #[.slice a m c,.slice sa sm sc],.slice none 0 0] w fun en w'=>∃ v es q,en=.returned (.tuple #[v,q])/\w'.ownsRow w.heap.size 61 6 v (tellO t).length es.flatten/\ToM w' w.heap.size es (tellO t) w.heap.size w'.heap.size/\w.grownBy w' none):=by
  match t,htop,ox,hc,hs,hh with
  | none,htop,_,_,_,_ =>
   have hm:m=0:=htop;subst hm;refine (row0_tell a c sa sm sc none 0 0 w).mono ?_;rintro en w' ⟨q,rfl,hg⟩;exact ⟨_,[],q,rfl,⟨rfl,.inl ⟨rfl,rfl⟩⟩,hg.size,hg⟩
  | some ⟨n,x⟩,htop,ox,hc,hs,hh =>
   have hns:NsT n w a m c [x]:=htop;have hl:highO (some ⟨n,x⟩)=n+1:=rfl;rw [hl] at hh;have hm:1=m:=hns.len;have e1:tellL (tellT n) 0 [x]=tellT n 0 x:=by simp [tellL]
   have hsz:(tellT n 0 x).length<=10000000:=hs;rw [tell_len] at hsz;refine (rtell n [x] a m c sa sm sc (.slice none 0 0) 0 [] w.heap.size w hns (fun y hy=>?_) (fun y hy=>?_) (by omega) ⟨rfl,.inl ⟨rfl,rfl⟩⟩ (Nat.le_refl _) ?_ (by omega)).mono ?_
   ·rw [List.mem_singleton.1 hy];exact ox
   ·rw [List.mem_singleton.1 hy];exact hc
   ·simp only [sumT];omega
   ·rintro en w' ⟨v',es',P,rfl,hr,_,_⟩
    have ho:=hr.own;have htm:=hr.tm;rw [e1] at ho htm;rw [Nat.zero_add,List.nil_append] at ho;exact ⟨v',es',_,rfl,ho,htm,hr.gr⟩
 clear hp htop;go_enter Tryz.func15,Tryz.ntmps15
 go_wp2_with fail
 refine RC.out.mono ?_;rintro en w1 ⟨v,es,q,rfl,h1,h2,h3⟩;have H1:=hZq h1;have H2:=hZq h2;have H3:=hZq h3;clear h1 h2 h3;go_wp2;go_ret;exact ⟨v,es,rfl,H1.out,H2.out,H3.out⟩
end Go.Proofs.YteaahinjcfjngaaGreat
