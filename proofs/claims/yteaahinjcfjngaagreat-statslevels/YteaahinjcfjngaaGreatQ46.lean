import Derived.Test.YteaahinjcfjngaaGreatQ34
set_option maxRecDepth 100000
set_option maxHeartbeats 8000000
namespace Go.Proofs.YteaahinjcfjngaaGreat
open Go.RowKit
theorem bu_cell1 {w:World}{B b q:Nat}{v:Value}{s:BdS}(h:BuT w B b q v s):w.cell? ⟨B,1,none⟩=some (.map (some b)):=by
 rw [cell_of_row w B _ _ _ (0,0) h.box];rfl
theorem bu_cell0 {w:World}{B b q:Nat}{v:Value}{s:BdS}(h:BuT w B b q v s):w.cell? ⟨B,0,none⟩=some v:=by
 rw [cell_of_row w B _ _ _ (0,0) h.box];rfl
theorem its_key {L:List PrT}(h:∀ p∈L,Vp p):∀ x∈its L,x.key.length<=255:=fun x hx=>by
 obtain ⟨p,hp,rfl⟩:=List.mem_map.1 hx;exact (h p hp).k2
theorem BuT.nb {w:World}{b g:Nat}{S:List Int}{t:TypeId}(h:SeT w b S)(hg:TgT w g t):b≠g:=fun e=>by
 obtain ⟨D,⟨es,clock,hb,_⟩,_⟩:=seT_nb h;obtain ⟨cur,z,k⟩:=hg;subst e;rw [hb] at k;simp at k
theorem run_append_pa {w:World}(ty:TypeId)(q:Nat)(v:Value)(L:List (TrT × Nat))(hp:PatL w q v L)(p:TrT × Nat)(y:List Value)(hy:PaT w y p)
  (g:Nat) (hg:w.heap[g]?=some (.cells y.toArray 118 (0,0))) (hn:L.length+1<=1954687338268) (hq:q<=w.heap.size) :
  ∃ v' w',(Builtin.append_ #[110,110] ty #[v,.slice (some ⟨g,0,none⟩) 1 1]).run Tryz.prog w=.ok v' w'/\PatL w' q v' (L++[p])/\w.grownBy w' v.ownBlock/\FrB q w w'/\∀ i,v.ownBlock=some i->TgT w i 118:=by
 obtain ⟨i0,hi,hz0,hz1,hz2⟩:=info_parts info_tpart;obtain ⟨es,h1,h2⟩:=hp.ex;obtain ⟨y1,y2⟩:=pat_wf (ElyT.one hy);have y3:y.length=4:=y1 y (by simp)
 obtain ⟨v',w',r,k1,k2,_⟩:=run_append_own (P:=Tryz.prog) w q 110 ty 118 i0 (.agg #[.nilIface,.int .i64 0,.slice none 0 0,.slice none 0 0]) 4 72 Tryz.underlying110 hi hz0 hz1 hz2 rfl (by decide) v _ _ h1 ⟨g,0,none⟩ 1 1 y (by omega) (fun j u hu=>by
  rw [Addr.add_lit,cell_of_row _ g _ _ _ (0,0) hg];simpa using hu) (y2 y (by simp)) (by unfold maxLen;omega) (by omega) hq
 have fx:FrX ScBu w w':=(FrX.refl ScBu w).row k2 (fun i hi=>.inr ⟨118,own_tg h1 hi,by decide⟩);refine ⟨v',w',r,⟨es++[y],?_,(h2.mono fun e x k=>k.kept fx.toT).app (ElyT.one (hy.kept fx.toT))⟩,k2,FrB.row fx k2 (fun i hi=>(own_lt10 h1 hi).1),fun i hi=>own_tg h1 hi⟩;rw [List.length_append,List.length_singleton,List.flatten_append];simpa using k1
theorem step_append_pa {ops:Array Oper}{o:Oper}{a:Act}{w:World}{K:Act->World->Prop}{Q:Exit->Act->World->Prop}{E:Prop}(hgd:o.guard=none)(s x:Operand)
  (ho:o.op=.call { callee:=.builtin .append,args:=#[s,x],argTypes:=#[110,110] })
  (q:Nat) (v:Value) (L:List (TrT × Nat)) (hs:a.eval s=v) (hp:PatL w q v L) (p:TrT × Nat) (y:List Value) (hy:PaT w y p)
  (g:Nat) (hg:w.heap[g]?=some (.cells y.toArray 118 (0,0))) (hx:a.eval x=.slice (some ⟨g,0,none⟩) 1 1) (hn:L.length+1<=1954687338268) (hq:q<=w.heap.size)
  (hk:∀ v' w',PatL w' q v' (L++[p])->w.grownBy w' v.ownBlock->FrB q w w'->(∀ i,v.ownBlock=some i->TgT w i 118)->K (a.put o.dst v') w') :
  if Region.wanted o (yielded ops a.tmps)=true then Oper.wp Tryz.prog o a w K Q else E:=by
 have hw:Region.wanted o (yielded ops a.tmps)=true:=by simp [Region.wanted,hgd]
 rw [if_pos hw];obtain ⟨v',w',hrun,r1,r2,r3,r4⟩:=run_append_pa o.type q v L hp p y hy g hg hn hq;unfold Oper.wp;simp [execOp,ho,resolve,invoke,builtin,hs,hx,hrun,Result.andThen];exact hk v' w' r1 r2 r3 r4
theorem BuT.appended {w w':World}{B b q:Nat}{v:Value}{s:BdS}(h:BuT w B b q v s)(v0:Value)(hg:w.grownBy w' v0.ownBlock)(ht:∀ i,v0.ownBlock=some i->TgT w i 118) :
  w'.heap[B]?=some (.cells #[v,.map (some b)] 112 (0,0))/\SeT w' b s.used:=by
 have nB:some B≠v0.ownBlock:=fun e=>tg_ne (⟨_,_,h.box⟩:TgT w B 112) (ht B e.symm) (by decide) rfl
 have nb:some b≠v0.ownBlock:=fun e=>BuT.nb h.us (ht b e.symm) rfl
 exact ⟨(hg.block _ (Array.getElem?_eq_some_iff.1 h.box).1 nB).trans h.box,h.us.kept hg nb⟩
theorem BuT.put {w:World}{B b q:Nat}{v v':Value}{L:List (TrT × Nat)}{S:List Int}(hb:w.heap[B]?=some (.cells #[v,.map (some b)] 112 (0,0)))(hp:PatL w q v' L)(hs:SeT w b S)(hqb:q<=b)(hqB:q<=B):BuT (w.setCell ⟨B,0,none⟩ v') B b q v' ⟨L,S⟩/\FrB q w (w.setCell ⟨B,0,none⟩ v'):=by
 have hB:TgT w B 112:=⟨_,_,hb⟩;have fx:FrX ScBu w (w.setCell ⟨B,0,none⟩ v'):=(FrX.refl ScBu w).row (grown_cell _ _ _ _) (fun i hi=>.inr ⟨112,by cases hi;exact hB,by decide⟩);refine ⟨⟨heap_setCell_same w B 0 _ _ v' hb,hp.same (fun i hi=>?_) fx.toT,hs.kept (grown_cell w B 0 v') (fun e=>BuT.nb hs hB (by simpa using e)),hqb,hqB⟩,FrB.row fx (grown_cell _ _ _ _) (fun g e=>by cases e;exact hqB)⟩;exact heap_setCell_other w ⟨B,0,none⟩ i v' (fun e=>tg_ne hi hB (by decide) e)
theorem TgT.keptN {w w':World}{b:Nat}{t:TypeId}(h:TgT w b t)(hg:w.grownBy w' none):TgT w' b t:=by
 obtain ⟨cur,z,e⟩:=h;exact ⟨cur,z,heap_kept e hg⟩
theorem TgT.keptR {w w':World}{b:Nat}{t:TypeId}{r:Option Nat}(h:TgT w b t)(hg:w.grownBy w' r)(hn:some b≠r):TgT w' b t:=by
 obtain ⟨cur,z,e⟩:=h;exact ⟨cur,z,(hg.block _ (Array.getElem?_eq_some_iff.1 e).1 hn).trans e⟩
structure T2g (w:World)(D g:Nat):Prop where
 d:TgT w D 61
 g:TgT w g 106
theorem T2g.keptN {w w':World}{D g:Nat}(h:T2g w D g)(hg:w.grownBy w' none):T2g w' D g:=⟨h.d.keptN hg,h.g.keptN hg⟩
theorem Q6.keptR {w w':World}{D g m:Nat}{x y z:Value}{r:Option Nat}{t1 t2 t3:TypeId}(h:w.cell? ⟨D,0,none⟩=some x/\w.cell? ⟨g,0,none⟩=some y/\w.cell? ⟨g,m,none⟩=some z)(hg:w.grownBy w' r)(hr:∀ i,r=some i->TgT w i t3)(hD:TgT w D t1)(hG:TgT w g t2)(n1:t1≠t3)(n2:t2≠t3):w'.cell? ⟨D,0,none⟩=some x/\w'.cell? ⟨g,0,none⟩=some y/\w'.cell? ⟨g,m,none⟩=some z:=by
 have a1:some D≠r:=fun e=>tg_ne hD (hr D e.symm) n1 rfl
 have a2:some g≠r:=fun e=>tg_ne hG (hr g e.symm) n2 rfl
 exact ⟨hg.cell h.1 a1,hg.cell h.2.1 a2,hg.cell h.2.2 a2⟩
theorem PsT.tgt {w:World}{g m:Nat}{L:List PrT}(h:PsT w (some ⟨g,0,none⟩) m m L)(h0:0<m):TgT w g 106:=by
 obtain ⟨es,h1,_⟩:=h.ex;obtain ⟨b,off,e,ht,_⟩:=h1.cell 0 _ (List.getElem?_eq_getElem (by rw [h1.len];exact h0));simp only [Option.some.injEq,Addr.mk.injEq] at e;rw [e.1];exact ht
theorem Q6.kept {w w':World}{D g m:Nat}{x y z:Value}(h:w.cell? ⟨D,0,none⟩=some x/\w.cell? ⟨g,0,none⟩=some y/\w.cell? ⟨g,m,none⟩=some z)(hg:w.grownBy w' none):w'.cell? ⟨D,0,none⟩=some x/\w'.cell? ⟨g,0,none⟩=some y/\w'.cell? ⟨g,m,none⟩=some z:=⟨hg.cell h.1 (by simp),hg.cell h.2.1 (by simp),hg.cell h.2.2 (by simp)⟩
theorem firstK_at {L:List PrT}{p:PrT}(h:L[0]?=some p):firstK L=p.key:=by
 match L,h with
 | q::L,h =>
  have e:q=p:=by simpa using h
  rw [<- e]
  rfl
theorem lastK_at {L:List PrT}{m:Nat}{p:PrT}(hl:L.length=m+1)(h:L[m]?=some p):lastK L=p.key:=by
 unfold lastK;rw [List.getLastD_eq_getLast?,List.getLast?_eq_getElem?,hl,Nat.add_sub_cancel,h]
 rfl
theorem addLeaf_go (B b q pl:Nat)(v:Value)(s:BdS)(no:Int)(ps:List (List Int × List Int))(cs:List (List Int))(pa:Option Addr)(pn pc:Nat)(ca:Option Addr)(cn cc:Nat)(sa:Option Addr)(sc:Nat)(ka:Option Addr)(kc:Nat)(w:World)
  (h:BuT w B b q v s) (hp:RpU w pa pn pc ps) (hc:RcU w ca cn cc cs) (hpn:pn≠0) (hn:pn<=2932031007402) (hq:q<=w.heap.size) (hl:s.parts.length+1<=1954687338268)
  (hs:∀ p∈ps,p.1.length<=140737488355328/\p.2.length<=140737488355328/\Bt p.1/\Bt p.2) (hz:∀ c∈cs,c.length<=17592186044416/\∀ z∈c,-9223372036854775808<=z/\z<=9223372036854775807) :
  Calls Tryz.prog 78 #[.pointer (some ⟨B,0,none⟩),.int .i64 (pl:Int),.agg #[.int .i64 no,.int .i64 0,.slice pa pn pc,.slice ca cn cc,.slice sa 0 sc,.slice ka 0 kc]] w fun en w'=>AlX w B b q s pl ⟨no,0,ps,cs,[],[]⟩ en w':=by
 have hlen:=hp.len;have g1:=World.grownBy_alloc w (.cells #[.int .i64 no,.int .i64 0,.slice pa pn pc,.slice ca cn cc,.slice sa 0 sc,.slice ka 0 kc] 61) none;have hb1:=h.grown g1;have PX:=hZq (pairsX B b no 0 pa pn pc ca cn cc sa 0 sc ka 0 kc ps cs s.used _ (bu_cell1 hb1) hb1.us (hp.kept (CkF.of g1)) (hc.kept (CkF.of g1)) (by omega) hs hz);have HB1:=hZq hb1;have X1:=hZq (FrB.of (q:=q) g1);have R1:=hZq (heap_alloc_new w (.cells #[.int .i64 no,.int .i64 0,.slice pa pn pc,.slice ca cn cc,.slice sa 0 sc,.slice ka 0 kc] 61));have HZ:=hZq (show w.heap.size<=(w.alloc (.cells #[.int .i64 no,.int .i64 0,.slice pa pn pc,.slice ca cn cc,.slice sa 0 sc,.slice ka 0 kc] 61)).heap.size from g1.size);have HQ0:=hZq hq;clear h hp hc hs hz hb1 g1 hq;have h1:¬ (pn:Int)=0:=by omega
 have HQ:Hid (LfC s.used ⟨no,0,ps,cs,[],[]⟩->PoC no ps cs s.used):=fun l=>⟨l.cl,fun p hp=>⟨(l.el p hp).1,(l.el p hp).2.1,(l.el p hp).2.2⟩,l.tk⟩
 have HLEN:Hid ((zipR ps cs).length=pn):=by rw [zipR_len];exact hlen
 clear hlen;go_enter Tryz.func78,Tryz.ntmps78;go_upto_region 1 with fail
 generalize hW:w.alloc (.cells #[.int .i64 no,.int .i64 0,.slice pa pn pc,.slice ca cn cc,.slice sa 0 sc,.slice ka 0 kc] 61)=w1 at *;generalize w.heap.size=D at *;clear hW;have HQ1:=hZq (Nat.le_trans HQ0.out HZ.out);have HLP:=hZq hl;clear hl;have c0:w1.cell? ⟨D,0,none⟩=some (.int .i64 no):=cell_of_row w1 D 0 _ _ (0,0) R1.out;have c1:w1.cell? ⟨D,1,none⟩=some (.int .i64 0):=cell_of_row w1 D 1 _ _ (0,0) R1.out;have c2:w1.cell? ⟨D,2,none⟩=some (.slice pa pn pc):=cell_of_row w1 D 2 _ _ (0,0) R1.out;have c3:w1.cell? ⟨D,3,none⟩=some (.slice ca cn cc):=cell_of_row w1 D 3 _ _ (0,0) R1.out;have c4:w1.cell? ⟨D,4,none⟩=some (.slice sa 0 sc):=cell_of_row w1 D 4 _ _ (0,0) R1.out;have c5:w1.cell? ⟨D,5,none⟩=some (.slice ka 0 kc):=cell_of_row w1 D 5 _ _ (0,0) R1.out
 go_wp2_with fail
 refine PX.out.mono ?_;rintro en w2 ⟨⟨v2,f,rfl,hf,hf2⟩,hg2⟩;have HF:=hZq hf;have HF2:=hZq hf2;have X2:=hZq (X1.out.trans (FrB.mapped HB1.out.qb (seT_nb HB1.out.us) hg2));have G2:=hZq hg2;have R2:=hZq ((FrX.mapped (S:=ScBu) (seT_nb HB1.out.us) hg2).keep D 61 _ _ (by decide) R1.out);clear hf hf2 hg2 PX c0 c1 c2 c3 c4 c5;cases f with
 | false =>
  go_wp2;go_ret;exact alx_no rfl (fun l=>by have:=HF2.out (HQ.out l);cases this) X2.out
 | true =>
  have HF9:=HF.out rfl;clear HF;obtain ⟨g,rfl,hP,hC,hU⟩:=HF9;have HP:=hZq hP;have HC:=hZq hC;have HB2:=hZq (HB1.out.used G2.out hU);clear hP hC hU HF2;have HK:Hid (∀ p∈zipR ps cs,Bt p.key):=fun p hp=>(HC.out.el p hp).vp.kb
  have RX:=hZq (risingX HP.out HK.out)
  go_wp2_with fail
  refine RX.out.mono ?_;rintro en w3 ⟨⟨f,rfl,hf,hf2⟩,hg3⟩;have HS:=hZq hf;have HS2:=hZq hf2;have HB3:=hZq (HB2.out.grown hg3);have HP3:=hZq (HP.out.kept (FrT.of hg3));have X3:=hZq (X2.out.trans (FrB.of hg3));have G3:=hZq hg3;clear hf hf2 hg3 RX;cases f with
  | false =>
   go_wp2;go_ret;exact alx_no rfl (fun l=>by have:=HS2.out l.sr;cases this) X3.out
  | true =>
   have IX:=hZq (itemsOf_any (some ⟨g,0,none⟩) pn pn (zipR ps cs) w3 HP3.out hn)
   go_wp2_with fail
   refine IX.out.mono ?_;rintro en w4 ⟨⟨g4,rfl,hi4⟩,hg4⟩;have HI4:=hZq hi4.il;have HB4:=hZq (HB3.out.grown hg4);have HP4:=hZq (HP3.out.kept (FrT.of hg4));have X4:=hZq (X3.out.trans (FrB.of hg4));have G4:=hZq (gZq G3.out hg4);clear hi4 hg4 IX;have SX:=hZq (size_big (some ⟨g4,0,none⟩) pn pn (its (zipR ps cs)) w4 HI4.out (by unfold its;rw [List.length_map];exact HLEN.out) hn (its_key fun p hp=>(HC.out.el p hp).vp))
   go_wp2_with fail
   refine SX.out.mono ?_;rintro en w5 ⟨rfl,hg5⟩;have G5:=hZq (gZq G4.out hg5);have HB5:=hZq (HB4.out.grown hg5);have HP5:=hZq (HP4.out.kept (FrT.of hg5));have X5:=hZq (X4.out.trans (FrB.of hg5));have R5:=hZq ((G5.out.block _ (Array.getElem?_eq_some_iff.1 R2.out).1 (by simp)).trans R2.out);have HZ5:Hid (w1.heap.size<=w5.heap.size):=Nat.le_trans G2.out.size G5.out.size;clear hg5 SX G4 HB4 HP4 X4 HI4 HB3 HP3 X3 G3 HB2 HP X2 R2
   by_cases hsz:size (its (zipR ps cs))<=4092
   ·go_wp2_with fail
    refine (cfits_any _ _).mono ?_;rintro en w6 ⟨rfl,hw6⟩;rw [hw6,decide_eq_true hsz];clear hw6;obtain ⟨m,hm⟩:∃ m,m+1=pn:=⟨pn - 1,by omega⟩;have hL:=HLEN.out;obtain ⟨p0,hp0⟩:∃ p,(zipR ps cs)[0]?=some p:=⟨_,List.getElem?_eq_getElem (by omega)⟩;obtain ⟨pL,hpL⟩:∃ p,(zipR ps cs)[m]?=some p:=⟨_,List.getElem?_eq_getElem (by omega)⟩;obtain ⟨g0,off0,ka0,kn0,kc0,va0,vn0,vc0,ca0,cn0,cc0,e0,y0,_,_,hk0⟩:=HP5.out.pair hp0;obtain ⟨gL,offL,kaL,knL,kcL,vaL,vnL,vcL,caL,cnL,ccL,eL,yL,_,_,hkL⟩:=HP5.out.pair hpL;simp only [Option.some.injEq,Addr.mk.injEq,and_true] at e0 eL;obtain ⟨rfl,rfl⟩:=e0;obtain ⟨rfl,rfl⟩:=eL;have K0:=hZq hk0.k;have KL:=hZq hkL.k;have E0:=hZq (firstK_at hp0);have EL:=hZq (lastK_at (hL.trans hm.symm) hpL);have T5:Hid (w5.cell? ⟨D,0,none⟩=some (.int .i64 no)/\w5.cell? ⟨g,0,none⟩=some (.slice ka0 kn0 kc0)/\w5.cell? ⟨g,m*3,none⟩=some (.slice kaL knL kcL)):=⟨cell_of_row w5 D 0 _ _ (0,0) R5.out,by simpa using y0,by simpa using yL⟩;have q1:IntKind.i64.wrap ((pn:Int) - 1)=(m:Int):=by rw [show (pn:Int) - 1=(m:Int) by omega];exact wrap_id10 (by omega) (by omega)
    have q2:(m:Int)<(pn:Int):=by omega
    have q3:(0:Int)<=(m:Int):=by omega
    have q4:(0:Int)<(pn:Int):=by omega
    have q5:0<pn:=by omega
    have q6:m<pn:=by omega
    have DG5:Hid (T2g w5 D g):=⟨⟨_,_,R5.out⟩,HP5.out.tgt (by omega)⟩;have LF:Hid (LfC s.used ⟨no,0,ps,cs,[],[]⟩):=⟨rfl,(fun e=>by rw [show ps=[] from e] at hL;simp [zipR] at hL;omega),rfl,rfl,HC.out.cl,(fun p hp=>⟨(HC.out.el p hp).vp,(HC.out.el p hp).len,(HC.out.el p hp).fr⟩),HC.out.tk,HS.out trivial,hsz⟩;have HM:=hZq hm;have HSZ:=hZq hsz;clear hm hL hp0 hpL y0 yL hk0 hkL hsz h1 hpn;go_upto_region 6 with fail
    refine wp_region_held_drew (S:=(fun w'=>w'.cell? ⟨D,0,none⟩=some (.int .i64 no)/\w'.cell? ⟨g,0,none⟩=some (.slice ka0 kn0 kc0)/\w'.cell? ⟨g,m*3,none⟩=some (.slice kaL knL kcL))) (by kernel_rfl) ?_ (fun hHeld=>?_)
    ·exact T5.out
    have HBD:=hZq (HB5.out.grown ((Qt.refl w5).drew.grown none));have HPD:=hZq (HP5.out.kept (FrT.of ((Qt.refl w5).drew.grown none)));have XD:=hZq (X5.out.trans (FrB.of ((Qt.refl w5).drew.grown none)));have KD0:=hZq (K0.out.kept (FrT.of ((Qt.refl w5).drew.grown none)));have KDL:=hZq (KL.out.kept (FrT.of ((Qt.refl w5).drew.grown none)));have TD:Hid (w5.drew.cell? ⟨D,0,none⟩=some (.int .i64 no)/\w5.drew.cell? ⟨g,0,none⟩=some (.slice ka0 kn0 kc0)/\w5.drew.cell? ⟨g,m*3,none⟩=some (.slice kaL knL kcL)):=Q6.kept T5.out ((Qt.refl w5).drew.grown none);have DGD:=hZq (T2g.keptN DG5.out ((Qt.refl w5).drew.grown none));have SD:Hid (w1.heap.size<=w5.drew.heap.size):=HZ5.out;generalize w5.drew=wd at *;refine wpAnyH_take (i:=0) (oi:=⟨some 45,.move (.tmp 0),138, "build.go:65",#[],none⟩) (v:=?_) rfl (by kernel_rfl) (by kernel_rfl) (by kernel_rfl) (fun _ _ _ h=>h) (Or.inl ⟨by rfl,?_⟩) (by assumption) ?_
    rotate_left
    ·intro w hSw;(try dsimp only at hSw);go_simp;(try with_reducible rfl)
    simp only [Act.put,List.setIfInBounds_toArray,List.set_cons_zero,List.set_cons_succ];refine wpAnyH_take (i:=1) (oi:=⟨some 46,.move (.tmp 0),138, "build.go:65",#[],none⟩) (v:=?_) rfl (by kernel_rfl) (by kernel_rfl) (by kernel_rfl) (fun _ _ _ h=>h) (Or.inl ⟨by rfl,?_⟩) (by assumption) ?_
    rotate_left
    ·intro w hSw;(try dsimp only at hSw);go_simp;(try with_reducible rfl)
    simp only [Act.put,List.setIfInBounds_toArray,List.set_cons_zero,List.set_cons_succ];refine wpAnyH_take (i:=2) (oi:=⟨some 47,.nilCheck (.tmp 46),0, "build.go:65",#[⟨1,.data⟩],none⟩) (v:=?_) rfl (by kernel_rfl) (by kernel_rfl) (by kernel_rfl) (fun _ _ _ h=>h) (Or.inl ⟨by rfl,?_⟩) (by assumption) ?_
    rotate_left
    ·intro w hSw;(try dsimp only at hSw);go_simp;(try with_reducible rfl)
    simp only [Act.put,List.setIfInBounds_toArray,List.set_cons_zero,List.set_cons_succ];refine wpAnyH_take (i:=3) (oi:=⟨some 48,.fieldAddr 112 (.tmp 47) 0,0, "build.go:65",#[⟨2,.data⟩],none⟩) (v:=?_) rfl (by kernel_rfl) (by kernel_rfl) (by kernel_rfl) (fun _ _ _ h=>h) (Or.inl ⟨by rfl,?_⟩) (by assumption) ?_
    rotate_left
    ·intro w hSw;(try dsimp only at hSw);go_simp;(try with_reducible rfl)
    simp only [Act.put,List.setIfInBounds_toArray,List.set_cons_zero,List.set_cons_succ];refine wpAnyH_take (i:=5) (oi:=⟨some 50,.fieldAddr 61 (.tmp 5) 0,0, "build.go:65",#[],none⟩) (v:=?_) rfl (by kernel_rfl) (by kernel_rfl) (by kernel_rfl) (fun _ _ _ h=>h) (Or.inl ⟨by rfl,?_⟩) (by assumption) ?_
    rotate_left
    ·intro w hSw;(try dsimp only at hSw);go_simp;(try with_reducible rfl)
    simp only [Act.put,List.setIfInBounds_toArray,List.set_cons_zero,List.set_cons_succ];refine wpAnyH_take (i:=6) (oi:=⟨some 51,.load 3 (.tmp 50),3, "build.go:65",#[⟨5,.data⟩],none⟩) (v:=?_) rfl (by kernel_rfl) (by kernel_rfl) (by kernel_rfl) (fun _ _ _ h=>h) (Or.inl ⟨by rfl,?_⟩) (by assumption) ?_
    rotate_left
    ·intro w hSw;(try dsimp only at hSw);go_simp;(try with_reducible rfl)
    simp only [Act.put,List.setIfInBounds_toArray,List.set_cons_zero,List.set_cons_succ];refine wpAnyH_take (i:=7) (oi:=⟨some 52,.move (.tmp 7),107, "build.go:65",#[],none⟩) (v:=?_) rfl (by kernel_rfl) (by kernel_rfl) (by kernel_rfl) (fun _ _ _ h=>h) (Or.inl ⟨by rfl,?_⟩) (by assumption) ?_
    rotate_left
    ·intro w hSw;(try dsimp only at hSw);go_simp;(try with_reducible rfl)
    simp only [Act.put,List.setIfInBounds_toArray,List.set_cons_zero,List.set_cons_succ];refine wpAnyH_take (i:=8) (oi:=⟨some 53,.build 135 #[(0,.tmp 51),(1,.tmp 52)],135, "build.go:65",#[⟨6,.data⟩,⟨7,.data⟩],none⟩) (v:=?_) rfl (by kernel_rfl) (by kernel_rfl) (by kernel_rfl) (fun _ _ _ h=>h) (Or.inl ⟨by rfl,?_⟩) (by assumption) ?_
    rotate_left
    ·intro w hSw;(try dsimp only at hSw);go_simp;(try with_reducible rfl)
    simp only [Act.put,List.setIfInBounds_toArray,List.set_cons_zero,List.set_cons_succ];refine wpAnyH_take (i:=11) (oi:=⟨some 56,.move (.tmp 1),3, "build.go:65",#[],none⟩) (v:=?_) rfl (by kernel_rfl) (by kernel_rfl) (by kernel_rfl) (fun _ _ _ h=>h) (Or.inl ⟨by rfl,?_⟩) (by assumption) ?_
    rotate_left
    ·intro w hSw;(try dsimp only at hSw);go_simp;(try with_reducible rfl)
    simp only [Act.put,List.setIfInBounds_toArray,List.set_cons_zero,List.set_cons_succ];refine wpAnyH_take (i:=12) (oi:=⟨some 57,.move (.tmp 7),107, "build.go:65",#[],none⟩) (v:=?_) rfl (by kernel_rfl) (by kernel_rfl) (by kernel_rfl) (fun _ _ _ h=>h) (Or.inl ⟨by rfl,?_⟩) (by assumption) ?_
    rotate_left
    ·intro w hSw;(try dsimp only at hSw);go_simp;(try with_reducible rfl)
    simp only [Act.put,List.setIfInBounds_toArray,List.set_cons_zero,List.set_cons_succ];refine wpAnyH_take (i:=13) (oi:=⟨some 58,.indexAddr 107 (.tmp 57) (.const (.int .i64 0)),0, "build.go:65",#[⟨12,.data⟩],none⟩) (v:=?_) rfl (by kernel_rfl) (by kernel_rfl) (by kernel_rfl) (fun _ _ _ h=>h) (Or.inl ⟨by rfl,?_⟩) (by assumption) ?_
    rotate_left
    ·intro w hSw;(try dsimp only at hSw);go_simp;(try with_reducible rfl)
    simp only [Act.put,List.setIfInBounds_toArray,List.set_cons_zero,List.set_cons_succ];refine wpAnyH_take (i:=14) (oi:=⟨some 59,.fieldAddr 106 (.tmp 58) 0,0, "build.go:65",#[⟨13,.data⟩],none⟩) (v:=?_) rfl (by kernel_rfl) (by kernel_rfl) (by kernel_rfl) (fun _ _ _ h=>h) (Or.inl ⟨by rfl,?_⟩) (by assumption) ?_
    rotate_left
    ·intro w hSw;(try dsimp only at hSw);go_simp;(try with_reducible rfl)
    simp only [Act.put,List.setIfInBounds_toArray,List.set_cons_zero,List.set_cons_succ];refine wpAnyH_take (i:=15) (oi:=⟨some 60,.load 62 (.tmp 59),62, "build.go:65",#[⟨14,.data⟩],none⟩) (v:=?_) rfl (by kernel_rfl) (by kernel_rfl) (by kernel_rfl) (fun _ _ _ h=>h) (Or.inl ⟨by rfl,?_⟩) (by assumption) ?_
    rotate_left
    ·intro w hSw;(try dsimp only at hSw);go_simp;(try with_reducible rfl)
    simp only [Act.put,List.setIfInBounds_toArray,List.set_cons_zero,List.set_cons_succ];refine wpAnyH_take (i:=16) (oi:=⟨some 61,.move (.tmp 7),107, "build.go:65",#[],none⟩) (v:=?_) rfl (by kernel_rfl) (by kernel_rfl) (by kernel_rfl) (fun _ _ _ h=>h) (Or.inl ⟨by rfl,?_⟩) (by assumption) ?_
    rotate_left
    ·intro w hSw;(try dsimp only at hSw);go_simp;(try with_reducible rfl)
    simp only [Act.put,List.setIfInBounds_toArray,List.set_cons_zero,List.set_cons_succ];refine wpAnyH_take (i:=17) (oi:=⟨some 62,.move (.tmp 7),107, "build.go:65",#[],none⟩) (v:=?_) rfl (by kernel_rfl) (by kernel_rfl) (by kernel_rfl) (fun _ _ _ h=>h) (Or.inl ⟨by rfl,?_⟩) (by assumption) ?_
    rotate_left
    ·intro w hSw;(try dsimp only at hSw);go_simp;(try with_reducible rfl)
    simp only [Act.put,List.setIfInBounds_toArray,List.set_cons_zero,List.set_cons_succ];refine wpAnyH_take (i:=18) (oi:=⟨some 63,.call { callee:=.builtin Go.Builtin.len,args:=#[.tmp 62],argTypes:=#[107] },3, "build.go:65",#[⟨17,.data⟩],none⟩) (v:=?_) rfl (by kernel_rfl) (by kernel_rfl) (by kernel_rfl) (fun _ _ _ h=>h) (Or.inl ⟨by rfl,?_⟩) (by assumption) ?_
    rotate_left
    ·intro w hSw;(try dsimp only at hSw);go_simp;(try with_reducible rfl)
    simp only [Act.put,List.setIfInBounds_toArray,List.set_cons_zero,List.set_cons_succ];refine wpAnyH_take (i:=19) (oi:=⟨some 64,.binOp .sub 3 (.tmp 63) (.const (.int .i64 1)) 3,3, "build.go:65",#[⟨18,.data⟩],none⟩) (v:=?_) rfl (by kernel_rfl) (by kernel_rfl) (by kernel_rfl) (fun _ _ _ h=>h) (Or.inl ⟨by rfl,?_⟩) (by assumption) ?_
    rotate_left
    ·intro w hSw;(try dsimp only at hSw);go_simp;(try with_reducible rfl)
    simp only [Act.put,List.setIfInBounds_toArray,List.set_cons_zero,List.set_cons_succ];refine wpAnyH_take (i:=20) (oi:=⟨some 65,.indexAddr 107 (.tmp 61) (.tmp 64),0, "build.go:65",#[⟨16,.data⟩,⟨19,.data⟩],none⟩) (v:=?_) rfl (by kernel_rfl) (by kernel_rfl) (by kernel_rfl) (fun _ _ _ h=>h) (Or.inl ⟨by rfl,?_⟩) (by assumption) ?_
    rotate_left
    ·intro w hSw;(try dsimp only at hSw);go_simp;(try with_reducible rfl)
    simp only [Act.put,List.setIfInBounds_toArray,List.set_cons_zero,List.set_cons_succ];refine wpAnyH_take (i:=21) (oi:=⟨some 66,.fieldAddr 106 (.tmp 65) 0,0, "build.go:65",#[⟨20,.data⟩],none⟩) (v:=?_) rfl (by kernel_rfl) (by kernel_rfl) (by kernel_rfl) (fun _ _ _ h=>h) (Or.inl ⟨by rfl,?_⟩) (by assumption) ?_
    rotate_left
    ·intro w hSw;(try dsimp only at hSw);go_simp;(try with_reducible rfl)
    simp only [Act.put,List.setIfInBounds_toArray,List.set_cons_zero,List.set_cons_succ];refine wpAnyH_take (i:=22) (oi:=⟨some 67,.load 62 (.tmp 66),62, "build.go:65",#[⟨21,.data⟩],none⟩) (v:=?_) rfl (by kernel_rfl) (by kernel_rfl) (by kernel_rfl) (fun _ _ _ h=>h) (Or.inl ⟨by rfl,?_⟩) (by assumption) ?_
    rotate_left
    ·intro w hSw;(try dsimp only at hSw);go_simp;(try with_reducible rfl)
    simp only [Act.put,List.setIfInBounds_toArray,List.set_cons_zero,List.set_cons_succ];refine wpAnyH_ready (rs:=[4,9]) (by kernel_rfl) (by simp) ?_;refine AllReadyH.cons (o:=⟨some 49,.load 110 (.tmp 48),110, "build.go:65",#[⟨3,.data⟩],none⟩) rfl (fun K2 hK2=>?_) ?_
    ·have cw:=bu_cell0 HBD.out
     go_simp
     refine hK2.out _ _ (TD.out) (fun hHeld=>?_);clear hK2 K2;try simp only [Act.put,List.setIfInBounds_toArray,List.set_cons_zero,List.set_cons_succ]
     refine wpAnyH_ready (rs:=[9]) (by kernel_rfl) (by simp) ?_;refine AllReadyH.cons (o:=⟨some 54,.box 135 (.tmp 53),133, "build.go:65",#[⟨8,.data⟩],none⟩) rfl (fun K2 hK2=>?_) AllReadyH.nil
     go_simp
     refine hK2.out _ _ (Q6.kept TD.out (World.grownBy_alloc wd _ none)) (fun hHeld=>?_);clear hK2 K2;try simp only [Act.put,List.setIfInBounds_toArray,List.set_cons_zero,List.set_cons_succ]
     have ga:=World.grownBy_alloc wd (.cells #[.int .i64 no,.slice (some ⟨g,0,none⟩) pn pn] 135) none;have HB7:=hZq (HBD.out.grown ga);have X7:=hZq (XD.out.trans (FrB.of ga));have N7:=hZq (node_leaf no HPD.out);have DG7:=hZq (T2g.keptN DGD.out ga);have L7:=hZq (KD0.out.kept (FrT.of ga));have M7:=hZq (KDL.out.kept (FrT.of ga));have T7:Hid ((wd.alloc (.cells #[.int .i64 no,.slice (some ⟨g,0,none⟩) pn pn] 135)).cell? ⟨D,0,none⟩=some (.int .i64 no)/\(wd.alloc (.cells #[.int .i64 no,.slice (some ⟨g,0,none⟩) pn pn] 135)).cell? ⟨g,0,none⟩=some (.slice ka0 kn0 kc0)/\(wd.alloc (.cells #[.int .i64 no,.slice (some ⟨g,0,none⟩) pn pn] 135)).cell? ⟨g,m*3,none⟩=some (.slice kaL knL kcL)):=Q6.kept TD.out ga;have Z7:Hid (w1.heap.size<=(wd.alloc (.cells #[.int .i64 no,.slice (some ⟨g,0,none⟩) pn pn] 135)).heap.size):=Nat.le_trans SD.out ga.size;clear ga;generalize wd.alloc (.cells #[.int .i64 no,.slice (some ⟨g,0,none⟩) pn pn] 135)=w7 at *;refine wpAnyH_take (i:=10) (oi:=⟨some 55,.makeInterface 133 (.tmp 54),116, "build.go:65",#[⟨9,.data⟩],none⟩) (v:=?_) rfl (by kernel_rfl) (by kernel_rfl) (by kernel_rfl) (fun _ _ _ h=>h) (Or.inl ⟨by rfl,?_⟩) (by assumption) ?_
     rotate_left
     ·intro w hSw;(try dsimp only at hSw);go_simp;(try with_reducible rfl)
     simp only [Act.put,List.setIfInBounds_toArray,List.set_cons_zero,List.set_cons_succ];refine wpAnyH_take (i:=23) (oi:=⟨some 68,.build 118 #[(0,.tmp 55),(1,.tmp 56),(2,.tmp 60),(3,.tmp 67)],118, "build.go:65",#[⟨10,.data⟩,⟨11,.data⟩,⟨15,.data⟩,⟨22,.data⟩],none⟩) (v:=?_) rfl (by kernel_rfl) (by kernel_rfl) (by kernel_rfl) (fun _ _ _ h=>h) (Or.inl ⟨by rfl,?_⟩) (by assumption) ?_
     rotate_left
     ·intro w hSw;(try dsimp only at hSw);go_simp;(try with_reducible rfl)
     simp only [Act.put,List.setIfInBounds_toArray,List.set_cons_zero,List.set_cons_succ];refine wpAnyH_ready (rs:=[24]) (by kernel_rfl) (by simp) ?_;refine AllReadyH.cons (o:=⟨some 69,.buildSlice 110 1 #[(0,.tmp 68)],110, "build.go:65",#[⟨23,.data⟩],none⟩) rfl (fun K2 hK2=>?_) AllReadyH.nil
     go_simp
     refine hK2.out _ _ (Q6.kept T7.out (World.grownBy_alloc w7 _ none)) (fun hHeld=>?_);clear hK2 K2;try simp only [Act.put,List.setIfInBounds_toArray,List.set_cons_zero,List.set_cons_succ]
     have ga:=World.grownBy_alloc w7 (.cells #[.iface 133 (.pointer (some ⟨wd.heap.size,0,none⟩)),.int .i64 (pl:Int),.slice ka0 kn0 kc0,.slice kaL knL kcL] 118) none;have HB8:=hZq (HB7.out.grown ga);have X8:=hZq (X7.out.trans (FrB.of ga));have Y8:=hZq (heap_alloc_new w7 (.cells #[.iface 133 (.pointer (some ⟨wd.heap.size,0,none⟩)),.int .i64 (pl:Int),.slice ka0 kn0 kc0,.slice kaL knL kcL] 118));have P8:Hid (PaT (w7.alloc (.cells #[.iface 133 (.pointer (some ⟨wd.heap.size,0,none⟩)),.int .i64 (pl:Int),.slice ka0 kn0 kc0,.slice kaL knL kcL] 118)) [.iface 133 (.pointer (some ⟨wd.heap.size,0,none⟩)),.int .i64 (pl:Int),.slice ka0 kn0 kc0,.slice kaL knL kcL] (⟨0,(⟨no,zipR ps cs⟩:LfT)⟩,pl)):=⟨_,_,_,_,_,_,_,rfl,NodeT.kept 0 N7.out (FrT.of ga),by have:=L7.out.kept (FrT.of ga);rwa [<- E0.out] at this,by have:=M7.out.kept (FrT.of ga);rwa [<- EL.out] at this⟩;have T8:Hid ((w7.alloc (.cells #[.iface 133 (.pointer (some ⟨wd.heap.size,0,none⟩)),.int .i64 (pl:Int),.slice ka0 kn0 kc0,.slice kaL knL kcL] 118)).cell? ⟨D,0,none⟩=some (.int .i64 no)/\(w7.alloc (.cells #[.iface 133 (.pointer (some ⟨wd.heap.size,0,none⟩)),.int .i64 (pl:Int),.slice ka0 kn0 kc0,.slice kaL knL kcL] 118)).cell? ⟨g,0,none⟩=some (.slice ka0 kn0 kc0)/\(w7.alloc (.cells #[.iface 133 (.pointer (some ⟨wd.heap.size,0,none⟩)),.int .i64 (pl:Int),.slice ka0 kn0 kc0,.slice kaL knL kcL] 118)).cell? ⟨g,m*3,none⟩=some (.slice kaL knL kcL)):=Q6.kept T7.out ga;have DG8:=hZq (T2g.keptN DG7.out ga);have Z8:Hid (q<=(w7.alloc (.cells #[.iface 133 (.pointer (some ⟨wd.heap.size,0,none⟩)),.int .i64 (pl:Int),.slice ka0 kn0 kc0,.slice kaL knL kcL] 118)).heap.size):=Nat.le_trans (Nat.le_trans HQ1.out Z7.out) ga.size;clear ga;generalize hg9:w7.heap.size=g9 at *;generalize w7.alloc (.cells #[.iface 133 (.pointer (some ⟨wd.heap.size,0,none⟩)),.int .i64 (pl:Int),.slice ka0 kn0 kc0,.slice kaL knL kcL] 118)=w8 at *;clear hg9;refine wpAnyH_ready (rs:=[25]) (by kernel_rfl) (by simp) ?_;refine AllReadyH.cons (o:=⟨some 70,.call { callee:=.builtin Go.Builtin.append,args:=#[.tmp 49,.tmp 69],argTypes:=#[110,110] },110, "build.go:65",#[⟨4,.data⟩,⟨24,.data⟩],none⟩) rfl (fun K2 hK2=>?_) AllReadyH.nil;refine step_append_pa rfl (.tmp 49) (.tmp 69) rfl q v s.parts (by rfl) HB8.out.ps (⟨0,(⟨no,zipR ps cs⟩:LfT)⟩,pl) _ P8.out g9 Y8.out (by rfl) HLP.out Z8.out ?_;intro v9 w9 hp9 hg9 hf9 ht9;obtain ⟨a9,c9,hv9,_⟩:=hp9.len;obtain ⟨n9,hn9⟩:∃ n,(s.parts++[((⟨0,(⟨no,zipR ps cs⟩:LfT)⟩:TrT),pl)]).length=n:=⟨_,rfl⟩;rw [hn9] at hv9;clear hn9;subst hv9;have hb9:=HB8.out.appended v hg9 ht9;have T9:Hid (w9.cell? ⟨D,0,none⟩=some (.int .i64 no)/\w9.cell? ⟨g,0,none⟩=some (.slice ka0 kn0 kc0)/\w9.cell? ⟨g,m*3,none⟩=some (.slice kaL knL kcL)):=Q6.keptR T8.out hg9 ht9 DG8.out.d DG8.out.g (by decide) (by decide);have TX:Hid (∀ i,some B=some i->TgT w9 i 112):=fun i e=>by cases e;exact ⟨_,_,hb9.1⟩
     have nD:some D≠v.ownBlock:=fun e=>tg_ne DG8.out.d (ht9 D e.symm) (by decide) rfl
     have nG:some g≠v.ownBlock:=fun e=>tg_ne DG8.out.g (ht9 g e.symm) (by decide) rfl
     have DG9:Hid (T2g w9 D g):=⟨TgT.keptR DG8.out.d hg9 nD,TgT.keptR DG8.out.g hg9 nG⟩;have HP9:=hZq hp9;have HB9:=hZq hb9;have X9:=hZq (X8.out.trans hf9);clear hp9 hg9 hf9 ht9 hb9 nD nG;refine hK2.out _ _ (T9.out) (fun hHeld=>?_);clear hK2 K2;try simp only [Act.put,List.setIfInBounds_toArray,List.set_cons_zero,List.set_cons_succ]
     refine wpAnyH_take (i:=26) (oi:=⟨some 71,.nilCheck (.tmp 45),0, "build.go:65",#[⟨0,.data⟩,⟨0,.phase⟩,⟨1,.phase⟩,⟨2,.phase⟩,⟨3,.phase⟩,⟨4,.phase⟩,⟨5,.phase⟩,⟨6,.phase⟩,⟨7,.phase⟩,⟨8,.phase⟩,⟨9,.phase⟩,⟨10,.phase⟩,⟨11,.phase⟩,⟨12,.phase⟩,⟨13,.phase⟩,⟨14,.phase⟩,⟨15,.phase⟩,⟨16,.phase⟩,⟨17,.phase⟩,⟨18,.phase⟩,⟨19,.phase⟩,⟨20,.phase⟩,⟨21,.phase⟩,⟨22,.phase⟩,⟨23,.phase⟩,⟨24,.phase⟩,⟨25,.phase⟩],none⟩) (v:=?_) rfl (by kernel_rfl) (by kernel_rfl) (by kernel_rfl) (fun _ _ _ h=>h) (Or.inl ⟨by rfl,?_⟩) (by assumption) ?_
     rotate_left
     ·intro w hSw;(try dsimp only at hSw);go_simp;(try with_reducible rfl)
     simp only [Act.put,List.setIfInBounds_toArray,List.set_cons_zero,List.set_cons_succ];refine wpAnyH_take (i:=27) (oi:=⟨some 72,.fieldAddr 112 (.tmp 71) 0,0, "build.go:65",#[⟨26,.data⟩,⟨0,.phase⟩,⟨1,.phase⟩,⟨2,.phase⟩,⟨3,.phase⟩,⟨4,.phase⟩,⟨5,.phase⟩,⟨6,.phase⟩,⟨7,.phase⟩,⟨8,.phase⟩,⟨9,.phase⟩,⟨10,.phase⟩,⟨11,.phase⟩,⟨12,.phase⟩,⟨13,.phase⟩,⟨14,.phase⟩,⟨15,.phase⟩,⟨16,.phase⟩,⟨17,.phase⟩,⟨18,.phase⟩,⟨19,.phase⟩,⟨20,.phase⟩,⟨21,.phase⟩,⟨22,.phase⟩,⟨23,.phase⟩,⟨24,.phase⟩,⟨25,.phase⟩],none⟩) (v:=?_) rfl (by kernel_rfl) (by kernel_rfl) (by kernel_rfl) (fun _ _ _ h=>h) (Or.inl ⟨by rfl,?_⟩) (by assumption) ?_
     rotate_left
     ·intro w hSw;(try dsimp only at hSw);go_simp;(try with_reducible rfl)
     simp only [Act.put,List.setIfInBounds_toArray,List.set_cons_zero,List.set_cons_succ];refine wpAnyH_ready (rs:=[28]) (by kernel_rfl) (by simp) ?_;refine AllReadyH.cons (o:=⟨none,.store 110 (.tmp 72) (.tmp 70),0, "build.go:65",#[⟨27,.data⟩,⟨25,.data⟩,⟨25,.chain⟩,⟨0,.phase⟩,⟨1,.phase⟩,⟨2,.phase⟩,⟨3,.phase⟩,⟨4,.phase⟩,⟨5,.phase⟩,⟨6,.phase⟩,⟨7,.phase⟩,⟨8,.phase⟩,⟨9,.phase⟩,⟨10,.phase⟩,⟨11,.phase⟩,⟨12,.phase⟩,⟨13,.phase⟩,⟨14,.phase⟩,⟨15,.phase⟩,⟨16,.phase⟩,⟨17,.phase⟩,⟨18,.phase⟩,⟨19,.phase⟩,⟨20,.phase⟩,⟨21,.phase⟩,⟨22,.phase⟩,⟨23,.phase⟩,⟨24,.phase⟩,⟨25,.phase⟩],none⟩) rfl (fun K2 hK2=>?_) AllReadyH.nil;have PT:=hZq (BuT.put HB9.out.1 HP9.out HB9.out.2 HB8.out.qb HB8.out.qB);have cw:w9.cell? ⟨B,0,none⟩=some v:=cell_of_row w9 B 0 _ _ (0,0) HB9.out.1;have fw:w9.frozen? ⟨B,0,none⟩=false:=frozen_of_row w9 B 0 _ _ HB9.out.1
     go_simp
     refine hK2.out _ _ (Q6.keptR T9.out (grown_cell w9 B 0 (.slice a9 n9 c9)) TX.out DG9.out.d DG9.out.g (by decide) (by decide)) (fun hHeld=>?_);clear hK2 K2;try simp only [Act.put,List.setIfInBounds_toArray,List.set_cons_zero,List.set_cons_succ]
     refine wpAnyH_done (by kernel_rfl) ?_ _;go_wp2;go_ret;exact ⟨⟨true,rfl,(fun _=>⟨LF.out,_,PT.out.1⟩),fun _=>rfl⟩,X9.out.trans PT.out.2⟩
    ·refine AllReadyH.cons (o:=⟨some 54,.box 135 (.tmp 53),133, "build.go:65",#[⟨8,.data⟩],none⟩) rfl (fun K2 hK2=>?_) AllReadyH.nil
     go_simp
     refine hK2.out _ _ (Q6.kept TD.out (World.grownBy_alloc wd _ none)) (fun hHeld=>?_);clear hK2 K2;try simp only [Act.put,List.setIfInBounds_toArray,List.set_cons_zero,List.set_cons_succ]
     have ga:=World.grownBy_alloc wd (.cells #[.int .i64 no,.slice (some ⟨g,0,none⟩) pn pn] 135) none;have HB7:=hZq (HBD.out.grown ga);have X7:=hZq (XD.out.trans (FrB.of ga));have N7:=hZq (node_leaf no HPD.out);have DG7:=hZq (T2g.keptN DGD.out ga);have L7:=hZq (KD0.out.kept (FrT.of ga));have M7:=hZq (KDL.out.kept (FrT.of ga));have T7:Hid ((wd.alloc (.cells #[.int .i64 no,.slice (some ⟨g,0,none⟩) pn pn] 135)).cell? ⟨D,0,none⟩=some (.int .i64 no)/\(wd.alloc (.cells #[.int .i64 no,.slice (some ⟨g,0,none⟩) pn pn] 135)).cell? ⟨g,0,none⟩=some (.slice ka0 kn0 kc0)/\(wd.alloc (.cells #[.int .i64 no,.slice (some ⟨g,0,none⟩) pn pn] 135)).cell? ⟨g,m*3,none⟩=some (.slice kaL knL kcL)):=Q6.kept TD.out ga;have Z7:Hid (w1.heap.size<=(wd.alloc (.cells #[.int .i64 no,.slice (some ⟨g,0,none⟩) pn pn] 135)).heap.size):=Nat.le_trans SD.out ga.size;clear ga;generalize wd.alloc (.cells #[.int .i64 no,.slice (some ⟨g,0,none⟩) pn pn] 135)=w7 at *;refine wpAnyH_take (i:=10) (oi:=⟨some 55,.makeInterface 133 (.tmp 54),116, "build.go:65",#[⟨9,.data⟩],none⟩) (v:=?_) rfl (by kernel_rfl) (by kernel_rfl) (by kernel_rfl) (fun _ _ _ h=>h) (Or.inl ⟨by rfl,?_⟩) (by assumption) ?_
     rotate_left
     ·intro w hSw;(try dsimp only at hSw);go_simp;(try with_reducible rfl)
     simp only [Act.put,List.setIfInBounds_toArray,List.set_cons_zero,List.set_cons_succ];refine wpAnyH_take (i:=23) (oi:=⟨some 68,.build 118 #[(0,.tmp 55),(1,.tmp 56),(2,.tmp 60),(3,.tmp 67)],118, "build.go:65",#[⟨10,.data⟩,⟨11,.data⟩,⟨15,.data⟩,⟨22,.data⟩],none⟩) (v:=?_) rfl (by kernel_rfl) (by kernel_rfl) (by kernel_rfl) (fun _ _ _ h=>h) (Or.inl ⟨by rfl,?_⟩) (by assumption) ?_
     rotate_left
     ·intro w hSw;(try dsimp only at hSw);go_simp;(try with_reducible rfl)
     simp only [Act.put,List.setIfInBounds_toArray,List.set_cons_zero,List.set_cons_succ];refine wpAnyH_ready (rs:=[4,24]) (by kernel_rfl) (by simp) ?_;refine AllReadyH.cons (o:=⟨some 49,.load 110 (.tmp 48),110, "build.go:65",#[⟨3,.data⟩],none⟩) rfl (fun K2 hK2=>?_) ?_
     ·have cw:=bu_cell0 HB7.out
      go_simp
      refine hK2.out _ _ (T7.out) (fun hHeld=>?_);clear hK2 K2;try simp only [Act.put,List.setIfInBounds_toArray,List.set_cons_zero,List.set_cons_succ]
      refine wpAnyH_ready (rs:=[24]) (by kernel_rfl) (by simp) ?_;refine AllReadyH.cons (o:=⟨some 69,.buildSlice 110 1 #[(0,.tmp 68)],110, "build.go:65",#[⟨23,.data⟩],none⟩) rfl (fun K2 hK2=>?_) AllReadyH.nil
      go_simp
      refine hK2.out _ _ (Q6.kept T7.out (World.grownBy_alloc w7 _ none)) (fun hHeld=>?_);clear hK2 K2;try simp only [Act.put,List.setIfInBounds_toArray,List.set_cons_zero,List.set_cons_succ]
      have ga:=World.grownBy_alloc w7 (.cells #[.iface 133 (.pointer (some ⟨wd.heap.size,0,none⟩)),.int .i64 (pl:Int),.slice ka0 kn0 kc0,.slice kaL knL kcL] 118) none;have HB8:=hZq (HB7.out.grown ga);have X8:=hZq (X7.out.trans (FrB.of ga));have Y8:=hZq (heap_alloc_new w7 (.cells #[.iface 133 (.pointer (some ⟨wd.heap.size,0,none⟩)),.int .i64 (pl:Int),.slice ka0 kn0 kc0,.slice kaL knL kcL] 118));have P8:Hid (PaT (w7.alloc (.cells #[.iface 133 (.pointer (some ⟨wd.heap.size,0,none⟩)),.int .i64 (pl:Int),.slice ka0 kn0 kc0,.slice kaL knL kcL] 118)) [.iface 133 (.pointer (some ⟨wd.heap.size,0,none⟩)),.int .i64 (pl:Int),.slice ka0 kn0 kc0,.slice kaL knL kcL] (⟨0,(⟨no,zipR ps cs⟩:LfT)⟩,pl)):=⟨_,_,_,_,_,_,_,rfl,NodeT.kept 0 N7.out (FrT.of ga),by have:=L7.out.kept (FrT.of ga);rwa [<- E0.out] at this,by have:=M7.out.kept (FrT.of ga);rwa [<- EL.out] at this⟩;have T8:Hid ((w7.alloc (.cells #[.iface 133 (.pointer (some ⟨wd.heap.size,0,none⟩)),.int .i64 (pl:Int),.slice ka0 kn0 kc0,.slice kaL knL kcL] 118)).cell? ⟨D,0,none⟩=some (.int .i64 no)/\(w7.alloc (.cells #[.iface 133 (.pointer (some ⟨wd.heap.size,0,none⟩)),.int .i64 (pl:Int),.slice ka0 kn0 kc0,.slice kaL knL kcL] 118)).cell? ⟨g,0,none⟩=some (.slice ka0 kn0 kc0)/\(w7.alloc (.cells #[.iface 133 (.pointer (some ⟨wd.heap.size,0,none⟩)),.int .i64 (pl:Int),.slice ka0 kn0 kc0,.slice kaL knL kcL] 118)).cell? ⟨g,m*3,none⟩=some (.slice kaL knL kcL)):=Q6.kept T7.out ga;have DG8:=hZq (T2g.keptN DG7.out ga);have Z8:Hid (q<=(w7.alloc (.cells #[.iface 133 (.pointer (some ⟨wd.heap.size,0,none⟩)),.int .i64 (pl:Int),.slice ka0 kn0 kc0,.slice kaL knL kcL] 118)).heap.size):=Nat.le_trans (Nat.le_trans HQ1.out Z7.out) ga.size;clear ga;generalize hg9:w7.heap.size=g9 at *;generalize w7.alloc (.cells #[.iface 133 (.pointer (some ⟨wd.heap.size,0,none⟩)),.int .i64 (pl:Int),.slice ka0 kn0 kc0,.slice kaL knL kcL] 118)=w8 at *;clear hg9;refine wpAnyH_ready (rs:=[25]) (by kernel_rfl) (by simp) ?_;refine AllReadyH.cons (o:=⟨some 70,.call { callee:=.builtin Go.Builtin.append,args:=#[.tmp 49,.tmp 69],argTypes:=#[110,110] },110, "build.go:65",#[⟨4,.data⟩,⟨24,.data⟩],none⟩) rfl (fun K2 hK2=>?_) AllReadyH.nil;refine step_append_pa rfl (.tmp 49) (.tmp 69) rfl q v s.parts (by rfl) HB8.out.ps (⟨0,(⟨no,zipR ps cs⟩:LfT)⟩,pl) _ P8.out g9 Y8.out (by rfl) HLP.out Z8.out ?_;intro v9 w9 hp9 hg9 hf9 ht9;obtain ⟨a9,c9,hv9,_⟩:=hp9.len;obtain ⟨n9,hn9⟩:∃ n,(s.parts++[((⟨0,(⟨no,zipR ps cs⟩:LfT)⟩:TrT),pl)]).length=n:=⟨_,rfl⟩;rw [hn9] at hv9;clear hn9;subst hv9;have hb9:=HB8.out.appended v hg9 ht9;have T9:Hid (w9.cell? ⟨D,0,none⟩=some (.int .i64 no)/\w9.cell? ⟨g,0,none⟩=some (.slice ka0 kn0 kc0)/\w9.cell? ⟨g,m*3,none⟩=some (.slice kaL knL kcL)):=Q6.keptR T8.out hg9 ht9 DG8.out.d DG8.out.g (by decide) (by decide);have TX:Hid (∀ i,some B=some i->TgT w9 i 112):=fun i e=>by cases e;exact ⟨_,_,hb9.1⟩
      have nD:some D≠v.ownBlock:=fun e=>tg_ne DG8.out.d (ht9 D e.symm) (by decide) rfl
      have nG:some g≠v.ownBlock:=fun e=>tg_ne DG8.out.g (ht9 g e.symm) (by decide) rfl
      have DG9:Hid (T2g w9 D g):=⟨TgT.keptR DG8.out.d hg9 nD,TgT.keptR DG8.out.g hg9 nG⟩;have HP9:=hZq hp9;have HB9:=hZq hb9;have X9:=hZq (X8.out.trans hf9);clear hp9 hg9 hf9 ht9 hb9 nD nG;refine hK2.out _ _ (T9.out) (fun hHeld=>?_);clear hK2 K2;try simp only [Act.put,List.setIfInBounds_toArray,List.set_cons_zero,List.set_cons_succ]
      refine wpAnyH_take (i:=26) (oi:=⟨some 71,.nilCheck (.tmp 45),0, "build.go:65",#[⟨0,.data⟩,⟨0,.phase⟩,⟨1,.phase⟩,⟨2,.phase⟩,⟨3,.phase⟩,⟨4,.phase⟩,⟨5,.phase⟩,⟨6,.phase⟩,⟨7,.phase⟩,⟨8,.phase⟩,⟨9,.phase⟩,⟨10,.phase⟩,⟨11,.phase⟩,⟨12,.phase⟩,⟨13,.phase⟩,⟨14,.phase⟩,⟨15,.phase⟩,⟨16,.phase⟩,⟨17,.phase⟩,⟨18,.phase⟩,⟨19,.phase⟩,⟨20,.phase⟩,⟨21,.phase⟩,⟨22,.phase⟩,⟨23,.phase⟩,⟨24,.phase⟩,⟨25,.phase⟩],none⟩) (v:=?_) rfl (by kernel_rfl) (by kernel_rfl) (by kernel_rfl) (fun _ _ _ h=>h) (Or.inl ⟨by rfl,?_⟩) (by assumption) ?_
      rotate_left
      ·intro w hSw;(try dsimp only at hSw);go_simp;(try with_reducible rfl)
      simp only [Act.put,List.setIfInBounds_toArray,List.set_cons_zero,List.set_cons_succ];refine wpAnyH_take (i:=27) (oi:=⟨some 72,.fieldAddr 112 (.tmp 71) 0,0, "build.go:65",#[⟨26,.data⟩,⟨0,.phase⟩,⟨1,.phase⟩,⟨2,.phase⟩,⟨3,.phase⟩,⟨4,.phase⟩,⟨5,.phase⟩,⟨6,.phase⟩,⟨7,.phase⟩,⟨8,.phase⟩,⟨9,.phase⟩,⟨10,.phase⟩,⟨11,.phase⟩,⟨12,.phase⟩,⟨13,.phase⟩,⟨14,.phase⟩,⟨15,.phase⟩,⟨16,.phase⟩,⟨17,.phase⟩,⟨18,.phase⟩,⟨19,.phase⟩,⟨20,.phase⟩,⟨21,.phase⟩,⟨22,.phase⟩,⟨23,.phase⟩,⟨24,.phase⟩,⟨25,.phase⟩],none⟩) (v:=?_) rfl (by kernel_rfl) (by kernel_rfl) (by kernel_rfl) (fun _ _ _ h=>h) (Or.inl ⟨by rfl,?_⟩) (by assumption) ?_
      rotate_left
      ·intro w hSw;(try dsimp only at hSw);go_simp;(try with_reducible rfl)
      simp only [Act.put,List.setIfInBounds_toArray,List.set_cons_zero,List.set_cons_succ];refine wpAnyH_ready (rs:=[28]) (by kernel_rfl) (by simp) ?_;refine AllReadyH.cons (o:=⟨none,.store 110 (.tmp 72) (.tmp 70),0, "build.go:65",#[⟨27,.data⟩,⟨25,.data⟩,⟨25,.chain⟩,⟨0,.phase⟩,⟨1,.phase⟩,⟨2,.phase⟩,⟨3,.phase⟩,⟨4,.phase⟩,⟨5,.phase⟩,⟨6,.phase⟩,⟨7,.phase⟩,⟨8,.phase⟩,⟨9,.phase⟩,⟨10,.phase⟩,⟨11,.phase⟩,⟨12,.phase⟩,⟨13,.phase⟩,⟨14,.phase⟩,⟨15,.phase⟩,⟨16,.phase⟩,⟨17,.phase⟩,⟨18,.phase⟩,⟨19,.phase⟩,⟨20,.phase⟩,⟨21,.phase⟩,⟨22,.phase⟩,⟨23,.phase⟩,⟨24,.phase⟩,⟨25,.phase⟩],none⟩) rfl (fun K2 hK2=>?_) AllReadyH.nil;have PT:=hZq (BuT.put HB9.out.1 HP9.out HB9.out.2 HB8.out.qb HB8.out.qB);have cw:w9.cell? ⟨B,0,none⟩=some v:=cell_of_row w9 B 0 _ _ (0,0) HB9.out.1;have fw:w9.frozen? ⟨B,0,none⟩=false:=frozen_of_row w9 B 0 _ _ HB9.out.1
      go_simp
      refine hK2.out _ _ (Q6.keptR T9.out (grown_cell w9 B 0 (.slice a9 n9 c9)) TX.out DG9.out.d DG9.out.g (by decide) (by decide)) (fun hHeld=>?_);clear hK2 K2;try simp only [Act.put,List.setIfInBounds_toArray,List.set_cons_zero,List.set_cons_succ]
      refine wpAnyH_done (by kernel_rfl) ?_ _;go_wp2;go_ret;exact ⟨⟨true,rfl,(fun _=>⟨LF.out,_,PT.out.1⟩),fun _=>rfl⟩,X9.out.trans PT.out.2⟩
     ·refine AllReadyH.cons (o:=⟨some 69,.buildSlice 110 1 #[(0,.tmp 68)],110, "build.go:65",#[⟨23,.data⟩],none⟩) rfl (fun K2 hK2=>?_) AllReadyH.nil
      go_simp
      refine hK2.out _ _ (Q6.kept T7.out (World.grownBy_alloc w7 _ none)) (fun hHeld=>?_);clear hK2 K2;try simp only [Act.put,List.setIfInBounds_toArray,List.set_cons_zero,List.set_cons_succ]
      have ga:=World.grownBy_alloc w7 (.cells #[.iface 133 (.pointer (some ⟨wd.heap.size,0,none⟩)),.int .i64 (pl:Int),.slice ka0 kn0 kc0,.slice kaL knL kcL] 118) none;have HB8:=hZq (HB7.out.grown ga);have X8:=hZq (X7.out.trans (FrB.of ga));have Y8:=hZq (heap_alloc_new w7 (.cells #[.iface 133 (.pointer (some ⟨wd.heap.size,0,none⟩)),.int .i64 (pl:Int),.slice ka0 kn0 kc0,.slice kaL knL kcL] 118));have P8:Hid (PaT (w7.alloc (.cells #[.iface 133 (.pointer (some ⟨wd.heap.size,0,none⟩)),.int .i64 (pl:Int),.slice ka0 kn0 kc0,.slice kaL knL kcL] 118)) [.iface 133 (.pointer (some ⟨wd.heap.size,0,none⟩)),.int .i64 (pl:Int),.slice ka0 kn0 kc0,.slice kaL knL kcL] (⟨0,(⟨no,zipR ps cs⟩:LfT)⟩,pl)):=⟨_,_,_,_,_,_,_,rfl,NodeT.kept 0 N7.out (FrT.of ga),by have:=L7.out.kept (FrT.of ga);rwa [<- E0.out] at this,by have:=M7.out.kept (FrT.of ga);rwa [<- EL.out] at this⟩;have T8:Hid ((w7.alloc (.cells #[.iface 133 (.pointer (some ⟨wd.heap.size,0,none⟩)),.int .i64 (pl:Int),.slice ka0 kn0 kc0,.slice kaL knL kcL] 118)).cell? ⟨D,0,none⟩=some (.int .i64 no)/\(w7.alloc (.cells #[.iface 133 (.pointer (some ⟨wd.heap.size,0,none⟩)),.int .i64 (pl:Int),.slice ka0 kn0 kc0,.slice kaL knL kcL] 118)).cell? ⟨g,0,none⟩=some (.slice ka0 kn0 kc0)/\(w7.alloc (.cells #[.iface 133 (.pointer (some ⟨wd.heap.size,0,none⟩)),.int .i64 (pl:Int),.slice ka0 kn0 kc0,.slice kaL knL kcL] 118)).cell? ⟨g,m*3,none⟩=some (.slice kaL knL kcL)):=Q6.kept T7.out ga;have DG8:=hZq (T2g.keptN DG7.out ga);have Z8:Hid (q<=(w7.alloc (.cells #[.iface 133 (.pointer (some ⟨wd.heap.size,0,none⟩)),.int .i64 (pl:Int),.slice ka0 kn0 kc0,.slice kaL knL kcL] 118)).heap.size):=Nat.le_trans (Nat.le_trans HQ1.out Z7.out) ga.size;clear ga;generalize hg9:w7.heap.size=g9 at *;generalize w7.alloc (.cells #[.iface 133 (.pointer (some ⟨wd.heap.size,0,none⟩)),.int .i64 (pl:Int),.slice ka0 kn0 kc0,.slice kaL knL kcL] 118)=w8 at *;clear hg9;refine wpAnyH_ready (rs:=[4]) (by kernel_rfl) (by simp) ?_;refine AllReadyH.cons (o:=⟨some 49,.load 110 (.tmp 48),110, "build.go:65",#[⟨3,.data⟩],none⟩) rfl (fun K2 hK2=>?_) AllReadyH.nil;have cw:=bu_cell0 HB8.out
      go_simp
      refine hK2.out _ _ (T8.out) (fun hHeld=>?_);clear hK2 K2;try simp only [Act.put,List.setIfInBounds_toArray,List.set_cons_zero,List.set_cons_succ]
      refine wpAnyH_ready (rs:=[25]) (by kernel_rfl) (by simp) ?_;refine AllReadyH.cons (o:=⟨some 70,.call { callee:=.builtin Go.Builtin.append,args:=#[.tmp 49,.tmp 69],argTypes:=#[110,110] },110, "build.go:65",#[⟨4,.data⟩,⟨24,.data⟩],none⟩) rfl (fun K2 hK2=>?_) AllReadyH.nil;refine step_append_pa rfl (.tmp 49) (.tmp 69) rfl q v s.parts (by rfl) HB8.out.ps (⟨0,(⟨no,zipR ps cs⟩:LfT)⟩,pl) _ P8.out g9 Y8.out (by rfl) HLP.out Z8.out ?_;intro v9 w9 hp9 hg9 hf9 ht9;obtain ⟨a9,c9,hv9,_⟩:=hp9.len;obtain ⟨n9,hn9⟩:∃ n,(s.parts++[((⟨0,(⟨no,zipR ps cs⟩:LfT)⟩:TrT),pl)]).length=n:=⟨_,rfl⟩;rw [hn9] at hv9;clear hn9;subst hv9;have hb9:=HB8.out.appended v hg9 ht9;have T9:Hid (w9.cell? ⟨D,0,none⟩=some (.int .i64 no)/\w9.cell? ⟨g,0,none⟩=some (.slice ka0 kn0 kc0)/\w9.cell? ⟨g,m*3,none⟩=some (.slice kaL knL kcL)):=Q6.keptR T8.out hg9 ht9 DG8.out.d DG8.out.g (by decide) (by decide);have TX:Hid (∀ i,some B=some i->TgT w9 i 112):=fun i e=>by cases e;exact ⟨_,_,hb9.1⟩
      have nD:some D≠v.ownBlock:=fun e=>tg_ne DG8.out.d (ht9 D e.symm) (by decide) rfl
      have nG:some g≠v.ownBlock:=fun e=>tg_ne DG8.out.g (ht9 g e.symm) (by decide) rfl
      have DG9:Hid (T2g w9 D g):=⟨TgT.keptR DG8.out.d hg9 nD,TgT.keptR DG8.out.g hg9 nG⟩;have HP9:=hZq hp9;have HB9:=hZq hb9;have X9:=hZq (X8.out.trans hf9);clear hp9 hg9 hf9 ht9 hb9 nD nG;refine hK2.out _ _ (T9.out) (fun hHeld=>?_);clear hK2 K2;try simp only [Act.put,List.setIfInBounds_toArray,List.set_cons_zero,List.set_cons_succ]
      refine wpAnyH_take (i:=26) (oi:=⟨some 71,.nilCheck (.tmp 45),0, "build.go:65",#[⟨0,.data⟩,⟨0,.phase⟩,⟨1,.phase⟩,⟨2,.phase⟩,⟨3,.phase⟩,⟨4,.phase⟩,⟨5,.phase⟩,⟨6,.phase⟩,⟨7,.phase⟩,⟨8,.phase⟩,⟨9,.phase⟩,⟨10,.phase⟩,⟨11,.phase⟩,⟨12,.phase⟩,⟨13,.phase⟩,⟨14,.phase⟩,⟨15,.phase⟩,⟨16,.phase⟩,⟨17,.phase⟩,⟨18,.phase⟩,⟨19,.phase⟩,⟨20,.phase⟩,⟨21,.phase⟩,⟨22,.phase⟩,⟨23,.phase⟩,⟨24,.phase⟩,⟨25,.phase⟩],none⟩) (v:=?_) rfl (by kernel_rfl) (by kernel_rfl) (by kernel_rfl) (fun _ _ _ h=>h) (Or.inl ⟨by rfl,?_⟩) (by assumption) ?_
      rotate_left
      ·intro w hSw;(try dsimp only at hSw);go_simp;(try with_reducible rfl)
      simp only [Act.put,List.setIfInBounds_toArray,List.set_cons_zero,List.set_cons_succ];refine wpAnyH_take (i:=27) (oi:=⟨some 72,.fieldAddr 112 (.tmp 71) 0,0, "build.go:65",#[⟨26,.data⟩,⟨0,.phase⟩,⟨1,.phase⟩,⟨2,.phase⟩,⟨3,.phase⟩,⟨4,.phase⟩,⟨5,.phase⟩,⟨6,.phase⟩,⟨7,.phase⟩,⟨8,.phase⟩,⟨9,.phase⟩,⟨10,.phase⟩,⟨11,.phase⟩,⟨12,.phase⟩,⟨13,.phase⟩,⟨14,.phase⟩,⟨15,.phase⟩,⟨16,.phase⟩,⟨17,.phase⟩,⟨18,.phase⟩,⟨19,.phase⟩,⟨20,.phase⟩,⟨21,.phase⟩,⟨22,.phase⟩,⟨23,.phase⟩,⟨24,.phase⟩,⟨25,.phase⟩],none⟩) (v:=?_) rfl (by kernel_rfl) (by kernel_rfl) (by kernel_rfl) (fun _ _ _ h=>h) (Or.inl ⟨by rfl,?_⟩) (by assumption) ?_
      rotate_left
      ·intro w hSw;(try dsimp only at hSw);go_simp;(try with_reducible rfl)
      simp only [Act.put,List.setIfInBounds_toArray,List.set_cons_zero,List.set_cons_succ];refine wpAnyH_ready (rs:=[28]) (by kernel_rfl) (by simp) ?_;refine AllReadyH.cons (o:=⟨none,.store 110 (.tmp 72) (.tmp 70),0, "build.go:65",#[⟨27,.data⟩,⟨25,.data⟩,⟨25,.chain⟩,⟨0,.phase⟩,⟨1,.phase⟩,⟨2,.phase⟩,⟨3,.phase⟩,⟨4,.phase⟩,⟨5,.phase⟩,⟨6,.phase⟩,⟨7,.phase⟩,⟨8,.phase⟩,⟨9,.phase⟩,⟨10,.phase⟩,⟨11,.phase⟩,⟨12,.phase⟩,⟨13,.phase⟩,⟨14,.phase⟩,⟨15,.phase⟩,⟨16,.phase⟩,⟨17,.phase⟩,⟨18,.phase⟩,⟨19,.phase⟩,⟨20,.phase⟩,⟨21,.phase⟩,⟨22,.phase⟩,⟨23,.phase⟩,⟨24,.phase⟩,⟨25,.phase⟩],none⟩) rfl (fun K2 hK2=>?_) AllReadyH.nil;have PT:=hZq (BuT.put HB9.out.1 HP9.out HB9.out.2 HB8.out.qb HB8.out.qB);have cw:w9.cell? ⟨B,0,none⟩=some v:=cell_of_row w9 B 0 _ _ (0,0) HB9.out.1;have fw:w9.frozen? ⟨B,0,none⟩=false:=frozen_of_row w9 B 0 _ _ HB9.out.1
      go_simp
      refine hK2.out _ _ (Q6.keptR T9.out (grown_cell w9 B 0 (.slice a9 n9 c9)) TX.out DG9.out.d DG9.out.g (by decide) (by decide)) (fun hHeld=>?_);clear hK2 K2;try simp only [Act.put,List.setIfInBounds_toArray,List.set_cons_zero,List.set_cons_succ]
      refine wpAnyH_done (by kernel_rfl) ?_ _;go_wp2;go_ret;exact ⟨⟨true,rfl,(fun _=>⟨LF.out,_,PT.out.1⟩),fun _=>rfl⟩,X9.out.trans PT.out.2⟩
   ·go_wp2_with fail
    refine (cfits_any _ _).mono ?_;rintro en w6 ⟨rfl,hw6⟩;rw [hw6,decide_eq_false hsz];clear hw6;have HSZ:=hZq hsz;clear hsz;go_wp2;go_ret;exact alx_no rfl (fun l=>HSZ.out l.sz) X5.out
end Go.Proofs.YteaahinjcfjngaaGreat
