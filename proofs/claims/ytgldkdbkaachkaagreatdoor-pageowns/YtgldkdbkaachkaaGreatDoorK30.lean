import Derived.Test.YtgldkdbkaachkaaGreatDoorK24
import Derived.Test.YtgldkdbkaachkaaGreatDoorK29
import Derived.Test.YtgldkdbkaachkaaGreatDoorK25
set_option maxRecDepth 100000
set_option maxHeartbeats 4000000
namespace Go.Proofs.YtgldkdbkaachkaaGreatDoor
open Go.RowKit
variable {ps:Int}{F:Int->Nat->Nat->Value}{B base c i ag j r:Nat}{Q SM:Nat->Prop}{vb vg:Value}{w w' w0 w1:World}{I:World->Prop}
theorem zK:(Tryz.prog.info? 23).map (fun i=>(i.zero,i.size,i.bytes))=some (some (.slice none 0 0),1,24):=by kernel_rfl
theorem KW {kd:Nat->eP}{aM:Nat->World->Nat->(Nat->Value)->au->Value->Prop}(hK:Ku kd aM){cs:Nat->Value}{L:Nat->List au}{ys:Nat->List Value}(h:gU kd aM w B base cs L ys)(Xh:kd 0=gS)(es0:aM 0=kZ)(F:Int->Nat->Nat->Value)(ek:kd 3=gC F)(es:aM 3=oN)(a:Option Addr)(n cap:Nat)(Z:List (List Int))(D:List au)(PA:Tl w base cs a Z)(bp:∀ z∈Z,Bt z)(JD:Z.length=n)(hn:n<=5000)(hzs:∀ z∈Z,z.length<=100000)
  (hDl:D.length=n) (hD:∀ i,i<n->∃ b off k,a=some ⟨b,off,none⟩/\D[i]?=some k/\w.cell? ⟨b,off+i,none⟩=some k.v)
  (hDo:∀ s∈D,Ho w base cs 1 5 s) (hDp:D.Pairwise au.bR) (hDa:∀ t∈L 0,∀ s∈D,t.bR s) (hm:(L 0).length+n<=1000000) (hm3:(L 3).length<=1000000) :
  Calls Tryz.prog 36 #[.pointer (some ⟨B,0,none⟩),.slice a n cap] w fun en w'=>en=.returned (.tuple #[])/\∃ cs' YY y,pF w w' B base cs cs'/\(∀ s:au,s.v=.slice a n cap->s.n=n->s.c=cap->Ho w base cs (kd 3).W (kd 3).et s->(∀ t∈bI L 0 D 3,t.bR s)->gU kd aM w' B base cs' (bI (bI L 0 D) 3 [s]) (CK YY 3 [y]))/\(n=0->cap=0->∃ s,w.heap.size<=s.g/\s.C=0/\gU kd aM w' B base cs' (bI (bI L 0 D) 3 [s]) (CK YY 3 [y])):=by
 obtain ⟨i0,hi,hz0,hz1,hz2⟩:=info_parts zK;have S0:Hid (∃ cz YY,gU kd aM w B base cz (bI L 0 (D.take 0)) YY/\pF w w B base cs cz):=⟨cs,ys,by rw [List.take_zero,Hj];exact h,pF.of ((Qt.refl _).grown none)⟩;have HD:=hJ hD;have HDO:=hJ hDo;have OO:=hJ PA
 have AP:Hid (∀ j k,D[j]?=some k->∀ t∈bI L 0 (D.take j) 0,t.bR k):=fun j k hk t ht=>by
  rw [cT] at ht;rcases List.mem_append.1 ht with h | h
  ·exact hDa t h k (List.mem_of_getElem? hk)
  ·obtain ⟨i,hi⟩:=List.mem_iff_getElem?.1 h
   have Ns:=(List.getElem?_eq_some_iff.1 hi).1;rw [List.length_take] at Ns;rw [List.getElem?_take,if_pos (by omega)] at hi;exact oI hDp hi hk (by omega)
 clear h PA hD hDo hDp hDa;go_enter Tryz.func36,Tryz.ntmps36;go_wp2;go_loopw [4] (fun si wr=>∃ i:Nat,i<=n/\si=.int .i64 i/\∃ cz YY,gU kd aM wr B base cz (bI L 0 (D.take i)) YY/\pF w wr B base cs cz) (fun si _=>n - (intOf si).toNat)
 case atStart=>exact ⟨0,Nat.zero_le _,rfl,S0.out⟩
 case round =>
  obtain ⟨i,hi',rfl,cz,YY,hT,hkf⟩:=hrel;have HT:=hJ hT;have xL:=hJ hkf;clear hT hkf S0
  by_cases hlt:i<n
  ·obtain ⟨b,off,k,rfl,hk,ck⟩:=HD.out i hlt
   obtain ⟨b',off',ao,m,c,e,q1,q2,q3,q4,q5⟩:=OO.out.row i (by omega);simp only [Option.some.injEq,Addr.mk.injEq,and_true] at e;obtain ⟨rfl,rfl⟩:=e;have SJ:=HDO.out k (List.mem_of_getElem? hk);obtain ⟨ak,ek',_⟩:=SJ.ok.val;have Xi:=ck;rw [q1] at Xi;have e1:=Option.some.inj Xi;rw [ek'] at e1;simp only [Value.slice.injEq] at e1;obtain ⟨rfl,rfl,rfl⟩:=e1;have c1:=xL.out.toKee.cell q1 q5;have HQ:=hJ (q2.cE xL.out.toKee);have HKR:=hJ (SJ.cE xL.out.toKee);have HEK:=hJ ek';have HK:=hJ hk;have g0:(0:Int)<=(i:Int):=by omega
   have g1:(i:Int)<(n:Int):=by omega
   have hLk:(bI L 0 (D.take i) 0).length<=1000000:=by rw [cT,List.length_append,List.length_take];omega
   have hkn:=SJ.n;clear ck Xi q1 q2 q5 SJ hk ek'
   go_wp2_with fail
   refine (jd hK HT.out Xh es0 ao k.n k.c _ HQ.out hkn hLk).mono ?_;rintro en w1 ⟨rfl,c1',y1,k1,k2,_⟩;have YB:=hJ (k2 k HEK.out rfl rfl (by rw [Xh];exact HKR.out) (AP.out i k HK.out));have Fo:=hJ (xL.out.trans k1)
   have etk:D.take (i+1)=D.take i++[k]:=by
    rw [List.take_add_one,HK.out];rfl
   rw [yZ,<- etk] at YB;clear k1 k2 etk HT xL HQ HKR c1;go_wp2;go_roundw
   case rel=>exact ⟨i+1,by omega,by go_num,_,_,YB.out,Fo.out⟩
   case measure=>simp [intOf];omega
  ·have hin:n=i:=by omega
   subst hin;have etl:D.take n=D:=List.take_of_length_le (by omega);rw [etl] at HT;clear etl;have DZ:=hJ (OO.out.cE xL.out.toKee);have Sr:(bI L 0 D 3).length<=1000000:=by rw [aB _ _ (by omega)];exact hm3
   have HX:=hJ HT.out.t.box;have Hp:Hid (wr.ownsRow base 23 1 (cz 11) (bI L 0 D 3).length ((bI L 0 D 3).map au.v)):=by have:=(HT.out.k 3 (by omega)).ob;rw [ek] at this;exact this
   have HOW:Hid (wr.ownsRow base 23 1 (cz 12) (bI L 0 D 3).length (YY 3)):=by have:=(HT.out.k 3 (by omega)).ow;rw [ek] at this;exact this
   have qF:=HT.out.t.qj 11 (by omega);have qi:=HT.out.t.qj 12 (by omega);have hbase:=HT.out.t.bB.2;have qZ:=HT.out.t.bB.1;have wL:∀ i,(cz 11).ownBlock=some i->(cz 12).ownBlock≠some i:=HT.out.t.un 11 12 (by omega) (by omega) (by omega);have Ss:=hJ wL;have k2:=HX.out.cell 11 (by omega);obtain ⟨LJ,zj⟩:∃ LJ,LJ=bI L 0 D 3:=⟨_,rfl⟩;obtain ⟨YJ,zk⟩:∃ YJ,YJ=YY 3:=⟨_,rfl⟩;rw [<- zj] at Hp HOW Sr;rw [<- zk] at HOW;have Sw:=hJ zj;have Sz:=hJ zk;clear zj zk
   go_wp2_with (at_builtin;refine wpList_append_lies _ rfl _ _ 38 rfl base 23 i0 (.slice none 0 0) 1 24 Tryz.underlying38 hi hz0 hz1 hz2 rfl (by decide) (cz 11) LJ.length (LJ.map au.v) rfl (Hp.out.alloc _) ⟨wr.heap.size,0,none⟩ 1 1 [.slice a n cap] rfl rfl (cell_one_new _ _ _) (by intro u hu;simp at hu;subst hu;rfl) (by omega) (by unfold maxLen;omega) (by omega) (by simp;omega) (wr.heap.size+1) (by simp) ?_)
   intro g1 c1 w1 hown1 hg1 dI iZ;have X1:Hid (uU w1 B cz):=(HX.out.kept (World.grownBy_alloc _ _ none) (by simp)).kept hg1 (Ne.symm qF);have X2:Hid (uU (w1.setCell ⟨B,11,none⟩ (.slice (some ⟨g1,0,none⟩) (LJ.length+1) c1)) B (dr cz 11 (.slice (some ⟨g1,0,none⟩) (LJ.length+1) c1))):=X1.out.set 11 (by omega) _;have QE:=X1.out.cell 11 (by omega);have f2':=X1.out.fz 11 (by omega);have qH:(w1.setCell ⟨B,11,none⟩ (.slice (some ⟨g1,0,none⟩) (LJ.length+1) c1)).cell? ⟨B,12,none⟩=some (cz 12):=(X2.out.cell 12 (by omega)).trans (by rw [bT _ _ (by omega)]);have f3':=X2.out.fz 12 (by omega);have H1:=hJ hown1;have bj:=hJ hg1;clear hown1 hg1;go_wp2;obtain ⟨w2,hw2⟩:∃ w2,w2=w1.setCell ⟨B,11,none⟩ (.slice (some ⟨g1,0,none⟩) (LJ.length+1) c1):=⟨_,rfl⟩;rw [<- hw2] at X2 qH f3' ⊢;have Hq:=hJ hw2;clear hw2;have kK:w2.heap.size=w1.heap.size:=by rw [Hq.out];simp
   have Oy:wr.heap.size<w1.heap.size:=by have:=bj.out.size;simp at this;omega
   have fx:w1.grownBy w2 (some B):=by rw [Hq.out];exact aA _ _ _ _
   have SA:Hid (Kee wr w2 base cz cz):=⟨by omega,fun d hd hf=>⟨(fx.block d (by omega) (fun e=>by have:=hf.1;have:=Option.some.inj e;omega)).trans ((bj.out.block d (by simp;omega) (fun e=>hf.2 11 (by omega) e.symm)).trans ((World.grownBy_alloc wr _ none).block d hd (by simp))),hf⟩⟩;have Y2:Hid (∀ w':World,w'.heap=w2.heap->Lz w' a Z):=fun w' e=>(DZ.out.cE SA.out).lz.heap e
   have O2:Hid (w2.ownsRow base 23 1 (cz 12) LJ.length YJ) :=
    (((HOW.out.alloc _).kept bj.out (by
     cases mX:(cz 12).ownBlock with
     | none=>exact Or.inl rfl
     | some i=>exact Or.inr (fun e=>wL i e.symm mX))).kept fx (Or.inr qi))
   have P2:Hid (w2.ownsRow base 23 1 (.slice (some ⟨g1,0,none⟩) (LJ.length+1) c1) (LJ.length+1) (LJ.map au.v++[.slice a n cap])) :=
    H1.out.kept fx (Or.inr (fun e=>by
     have e':g1=B:=Option.some.inj e;have:=HX.out.lt;rcases dI with h | h
     ·exact qF (by rw [h,e'])
     ·omega))
   have zl:=hJ fx;clear fx;have oO:=hJ kK;have hb2:base<=w2.heap.size:=by omega
   have SC:=hJ (fun i e=>(HOW.out.lt i e).2:∀ i,(cz 12).ownBlock=some i->i<wr.heap.size);clear kK;generalize mX:cz 12=vw at *
   go_region_law
    ((first
     | (go_simp;go_at_call 23;refine (zh a n cap Z _ (by exact Y2.out _ rfl) JD hn hzs).mono ?_;rintro en w3 ⟨⟨v3,xs3,rfl,lZ,Pd⟩,hg3,FA⟩;obtain ⟨bo,cb,rfl⟩:=gV lZ;have jy:w3.cell? ⟨B,12,none⟩=some vw:=hg3.cell (by simpa using qH) (by simp);have nn3:=World.new_ne w3 ⟨B,12,none⟩ jy;have SD:∀ o:Obj,(w3.alloc o).cell? ⟨B,12,none⟩=some vw:=(fun o=>by rw [World.cell?_alloc_lt _ _ _ (World.block_lt_of_cell? _ _ jy)];exact jy);have SE:w3.frozen? ⟨B,12,none⟩=false:=(hg3.frozen_far ⟨B,12,none⟩ (by simpa using World.block_lt_of_cell? _ _ qH) (by simp)).trans (by simpa using f3'))
     | (refine step_append_lies _ (by rfl) _ _ _ (by rfl) base 23 i0 (.slice none 0 0) 1 24 Tryz.underlying38 hi hz0 hz1 hz2 (by rfl) (by decide) vw LJ.length YJ (by rfl) (by exact ((O2.out.kept ((Qt.refl w2).drew.grown none) (by cases vw.ownBlock <;> simp)).kept hg3 (by cases vw.ownBlock <;> simp)).alloc _) ⟨w3.heap.size,0,none⟩ 1 1 [.slice bo n cb] (by rfl) (by rfl) (by exact cell_one_new _ _ _) (by intro u hu;simp at hu;subst hu;rfl) (by omega) (by unfold maxLen;omega) (by omega) (by have h9:=hg3.size;simp at h9;simp;omega) (w3.heap.size+1) (by simp) ?_;intro g4 c4 w4 fS hg4 jO ED;have kk4:w4.cell? ⟨B,12,none⟩=some vw:=hg4.cell (by rw [World.cell?_alloc_lt _ _ _ (World.block_lt_of_cell? _ _ jy)];exact jy) (Ne.symm qi);have ff4:w4.frozen? ⟨B,12,none⟩=false:=(hg4.frozen_far ⟨B,12,none⟩ (by have:=World.block_lt_of_cell? _ _ jy;simp at this ⊢;omega) (Ne.symm qi)).trans ((World.frozen?_of_block ((World.grownBy_alloc w3 _ none).block B (World.block_lt_of_cell? _ _ jy) (by simp))).trans SE))))
   all_goals
    refine Go.Great.bodyPost_end0 rfl rfl ?_;subst mX;have zm:w2.heap.size<=w3.heap.size:=by have:=hg3.size;simpa using this
    have fu:=aA w4 B 12 (.slice (some ⟨g4,0,none⟩) (LJ.length+1) c4);have SF:=Fi.make (q:=11) (by omega) HX.out.lt HOW.out qF qi Ss.out bj.out dI iZ zl.out oO.out X2.out P2.out hg3 zm fS hg4 jO;have hBl:=HX.out.lt;have hS:=oO.out;have zn:=SC.out;have zo:Fi (kd 3).lt 11 wr (w4.setCell ⟨B,12,none⟩ (.slice (some ⟨g4,0,none⟩) (LJ.length+1) c4)) B cz base (bI L 0 D 3).length ((bI L 0 D 3).map au.v) (YY 3) (.slice a n cap) (.slice bo n cb) (.slice (some ⟨g1,0,none⟩) (LJ.length+1) c1) (.slice (some ⟨g4,0,none⟩) (LJ.length+1) c4):=by rw [<- Sw.out,<- Sz.out,ek];exact SF
    obtain ⟨s1,s2,s3⟩:=HT.out.snoc hK 3 11 (by omega) (by rw [ek];rfl) zo
    have zq:g4<w2.heap.size∨w3.heap.size<=g4:=by
     rcases jO with h | h
     ·exact Or.inl (by have:=zn g4 h;omega)
     ·exact Or.inr (by omega)
    have FC:∀ b,w2.heap.size<=b->b<w3.heap.size->ja base (dr (dr cz 11 (.slice (some ⟨g1,0,none⟩) (LJ.length+1) c1)) (11+1) (.slice (some ⟨g4,0,none⟩) (LJ.length+1) c4)) b:=fun b h1 h2=>lc HT.out.t (lo:=w2.heap.size) (hi:=w3.heap.size) (by omega) (by omega) zq h1 h2
    have KO:∀ {H W:Nat} {t:TypeId} {v:Value} {m:Nat} {xs:List Value},w3.ownsRow H t W v m xs->w2.heap.size<=H->(w4.setCell ⟨B,12,none⟩ (.slice (some ⟨g4,0,none⟩) (LJ.length+1) c4)).ownsRow H t W v m xs:=fun {H W t v m xs} ho hH=>by
     have hne:∀ i,v.ownBlock=some i->w2.heap.size<=i:=fun i e=>by have:=(ho.lt i e).1;omega
     have h5:=(ho.alloc (.cells #[.slice bo n cb] 23)).kept hg4 (by
      cases hv:v.ownBlock with
      | none=>exact Or.inl rfl
      | some i=>exact Or.inr (fun e=>by have:=hne i hv;have:=zn i e.symm;omega))
     exact h5.kept fu (by
      cases hv:v.ownBlock with
      | none=>exact Or.inl rfl
      | some i=>exact Or.inr (fun e=>by have:=hne i hv;have:=Option.some.inj e;omega))
    have hs3:w2.heap.size<w3.heap.size∨0<n:=by
     rcases Nat.eq_zero_or_pos n with h0 | h0
     ·exact Or.inl (FA h0).lt
     ·exact Or.inr h0
    have SM:(∀ (s:au),s.v=.slice a n cap->s.n=n->s.c=cap->aM 3 (w4.setCell ⟨B,12,none⟩ (.slice (some ⟨g4,0,none⟩) (LJ.length+1) c4)) base (dr (dr cz 11 (.slice (some ⟨g1,0,none⟩) (LJ.length+1) c1)) (11+1) (.slice (some ⟨g4,0,none⟩) (LJ.length+1) c4)) s (.slice bo n cb)):=fun s e1 e2 e3=>by
     subst e2 e3;rw [es]
     have hsy:Sy (w4.setCell ⟨B,12,none⟩ (.slice (some ⟨g4,0,none⟩) (LJ.length+1) c4)) w2.drew.heap.size xs3 Z:=⟨Pd.len,fun j hj=>by
      obtain ⟨g,H,k0,k1,k2⟩:=Pd.el j hj;exact ⟨g,H,k0,k1,KO k2 k0⟩⟩
     have wX:Tl w3 base (dr (dr cz 11 (.slice (some ⟨g1,0,none⟩) (LJ.length+1) c1)) (11+1) (.slice (some ⟨g4,0,none⟩) (LJ.length+1) c4)) bo Z:=Xf lZ Pd (fun z hz=>by have:=hzs z hz;omega) (fun i h1 h2=>FC i h1 h2);refine ⟨a,bo,cb,Z,e1,rfl,(DZ.out.cE s2.toKee),⟨fun i hi=>?_⟩,bp,JD⟩;obtain ⟨b,off,ao,m,c,q1,q2,q3,q4,q5,q6⟩:=wX.row i hi;have Oo:=KO lZ (Nat.le_refl _);obtain ⟨g,H,k0,k1,k2⟩:=hsy.el i hi;have hl:xs3.length=s.n:=by have:=lZ.1;simpa using this
     have hl2:=Pd.len;rcases lZ.2 with ⟨e,h0⟩ | ⟨gg,cap',cur,e,_⟩
     ·omega
     ·injection e with e4
      subst e4;have hc:=Oo.cellAt i (by omega);simp only [Option.some.injEq,Addr.mk.injEq,and_true] at q1;obtain ⟨rfl,rfl⟩:=q1;have b2:=(Pd.el i hi);obtain ⟨g',H',k0',MN,QE⟩:=b2;rw [k1] at MN;have ege:g=g':=by injection MN with MN;injection MN with MN;injection MN with MN;injection MN
      subst ege;have b3:=QE.lt g rfl;have hzl:=hzs _ (OB hi);exact ⟨gg,0,_,_,_,rfl,by rw [Nat.zero_add,hc];exact k1,⟨ai.aP k2,fun ad e _=>by obtain rfl:=Option.some.inj e;have alY:w2.heap.size<=H':=k0';exact FC g (by omega) b3.2⟩,Nat.le_refl _,by omega,q6⟩
    refine ⟨rfl,_,YY,.slice bo n cb,xL.out.trans s2,fun s e1 e2 e3 hr hap=>?_,fun e1 e2=>⟨rh (.slice a n cap) w2.heap.size,by have:=xL.out.size;show _<=w2.heap.size;omega,rfl,?_⟩⟩
    ·have hr':=hr.cE xL.out.toKee
     exact s3 s e1 hr'.ok (s2.toKee.there hr'.th hr'.fr) hr'.n (hr'.bl.cE s2.toKee hr'.fr) (s2.block s.g hr'.bl.lt hr'.fr).2 hap (SM s e1 e2 e3)
    ·subst e1 e2
     refine s3 (rh (.slice a 0 0) w2.heap.size) rfl (uY _ _ _) (jb _ _ _) (by simp [rh]) ?_ (FC _ (Nat.le_refl _) (FA rfl).lt) (fun t _=>jc _ _ _) (SM _ rfl rfl rfl);have Dz:mo w3 25 w2.heap.size:=FA rfl;rw [ek];exact ((Dz.row' (World.grownBy_alloc _ _ none) (by simp)).row' hg4 (fun e=>by have:=zn _ e.symm;omega)).row' fu (fun e=>by have:=Option.some.inj e;omega)
theorem vv (B:Nat)(ps:Int)(hp:0<=ps/\ps<=1)(id:Nat)(dN:Int)(F:Int->Nat->Nat->Value)(S:Nat->Prop)(s:au)(v:Value)(w:World)(h:w.cell? ⟨B,1,none⟩=some (.int .i64 ps))(hi:id<=1099511627776)(hs:s.Ok 1)(hsh:s.cK w (F ps id))(hm:∀ x,x<s.N->Tv w S ps id x (F ps id x))(ht:Tz w)(e1:dN=(id:Int))(e2:v=s.v) :
  Calls Tryz.prog 162 #[.pointer (some ⟨B,0,none⟩),v,.int .i64 dN] w fun en w'=>en=.returned (.bool true)/\w.grownBy w' none:=by
 subst e1 e2;obtain ⟨ao,hv,hao⟩:=hs.val;have HC:=hJ h;have HS:=hJ hsh;have gW:=hJ hs;have HM:=hJ hm;have HT:=hJ ht;have h1:=hs.le;have h2:=hs.max;have sJ:=hJ hao;clear h hsh hao hs hm ht;rw [hv];clear hv;go_enter Tryz.func162,Tryz.ntmps162;go_wp2;go_loopw [7] (fun sj wr=>∃ j:Nat,j<=s.n/\sj=.int .i64 j/\w.grownBy wr none) (fun sj _=>s.n - (intOf sj).toNat)
 case atStart=>exact ⟨0,Nat.zero_le _,rfl,(Qt.refl _).grown none⟩
 case round =>
  obtain ⟨j,hj,rfl,hg⟩:=hrel;have HG:=hJ hg;clear hg
  by_cases hlt:j<s.n
  ·obtain rfl:=sJ.out (by omega)
   have hN:j<s.N:=by have:=gW.out.cell hlt (show 0<1 by decide);simpa using this
   obtain ⟨b,n,c,ev,_,_,hby⟩:=HM.out j hN;have hcell:=HS.out j hN;rw [ev] at hcell;have HB:=hJ hby;clear hby ev
   go_wp2_with fail
   refine (ng B ps id j _ _ _ (HG.out.cell HC.out (by simp)) hp hi (by omega) rfl rfl (HT.out.ae HG.out)).mono ?_;rintro en w1 ⟨⟨b1,n1,c1,rfl,_,_,hb1⟩,hg1⟩;have bj:=hJ (gQ HG.out hg1);have hc1:w1.cell? ⟨s.g,s.o+j,none⟩=some (.slice (some ⟨b,0,none⟩) n c):=bj.out.cell hcell (by simp);have Xp:=hb1.len;have hn:=HB.out.len;obtain rfl:n1=n:=by omega
   have HY:=hJ (cw _ _ _ _ _ _ _ _ w1 (HB.out.ae bj.out) hb1 rfl);clear hcell hb1 hg1 HG Xp hn
   go_wp2_with fail
   refine HY.out.mono ?_;rintro en w2 ⟨rfl,hw2⟩;subst hw2;go_wp2;go_roundw
   case rel=>exact ⟨j+1,by omega,by go_num,bj.out⟩
   case measure=>simp [intOf];omega
  ·have ue:j=s.n:=by omega
   subst ue;go_wp2;go_ret;exact ⟨rfl,HG.out⟩
theorem vy (B:Nat)(ps:Int)(hp:0<=ps/\ps<=1)(F:Int->Nat->Nat->Value)(S:Nat->Prop)(nk:Nat->Nat)(vb vg:Value)(r c r2 c2:Nat)(L M:List au)(ag:Nat)(w:World)(hid:ag<=1000000)(h:Kc (gC F) w B ps vb r c L)(hg:Kg (gC F) w B ps vg r2 c2 M ag)
  (hml:M.length=L.length∨M.length=0) (hs:∀ (k:Nat) (s:au),L[k]?=some s->s.cK w (F ps (ag+k+1))) (hlk:Ak w F S ps ag nk) (Xp:∀ (k:Nat) (s:au),L[k]?=some s->s.N<=nk k) (NW:∀ (k:Nat) (s:au),M[k]?=some s->s.N<=nk k) (ht:Tz w) :
  Calls Tryz.prog 84 #[.pointer (some ⟨B,0,none⟩),.int .i64 ag] w fun en w'=>en=.returned (.tuple #[.int .i64 ((ag+L.length:Nat):Int),.bool true])/\w.grownBy w' none:=by
 have iA:=h.many;obtain ⟨vo,dZ,dh⟩:=h.row.val;rw [List.length_map] at dZ dh;obtain ⟨go,mj,hgo⟩:=hg.row.val;rw [List.length_map] at mj hgo;have jx:=hJ dh;have SH:=hJ hgo;have HB:=hJ h;have HG:=hJ hg;have HS:=hJ hs;have HK:=hJ hlk;have Wc:=hJ Xp;have Rc:=hJ NW;have HT:=hJ ht;clear h hg hs dh hgo hlk Xp NW ht;subst dZ mj;go_enter Tryz.func84,Tryz.ntmps84;go_wp2;go_loopw [1,6,7] (fun oP sa si wr=>∃ i:Nat,i<=L.length/\si=.int .i64 i/\sa=.bool true/\oP=.int .i64 ((ag+i:Nat):Int)/\w.grownBy wr none) (fun _ _ si _=>L.length - (intOf si).toNat)
 case atStart=>exact ⟨0,Nat.zero_le _,rfl,rfl,rfl,(Qt.refl _).grown none⟩
 case round =>
  obtain ⟨i,hi,rfl,rfl,rfl,hgr⟩:=hrel;have fA:=hJ hgr;have cl:wr.cell? ⟨B,11,none⟩=some (.slice vo L.length c):=hgr.cell HB.out.lists (by simp);clear hgr
  by_cases hlt:i<L.length
  ·obtain ⟨s,hs⟩:∃ s,L[i]?=some s:=⟨L[i],List.getElem?_eq_getElem hlt⟩
   have Aj:=hJ hs;obtain rfl:=jx.out (by omega);obtain ⟨ao,eY,hao⟩:=(HB.out.ok s (List.mem_of_getElem? hs)).1.val
   have cr:wr.cell? ⟨r,i,none⟩=some (.slice ao s.n s.c):=by
    rw [<- eY];exact fA.out.cell (HB.out.row.cells i _ (by rw [List.getElem?_map,hs];rfl)) (by simp)
   have mM:=hJ eY;clear hs hao eY
   go_wp2_with fail
   refine (vv B ps hp (ag+i+1) _ F S s _ _ (fA.out.cell HB.out.pass (by simp)) (by omega) (HB.out.ok s (List.mem_of_getElem? Aj.out)).1 ((HS.out i s Aj.out).kept fA.out (by simp)) (fun x hx=>(HK.out i x (Nat.lt_of_lt_of_le hx (Wc.out i s Aj.out))).kept fA.out (by simp)) (HT.out.ae fA.out) (by omega) mM.out.symm).mono ?_;rintro en w1 ⟨rfl,hg1⟩;have cF:=hJ (gQ fA.out hg1);have cg:w1.cell? ⟨B,13,none⟩=some (.slice go M.length c2):=cF.out.cell HG.out.lists (by simp);clear hg1 fA cl cr;rcases hml with hml | hml
   ·obtain ⟨t,ht⟩:∃ t,M[i]?=some t:=⟨M[i]'(by omega),List.getElem?_eq_getElem (by omega)⟩
    obtain rfl:=SH.out (by omega);obtain ⟨Ac,zu,zv⟩:=(HG.out.ok t (List.mem_of_getElem? ht)).val
    have cr2:w1.cell? ⟨r2,i,none⟩=some (.slice Ac t.n t.c):=by
     rw [<- zu];exact cF.out.cell (HG.out.row.cells i _ (by rw [List.getElem?_map,ht];rfl)) (by simp)
    have Fk:=hJ ht;have SI:=hJ zu;have hd:decide ((i:Int)<(M.length:Int))=true:=by simp;omega
    clear ht zu zv
    go_wp2_with fail
    refine (vv B ps hp (ag+i+1) _ F S t _ _ (cF.out.cell HB.out.pass (by simp)) (by omega) (HG.out.ok t (List.mem_of_getElem? Fk.out)) ((HG.out.marks i t Fk.out).kept cF.out (by simp)) (fun x hx=>(HK.out i x (Nat.lt_of_lt_of_le hx (Rc.out i t Fk.out))).kept cF.out (by simp)) (HT.out.ae cF.out) (by omega) SI.out.symm).mono ?_;rintro en w2 ⟨rfl,hg2⟩;have zw:=hJ (gQ cF.out hg2);clear hg2 cF;go_wp2;go_roundw
    case rel=>exact ⟨i+1,by omega,by go_num,rfl,by go_num,zw.out⟩
    case measure=>simp [intOf];omega
   ·have hd:decide ((i:Int)<(M.length:Int))=false:=by simp;omega
    go_wp2;go_roundw
    case rel=>exact ⟨i+1,by omega,by go_num,rfl,by go_num,cF.out⟩
    case measure=>simp [intOf];omega
  ·have hin:i=L.length:=by omega
   subst hin;go_wp2
   go_ret2
   exact ⟨rfl,fA.out⟩
structure Lw (I:World->Prop)(w0 w:World)(B:Nat)(ps:Int)(vb:Value)(r c:Nat)(L:List au)(ag i j:Nat):Prop where
 ex:∃ F,lU (gC F) I w B ps vb r c L ag i j/\Ak w F (fun b=>w0.heap.size<=b/\b<w.heap.size) ps ag (fun k=>if k<i then (L.getD k ⟨.nilIface,0,0,0,0,0,0⟩).N else if k=i then j else 0)
 tz:Tz w
 sz:w0.heap.size<=w.heap.size
theorem Lw.bc {L:List au}(h:Lw I w0 w B ps vb r c L ag i j)(F:Int->Nat->Nat->Value):Kc (gC F) w B ps vb r c L:=by
 obtain ⟨F',h1,_⟩:=h.ex;exact h1.bc.Xo
theorem Lw.start {L:List au}(h:Kc (gC F) w B ps vb r c L)(hI:I w)(ht:Tz w):Lw I w w B ps vb r c L ag 0 0 :=
 ⟨⟨F,⟨hI,h,fun k s hk=>by omega,fun s hs q hq=>by omega⟩,fun k x hx=>by
  by_cases e:k=0
  ·simp [e] at hx
  ·simp [e] at hx⟩,ht,Nat.le_refl _⟩
theorem Lw.step {L:List au}(h:Lw I w0 w B ps vb r c L ag i j)(hI:∀ w s j v,s∈L->j<s.C->I w->I (w.setCell ⟨s.g,s.o+j,none⟩ v))(Dp:∀ w w',w.grownBy w' none->I w->I w')(hg:w.grownBy w1 none)
  {s:au} (hs:L[i]?=some s) (hj:j<s.N) (UI:s.g<w0.heap.size) (LP:3≠s.g) (b n c':Nat) (hb0:w.heap.size<=b) (hb1:b<w1.heap.size) (hby:ai w1 (some ⟨b,0,none⟩) n c' (CW ps (ag+i+1) j)) :
  Lw I w0 (w1.setCell ⟨s.g,s.o+j,none⟩ (.slice (some ⟨b,0,none⟩) n c')) B ps vb r c L ag i (j+1):=by
 obtain ⟨F,h1,h2⟩:=h.ex;have hsz:=h.sz;have fu:=aA w1 s.g (s.o+j) (.slice (some ⟨b,0,none⟩) n c');have hge:L.getD i ⟨.nilIface,0,0,0,0,0,0⟩=s:=by simp [List.getD,hs]
 refine ⟨⟨CX F ps (ag+i+1) j (.slice (some ⟨b,0,none⟩) n c'),?_,?_⟩,(h.tz.ae hg).kept fu (fun e=>LP (Option.some.inj e)),by have:=hg.size;simp;omega⟩
 ·have h3:lU (gC (CX F ps (ag+i+1) j (.slice (some ⟨b,0,none⟩) n c'))) I w1 B ps vb r c L ag i j:=(h1.qt Dp hg).Xo (fun k t x hk _ _=>FI _ _ _ _ _ _ (by omega)) (fun x hx=>Pb _ _ _ _ _ _ (by omega))
  exact h3.step hI hs hj (s.o+j) rfl _ (by show _=CX F ps (ag+i+1) j (.slice (some ⟨b,0,none⟩) n c') ps (ag+i+1) j;rw [vu])
 ·have h4:Ak (w1.setCell ⟨s.g,s.o+j,none⟩ (.slice (some ⟨b,0,none⟩) n c')) F (fun d=>w0.heap.size<=d/\d<(w1.setCell ⟨s.g,s.o+j,none⟩ (.slice (some ⟨b,0,none⟩) n c')).heap.size) ps ag (fun k=>if k<i then (L.getD k ⟨.nilIface,0,0,0,0,0,0⟩).N else if k=i then j else 0) :=
   ((h2.ae hg).kept fu (fun d e=>by have:=Option.some.inj e;intro hd;omega)).mono (fun d hd=>⟨hd.1,by have:=hg.size;simp;omega⟩) (fun k=>Nat.le_refl _)
  refine h4.up ⟨b,n,c',rfl,⟨by omega,by simp;omega⟩,by simp;omega,hby.kept fu (fun a ha _ e=>by obtain rfl:=Option.some.inj ha;have:=Option.some.inj e;simp at this;omega)⟩ (fun k y hy=>?_)
  by_cases e1:k<i
  ·rw [if_pos e1] at hy
   exact Or.inr ⟨by rw [if_pos e1];exact hy,fun e=>by omega⟩
  ·rw [if_neg e1] at hy
   by_cases e2:k=i
   ·rw [if_pos e2] at hy
    by_cases e3:y=j
    ·exact Or.inl ⟨e2,e3⟩
    ·exact Or.inr ⟨by rw [if_neg e1,if_pos e2];omega,fun e=>e3 e.2⟩
   ·rw [if_neg e2] at hy;omega
theorem Lw.next {L:List au}{s:au}(hs:L[i]?=some s)(h:Lw I w0 w B ps vb r c L ag i s.N):Lw I w0 w B ps vb r c L ag (i+1) 0:=by
 obtain ⟨F,h1,h2⟩:=h.ex;have hge:L.getD i ⟨.nilIface,0,0,0,0,0,0⟩=s:=by simp [List.getD,hs]
 refine ⟨⟨F,h1.next hs,fun k x hx=>h2 k x ?_⟩,h.tz,h.sz⟩;simp only at hx ⊢
 by_cases e1:k<i
 ·rw [if_pos (by omega)] at hx;rw [if_pos e1];exact hx
 ·by_cases e2:k=i
  ·subst e2
   rw [if_pos (by omega),hge] at hx;rw [if_neg e1,if_pos rfl];exact hx
  ·rw [if_neg (by omega)] at hx
   split at hx <;> omega
theorem CY (B:Nat)(ps:Int)(hp:0<=ps/\ps<=1)(vb:Value)(r c:Nat)(L:List au)(ag:Nat)(I:World->Prop)(w:World)(hid:ag<=1000000)(F0:Int->Nat->Nat->Value)(h:Kc (gC F0) w B ps vb r c L)(UI:∀ s∈L,s.g<w.heap.size/\3≠s.g)(ht:Tz w)(hI:I w)
  (mV:∀ w s j v,s∈L->j<s.C->I w->I (w.setCell ⟨s.g,s.o+j,none⟩ v)) (Dp:∀ w w',w.grownBy w' none->I w->I w') :
  Calls Tryz.prog 71 #[.pointer (some ⟨B,0,none⟩),.int .i64 ag] w fun en w'=>en=.returned (.int .i64 ((ag+L.length:Nat):Int))/\Lw I w w' B ps vb r c L ag L.length 0:=by
 have iA:=h.many;obtain ⟨vo,dZ,dh⟩:=h.row.val;rw [List.length_map] at dZ dh;have jx:=hJ dh;have HIS:=hJ mV;have SG:=hJ Dp;have H0:Hid (Lw I w w B ps vb r c L ag 0 0):=Lw.start h hI ht;have HSO:=hJ UI;clear h hI mV Dp dh UI ht;subst dZ;go_enter Tryz.func71,Tryz.ntmps71;go_wp2;go_loopw [1,5] (fun oP si wr=>∃ i:Nat,i<=L.length/\si=.int .i64 i/\oP=.int .i64 ((ag+i:Nat):Int)/\Lw I w wr B ps (.slice vo L.length c) r c L ag i 0) (fun _ si _=>L.length - (intOf si).toNat)
 case atStart=>exact ⟨0,Nat.zero_le _,rfl,rfl,H0.out⟩
 case round =>
  obtain ⟨i,hi,rfl,rfl,hw⟩:=hrel;have HW:=hJ hw;have cl:wr.cell? ⟨B,11,none⟩=some (.slice vo L.length c):=(hw.bc F0).lists;clear hw
  by_cases hlt:i<L.length
  ·obtain ⟨s,hs⟩:∃ s,L[i]?=some s:=⟨L[i],List.getElem?_eq_getElem hlt⟩
   have hok:=((HW.out.bc F0).ok s (List.mem_of_getElem? hs)).1;obtain ⟨ao,eY,hao⟩:=hok.val;have h1:=hok.le;have h2:=hok.max;have gW:=hJ hok;have HS:=hJ hs;have sJ:=hJ hao;have mM:=hJ eY;obtain rfl:=jx.out (by omega);clear hs hok hao eY;go_wp2;go_loopw [6] (fun sj wr=>∃ j:Nat,j<=s.n/\sj=.int .i64 j/\Lw I w wr B ps (.slice (some ⟨r,0,none⟩) L.length c) r c L ag i j) (fun sj _=>s.n - (intOf sj).toNat)
   case atStart=>exact ⟨0,Nat.zero_le _,rfl,HW.out⟩
   case round =>
    obtain ⟨j,hj,rfl,hw⟩:=hrel;have HJ:=hJ hw;have cl:wr.cell? ⟨B,11,none⟩=some (.slice (some ⟨r,0,none⟩) L.length c):=(hw.bc F0).lists
    have cr:wr.cell? ⟨r,i,none⟩=some (.slice ao s.n s.c):=by
     rw [<- mM.out];exact (hw.bc F0).row.cells i _ (by rw [List.getElem?_map,HS.out];rfl)
    clear hw
    by_cases xJ:j<s.n
    ·obtain rfl:=sJ.out (by omega)
     have hN':j<s.N:=by have:=gW.out.cell xJ (show 0<(gC F0).W by exact Nat.zero_lt_one);simpa [gC] using this
     obtain ⟨⟨u,hu⟩,hf⟩:=((HJ.out.bc F0).ok s (List.mem_of_getElem? HS.out)).2.1 j (by have:=gW.out.Km;omega);have PP:Hid (∀ w':World,w'.heap=wr.heap->w'.cell? ⟨B,1,none⟩=some (.int .i64 ps)):=fun w' e=>(World.cell?_of_block (by rw [e])).trans (HJ.out.bc F0).pass
     have TT:Hid (∀ w':World,w'.heap=wr.heap->Tz w'):=fun w' e=>by have:=HJ.out.tz;unfold Tz Lib.TabIs World.var? at this ⊢;rw [e];exact this
     go_wp2
     go_region_with (go_at_call 149;refine (ng B ps (ag+i+1) j _ _ _ (by exact PP.out _ rfl) hp (by omega) (by omega) (by omega) (by omega) (by exact TT.out _ rfl)).mono ?_;rintro en w4 ⟨⟨b,n,c4,rfl,hb0,hb1,hby⟩,hg4⟩;have jL:=hJ (gQ ((Qt.refl wr).drew.grown none) hg4);have HBY:=hJ hby;have ye:=hJ hb0;have HB1:=hJ hb1;clear hby hb0 hb1;have cl4:=jL.out.cell cl (by simp);have cr4:=jL.out.cell cr (by simp);have k0:=jL.out.cell hu (by simp);have z0:=(jL.out.frozen_far ⟨s.g,s.o+j,none⟩ (World.block_lt_of_cell? _ _ hu) (by simp)).trans hf)
     all_goals
      have HN:=hJ (HJ.out.step HIS.out SG.out jL.out HS.out hN' (HSO.out s (List.mem_of_getElem? HS.out)).1 (HSO.out s (List.mem_of_getElem? HS.out)).2 b n c4 ye.out HB1.out HBY.out);clear jL hg4 HBY;go_wp2;go_roundw
      case rel=>exact ⟨j+1,by omega,by go_num,HN.out⟩
      case measure=>simp [intOf];omega
    ·have ue:j=s.n:=by omega
     subst ue;have HN:=HJ.out;have eN:s.n=s.N:=by have:=gW.out.hN;simp [gC] at this;exact this.symm
     rw [eN] at HN;have HN:=hJ (HN.next HS.out);clear HJ eN;go_wp2;go_roundw
     case rel=>exact ⟨i+1,by omega,by go_num,by go_num,HN.out⟩
     case measure=>simp [intOf];omega
  ·have hin:i=L.length:=by omega
   subst hin;go_wp2;go_ret;exact ⟨rfl,HW.out⟩
theorem CZ:(Tryz.prog.info? 23).map (fun i=>(i.zero,i.size,i.bytes))=some (some (.slice none 0 0),1,24):=by kernel_rfl
theorem FM:(Tryz.prog.info? 25).map (fun i=>(i.zero,i.size,i.bytes))=some (some (.slice none 0 0),1,24):=by kernel_rfl
def lV:au:=⟨.nilIface,0,0,0,0,0,0⟩
def Pe (L M:List au)(k:Nat):Nat:=max (L.getD k lV).N (M.getD k lV).N
structure Lx (w:World)(F:Int->Nat->Nat->Value)(SM Q:Nat->Prop)(ps:Int)(ag base:Nat)(vg:Value)(L M:List au):Prop where
 lk:Ak w F SM ps ag (Pe L M)
 dj:∀ b,SM b->base<=b/\b<w.heap.size/\Q b/\vg.ownBlock≠some b/\∀ (k:Nat) (m:au),M[k]?=some m->m.g≠b
 tz:Tz w
theorem Lx.kept {L M:List au}{row:Option Nat}(h:Lx w F SM Q ps ag base vg L M)(hg:w.grownBy w' row)(hr:∀ i,row=some i->¬ SM i/\i≠3):Lx w' F SM Q ps ag base vg L M :=
 ⟨h.lk.kept hg (fun i e=>(hr i e).1),fun b hb=>⟨(h.dj b hb).1,Nat.lt_of_lt_of_le (h.dj b hb).2.1 hg.size,(h.dj b hb).2.2⟩,h.tz.kept hg (fun e=>(hr _ e.symm).2 rfl)⟩
theorem Lx.ae {base:Nat}{L M:List au}(h:Lx w F SM Q ps ag base vg L M)(hg:w.grownBy w' none):Lx w' F SM Q ps ag base vg L M:=h.kept hg (by simp)
theorem KX {L M:List au}{s:au}(hs:L[M.length]?=some s)(k:Nat):Pe L (M++[s]) k=Pe L M k:=by
 unfold Pe
 by_cases e:k<M.length
 ·simp [List.getD,List.getElem?_append_left e]
 ·by_cases e2:k=M.length
  ·subst e2
   simp [List.getD,hs,lV]
  ·simp [List.getD,List.getElem?_append_right (show M.length<=k by omega),List.getElem?_eq_none (show M.length<=k by omega),List.getElem?_eq_none (show [s].length<=k - M.length by simp;omega)]
theorem Lx.enter {q:Nat}{uT:Value}{L M:List au}{o:Obj}{s:au}(h:Lx w F SM Q ps ag base vg L M)(hs:L[M.length]?=some s)(hold:s.g<base)(hB:B<base)(hBg:B≠3)(mj:vg.ownBlock≠some 3)(hg:(w.alloc o).grownBy w1 vg.ownBlock)(hat:uT.ownBlock=vg.ownBlock∨∃ i,uT.ownBlock=some i/\w.heap.size<i) :
  Lx (w1.setCell ⟨B,q,none⟩ uT) F SM Q ps ag base uT L (M++[s]):=by
 have h1:=h.ae (World.grownBy_alloc w o none);have h2:=h1.kept hg (fun i e=>⟨fun hb=>(h.dj i hb).2.2.2.1 e,fun e'=>mj (by rw [e,e'])⟩);have h3:=h2.kept (aA w1 B q uT) (fun i e=>by obtain rfl:=Option.some.inj e;exact ⟨fun hb=>by have:=(h.dj _ hb).1;omega,hBg⟩);refine ⟨h3.lk.mono (fun b hb=>hb) (fun k=>by rw [KX hs];exact Nat.le_refl _),fun b hb=>⟨(h3.dj b hb).1,(h3.dj b hb).2.1,(h3.dj b hb).2.2.1,fun e=>?_,fun k m hm=>?_⟩,h3.tz⟩
 ·rcases hat with h' | ⟨i,h',hi⟩
  ·exact (h.dj b hb).2.2.2.1 (by rw [<- h'];exact e)
  ·rw [h'] at e
   have:=Option.some.inj e;have:=(h.dj b hb).2.1;omega
 ·rcases Nat.lt_or_ge k M.length with hk | hk
  ·rw [List.getElem?_append_left hk] at hm
   exact (h.dj b hb).2.2.2.2 k m hm
  ·rw [List.getElem?_append_right hk] at hm
   have e:m=s:=by
    have:=List.mem_of_getElem? hm;simpa using this
   subst e;have:=(h.dj b hb).1;omega
structure Ly (w:World)(F:Int->Nat->Nat->Value)(SM Q:Nat->Prop)(ps:Int)(ag base:Nat)(vg:Value)(L M:List au)(i:Nat):Prop where
 lk:Ak w F SM ps ag (fun k=>if k=i then (M.getD i lV).N+1 else Pe L M k)
 dj:∀ b,SM b->base<=b/\b<w.heap.size/\Q b/\vg.ownBlock≠some b/\∀ (k:Nat) (m:au),M[k]?=some m->m.g≠b
 tz:Tz w
theorem Ly.kept {L M:List au}{row:Option Nat}(h:Ly w F SM Q ps ag base vg L M i)(hg:w.grownBy w' row)(hr:∀ i,row=some i->¬ SM i/\i≠3):Ly w' F SM Q ps ag base vg L M i :=
 ⟨h.lk.kept hg (fun i e=>(hr i e).1),fun b hb=>⟨(h.dj b hb).1,Nat.lt_of_lt_of_le (h.dj b hb).2.1 hg.size,(h.dj b hb).2.2⟩,h.tz.kept hg (fun e=>(hr _ e.symm).2 rfl)⟩
theorem Lx.mark {L M:List au}{b n:Nat}{m s:au}(h:Lx w F SM Q ps ag base vg L M)(hg:w.grownBy w1 none)(hm:M[i]?=some m)(hs:L[i]?=some s)(hsm:s.N<=m.N)(hb0:w.heap.size<=b)(hb1:b<w1.heap.size)(hby:ai w1 (some ⟨b,0,none⟩) n c (CW ps (ag+i+1) m.N))(hbase:base<=w.heap.size)(hQ:∀ j,w.heap.size<=j->Q j)(mj:∀ j,vg.ownBlock=some j->j<w.heap.size)(hmg:∀ (k:Nat) (m:au),M[k]?=some m->m.g<w.heap.size) :
  Ly w1 (CX F ps (ag+i+1) m.N (.slice (some ⟨b,0,none⟩) n c)) (fun d=>SM d∨d=b) Q ps ag base vg L M i:=by
 have h1:=h.ae hg;have em:M.getD i lV=m:=by simp [List.getD,hm]
 have es:L.getD i lV=s:=by simp [List.getD,hs]
 refine ⟨?_,fun d hd=>?_,h1.tz⟩
 ·refine (h1.lk.mono (S':=fun d=>SM d∨d=b) (YD:=Pe L M) (fun d hd=>Or.inl hd) (fun k=>Nat.le_refl _)).up ⟨b,n,c,rfl,Or.inr rfl,hb1,hby⟩ (fun k y hy=>?_)
  by_cases e:k=i
  ·subst e
   rw [if_pos rfl,em] at hy
   by_cases e2:y=m.N
   ·exact Or.inl ⟨rfl,e2⟩
   ·refine Or.inr ⟨?_,fun e=>e2 e.2⟩
    unfold Pe;rw [em,es];omega
  ·rw [if_neg e] at hy
   exact Or.inr ⟨hy,fun e'=>e e'.1⟩
 ·rcases hd with hd | rfl
  ·exact h1.dj d hd
  ·exact ⟨by omega,hb1,hQ d hb0,fun e=>by have:=mj d e;omega,fun k m hm e=>by have:=hmg k m hm;omega⟩
theorem Ly.put{w:World}{rg cg:Nat}{L M:List au}{m m' s:au}{v:Value}(h:Ly w F SM Q ps ag base (.slice (some ⟨rg,0,none⟩) M.length cg) L M i)(hm:M[i]?=some m)(hs:L[i]?=some s)(hsm:s.N<=m.N)(hN:m'.N=m.N+1)(hg:m'.g=m.g∨∀ b,SM b->m'.g≠b)(hrg:rg≠3)(ew:w'=w.setCell ⟨rg,i,none⟩ v) :
  Lx w' F SM Q ps ag base (.slice (some ⟨rg,0,none⟩) M.length cg) L (M.set i m'):=by
 subst ew;have em:M.getD i lV=m:=by simp [List.getD,hm]
 have es:L.getD i lV=s:=by simp [List.getD,hs]
 have hi:=(List.getElem?_eq_some_iff.1 hm).1;have h1:=h.kept (aA w rg i v) (fun j e=>by obtain rfl:=Option.some.inj e;exact ⟨fun hb=>(h.dj _ hb).2.2.2.1 rfl,hrg⟩);refine ⟨h1.lk.mono (fun b hb=>hb) (fun k=>?_),fun b hb=>⟨(h1.dj b hb).1,(h1.dj b hb).2.1,(h1.dj b hb).2.2.1,(h1.dj b hb).2.2.2.1,fun k t ht=>?_⟩,h1.tz⟩
 ·unfold Pe
  by_cases e:k=i
  ·subst e
   rw [if_pos rfl,em,es];have:(M.set k m').getD k lV=m':=by simp [List.getD,List.getElem?_set_self hi]
   rw [this,hN];omega
  ·rw [if_neg e]
   have:(M.set i m').getD k lV=M.getD k lV:=by simp [List.getD,List.getElem?_set_ne (fun e'=>e e'.symm)]
   rw [this];exact Nat.le_refl _
 ·by_cases e:k=i
  ·subst e
   rw [List.getElem?_set_self hi] at ht;obtain rfl:=Option.some.inj ht;rcases hg with hg | hg
   ·rw [hg];exact (h.dj b hb).2.2.2.2 _ _ hm
   ·exact hg b hb
  ·rw [List.getElem?_set_ne (fun e'=>e e'.symm)] at ht
   exact (h.dj b hb).2.2.2.2 k t ht
theorem FN (B:Nat)(ps:Int)(hp:0<=ps/\ps<=1)(vb CH:Value)(r c base ag:Nat)(L M0:List au)(t:Nat)(Q:Nat->Prop)(HH:Nat)(I:World->Prop)(w:World)(F0:Int->Nat->Nat->Value)(SM0:Nat->Prop)(h:Gs (gC F0) Q HH I w B ps vb CH r c base ag L M0 (cH t 0))(hx0:Lx w F0 SM0 Q ps ag base CH L M0)(LP:3<base/\3≠B/\∀ s∈L,s.g≠3)(ht:t<=1000)(hM:if t=0 then M0=[] else M0.length=L.length)(Ah:r≠B)(hid:ag<=1000000)
  (hbd:∀ s∈L,s.n+t+1<=1099511627776)
  (rV:∀ w w' row,I w->w.grownBy w' row->(∀ i,row=some i->Q i)->I w') (pE:∀ w v,I w->I (w.setCell ⟨B,13,none⟩ v)) (mV:∀ w s j v,s∈L->j<s.C->I w->I (w.setCell ⟨s.g,s.o+j,none⟩ v)) :
  Calls Tryz.prog 97 #[.pointer (some ⟨B,0,none⟩),.int .i64 ag,.int .i64 t] w fun en w'=>en=.returned (.int .i64 ((ag+L.length:Nat):Int))/\∃ vg M F SM,M.length=L.length/\Gs (gC F) Q HH I w' B ps vb vg r c base ag L M (cH t L.length)/\Lx w' F SM Q ps ag base vg L M:=by
 obtain ⟨i0,LA,hz0,hz1,hz2⟩:=info_parts CZ;obtain ⟨i1,jN,Dm,EC,rG⟩:=info_parts FM;have iA:=h.bc.many;obtain ⟨vo,dZ,dh⟩:=h.bc.row.val;rw [List.length_map] at dZ dh;have jx:=hJ dh;have jP:=hJ rV;have HIS:=hJ mV;have jp:=hJ pE;have pB:=hJ hbd;have H0:=hJ h;have SP:=hJ hM;have HX0:=hJ hx0;have HGP:=hJ LP;clear h dh rV pE mV hbd hM hx0 LP;subst dZ;go_enter Tryz.func97,Tryz.ntmps97;go_wp2;go_loopw [1,7] (fun oP si wr=>∃ i:Nat,i<=L.length/\si=.int .i64 i/\oP=.int .i64 ((ag+i:Nat):Int)/\∃ vg M F SM,(if t=0 then M.length=i else M.length=L.length)/\Gs (gC F) Q HH I wr B ps (.slice vo L.length c) vg r c base ag L M (cH t i)/\Lx wr F SM Q ps ag base vg L M) (fun _ si _=>L.length - (intOf si).toNat)
 case atStart =>
  refine ⟨0,Nat.zero_le _,rfl,rfl,CH,M0,F0,SM0,?_,H0.out,HX0.out⟩;have:=SP.out
  by_cases e:t=0
  ·rw [if_pos e] at this ⊢;rw [this];rfl
  ·rw [if_neg e] at this ⊢;exact this
 case round =>
  obtain ⟨i,hi,rfl,rfl,vg,M,F,SM,Hu,hG,hX⟩:=hrel;have HX:=hJ hX;have HG:=hJ hG;have k2:wr.cell? ⟨B,11,none⟩=some (.slice vo L.length c):=hG.bc.lists;have pC:=hJ Hu;clear hG Hu H0 hX HX0
  by_cases hlt:i<L.length
  ·obtain ⟨s,hs⟩:∃ s,L[i]?=some s:=⟨L[i],List.getElem?_eq_getElem hlt⟩
   have HS:=hJ hs;obtain ⟨ao,eY,hao⟩:=(HG.out.bc.ok s (List.mem_of_getElem? hs)).1.val;obtain rfl:=jx.out (by omega)
   have cr:wr.cell? ⟨r,i,none⟩=some (.slice ao s.n s.c):=by
    rw [<- eY];exact HG.out.bc.row.cells i _ (by rw [List.getElem?_map,hs];rfl)
   have mM:=hJ eY;have p0:(0:Int)<=(i:Int):=by omega
   have p1:(i:Int)<(L.length:Int):=by omega
   clear hs hao eY
   go_upto_if 21 with fail
   go_cut [1,7] from 9 to 64 (fun s1 s7 wx=>s1=.int .i64 ((ag:Int)+(i:Int)+1)/\s7=.int .i64 (i:Int)/\∃ vg M F SM,(if t=0 then M.length=i+1 else M.length=L.length)/\Gs (gC F) Q HH I wx B ps (.slice (some ⟨r,0,none⟩) L.length c) vg r c base ag L M (cH t i)/\Lx wx F SM Q ps ag base vg L M)
   case first =>
    by_cases Dq:t=0
    ·subst Dq
     have rY:Hid (M.length=i):=by have:=pC.out;exact hJ (by simpa using this)
     have SQ:M.length<=1000000:=by have:=rY.out;omega
     have k4:wr.cell? ⟨B,13,none⟩=some vg:=HG.out.gl;have f4:wr.frozen? ⟨B,13,none⟩=false:=HG.out.gz
     have SR:∀ o:Obj,(wr.alloc o).cell? ⟨B,13,none⟩=some vg:=fun o=>by
      rw [World.cell?_alloc_lt _ _ _ (World.block_lt_of_cell? _ _ k4)];exact k4
     have SS:∀ o:Obj,(wr.alloc o).cell? ⟨B,11,none⟩=some (.slice (some ⟨r,0,none⟩) L.length c):=fun o=>by
      rw [World.cell?_alloc_lt _ _ _ (World.block_lt_of_cell? _ _ k2)];exact k2
     have SU:∀ o:Obj,(wr.alloc o).cell? ⟨r,i,none⟩=some (.slice ao s.n s.c):=fun o=>by
      rw [World.cell?_alloc_lt _ _ _ (World.block_lt_of_cell? _ _ cr)];exact cr
     have zA:Hid (∀ (w':World) (o:Obj),w'.heap=(wr.alloc o).heap->w'.ownsRow base 23 1 vg M.length (M.map au.v)):=fun w' o e=>by
      have:=HG.out.own.alloc o;unfold World.ownsRow at this ⊢;rw [e];exact this
     have gp:Hid (∀ (w':World) (t:TypeId),w'.heap=(wr.alloc (.cells #[.slice ao s.n s.c] t)).heap->∀ j u,[Value.slice ao s.n s.c][j]?=some u->w'.cell? ((⟨wr.heap.size,0,none⟩:Addr).add j)=some u):=fun w' t e j u hu=>by
      rw [World.cell?_of_block (w:=wr.alloc (.cells #[.slice ao s.n s.c] t)) (by rw [e])];exact cell_one_new wr _ t j u hu
     have wL:=HG.out.rB.2.2.1;have Fs:=hJ HG.out.Cy;have Ck:=hJ HG.out.rB;go_wp2
     go_region_law
      ((refine step_append_lies _ (by rfl) _ _ _ (by rfl) base 23 i0 (.slice none 0 0) 1 24 Tryz.underlying38 LA hz0 hz1 hz2 (by rfl) (by decide) vg M.length (M.map au.v) (by rfl) (by exact zA.out _ _ rfl) ⟨wr.heap.size,0,none⟩ 1 1 [.slice ao s.n s.c] (by rfl) (by rfl) (by exact gp.out _ _ rfl) (by intro u hu;simp at hu;subst hu;rfl) (by omega) (by unfold maxLen;omega) (by omega) (by simp;omega) (wr.heap.size+1) (by simp) ?_;intro g1 c1 w1 hown1 hg1 dI iZ;have nB:some B≠vg.ownBlock:=(fun e=>by have:=Fs.out B e.symm;have:=Ck.out;omega);have nr:some r≠vg.ownBlock:=(fun e=>by have:=Fs.out r e.symm;have:=Ck.out;omega);have SV:w1.cell? ⟨B,13,none⟩=some vg:=hg1.cell (SR _) nB;have Hv:w1.cell? ⟨B,11,none⟩=some (.slice (some ⟨r,0,none⟩) L.length c):=hg1.cell (SS _) nB;have Hw:w1.cell? ⟨r,i,none⟩=some (.slice ao s.n s.c):=hg1.cell (SU _) nr;have SX:∀ v,(w1.setCell ⟨B,13,none⟩ v).cell? ⟨B,11,none⟩=some (.slice (some ⟨r,0,none⟩) L.length c):=(fun v=>by rw [World.cell?_setCell_other _ _ _ _ (eG (by omega))];exact Hv);have SY:∀ v,(w1.setCell ⟨B,13,none⟩ v).cell? ⟨r,i,none⟩=some (.slice ao s.n s.c):=(fun v=>by rw [World.cell?_setCell_other _ _ _ _ (fun e=>Ah (by injection e with e1;exact e1.symm))];exact Hw);have je:=gQ ((((Qt.refl (wr.alloc (.cells #[.slice ao s.n s.c] 23))).drew)).grown _) hg1;have SZ:w1.frozen? ⟨B,13,none⟩=false:=((je.frozen_far ⟨B,13,none⟩ (by simpa using Nat.lt_succ_of_lt (World.block_lt_of_cell? _ _ k4)) nB).trans (((World.grownBy_alloc wr (.cells #[.slice ao s.n s.c] 23) none).frozen_far ⟨B,13,none⟩ (World.block_lt_of_cell? _ _ k4) (by simp)).trans f4))))
     all_goals
      have HE:Hid (Gs (gC F) Q HH I (w1.setCell ⟨B,13,none⟩ (.slice (some ⟨g1,0,none⟩) (M.length+1) c1)) B ps (.slice (some ⟨r,0,none⟩) L.length c) (.slice (some ⟨g1,0,none⟩) (M.length+1) c1) r c base ag L (M++[s]) (cH 0 i)) :=
       HG.out.enter (.cells #[.slice ao s.n s.c] 23) (by rw [rY.out];exact HS.out) (by rw [rY.out];simp [cH]) jP.out jp.out (by show 13≠1;decide) je (by rw [mM.out];exact hown1) (by
        rcases dI with h | h
        ·exact Or.inl h.symm
        ·exact Or.inr ⟨g1,rfl,by omega⟩) Ah
      have HXE:Hid (Lx (w1.setCell ⟨B,13,none⟩ (.slice (some ⟨g1,0,none⟩) (M.length+1) c1)) F SM Q ps ag base (.slice (some ⟨g1,0,none⟩) (M.length+1) c1) L (M++[s])) :=
       HX.out.enter (by rw [rY.out];exact HS.out) (HG.out.old s (List.mem_of_getElem? HS.out)) Ck.out.2.1 (Ne.symm HGP.out.2.1) (fun e=>by have:=(Fs.out _ e).1;have:=HGP.out.1;omega) je (by
        rcases dI with h | h
        ·exact Or.inl h.symm
        ·exact Or.inr ⟨g1,rfl,by omega⟩)
      clear SV Hv Hw SX SY SZ hg1 je hown1 dI iZ
      go_wp2_with fail
      go_meet
      case rel =>
       exact ⟨rfl,rfl,_,M++[s],F,SM,by simp [rY.out],HE.out,HXE.out⟩
    ·have htb:((t:Int)==0)=false:=by simp;omega
     go_wp2_with fail
     go_meet
     case rel =>
      refine ⟨rfl,rfl,vg,M,F,SM,?_,HG.out,HX.out⟩;have:=pC.out;rw [if_neg Dq] at this ⊢;exact this
   case rest =>
    obtain ⟨rfl,rfl,uT,MM,F',SM',gq,mR,hX'⟩:=hcut;have HXW:=hJ hX';have dP:=hJ mR;have Hy:=hJ gq
    have Hz:i<MM.length:=by
     by_cases e:t=0
     ·rw [if_pos e] at gq;omega
     ·rw [if_neg e] at gq;omega
    obtain ⟨rg,cg,mj,_,_⟩:=mR.own.form (by omega);subst mj;clear mR gq HG pC k2 cr hX' HX;obtain ⟨m,hm⟩:∃ m,MM[i]?=some m:=⟨MM[i]'(by omega),List.getElem?_eq_getElem (by omega)⟩;have fD:=hJ hm;clear hm;have k4:wc.cell? ⟨B,13,none⟩=some (.slice (some ⟨rg,0,none⟩) MM.length cg):=dP.out.gl;have hmk:=dP.out.each i m fD.out;obtain ⟨am,zB,zX⟩:=hmk.1.val
    have cm:wc.cell? ⟨rg,i,none⟩=some (.slice am m.n m.c):=by
     rw [<- zB];have CA:=(List.getElem?_eq_some_iff.1 fD.out).1;exact (dP.out.own.cellAt i (by omega)).trans (by rw [List.getElem?_map,fD.out];rfl)
    have Ta:(i:Int)<(MM.length:Int):=by omega
    have fm:wc.frozen? ⟨rg,i,none⟩=false:=dP.out.own.frozenAt i
    have oU:m.n+1<=1099511627776:=by
     obtain ⟨s',hs',hn',_⟩:=hmk.2.2.2;have:=pB.out s' (List.mem_of_getElem? hs');rw [hn'];unfold cH;simp;omega
    have Tc:=hmk.1.le;have oV:Hid (m.N=m.n*1):=hmk.1.hN;have zC:=hJ zX;have Ia:=hJ zB;have qu:=hJ Hz;have Td:rg≠B:=by have:=dP.out.Cy rg rfl;have:=dP.out.rB;omega
    clear hmk zX zB Hz
    go_wp2_with fail
    refine (ng B ps (ag+i+1) m.n _ _ _ dP.out.bc.pass hp (by omega) (by omega) (by omega) rfl HXW.out.tz).mono ?_;rintro en w5 ⟨⟨b5,n5,c5,rfl,hb0,hb1,hby⟩,aK⟩;have hmN:m.n=m.N:=by have:=oV.out;omega
    rw [hmN] at hby
    have yy:Hid (∃ s,L[i]?=some s/\s.N<=m.N):=by
     obtain ⟨a1,_,_,s',hs',hn',_⟩:=dP.out.each i m fD.out;have b1:=(dP.out.bc.ok s' (List.mem_of_getElem? hs')).1.hN;have b2:=a1.hN;refine ⟨s',hs',?_⟩;rw [b1,b2,hn'];exact Nat.mul_le_mul_right _ (by omega)
    have HMG:Hid (∀ (k:Nat) (m:au),MM[k]?=some m->m.g<wc.heap.size):=fun k m2 hk=>by
     obtain ⟨_,_,_,t2,c4,_,c6⟩:=dP.out.each k m2 hk;rcases c6 with c6 | c6
     ·exact c6.2
     ·have:=dP.out.old t2 (List.mem_of_getElem? c4);have:=dP.out.rB;omega
    obtain ⟨sL,Dl,hsN⟩:=yy.out;have HYW:=hJ (HXW.out.mark aK fD.out Dl hsN hb0 hb1 hby dP.out.rB.2.2.1 (fun j hj=>dP.out.qn j (Nat.le_trans dP.out.rB.2.2.2.2 hj)) (fun j e=>(dP.out.Cy j e).2) HMG.out);have LM:=hJ Dl;have Rk:=hJ hsN
    have Xq:=hJ ((dP.out.more jP.out aK).Xo (F':=CX F' ps (ag+i+1) m.N (.slice (some ⟨b5,0,none⟩) n5 c5)) (fun k s2 x hk hx=>by
     by_cases e:k=i
     ·subst e
      have:s2=sL:=by rw [Dl] at hk;exact (Option.some.inj hk).symm
      subst this;exact Pb _ _ _ _ _ _ (by omega)
     ·exact FI _ _ _ _ _ _ (by omega)) (fun k m2 x hk hx=>by
     by_cases e:k=i
     ·subst e
      have:m2=m:=by rw [fD.out] at hk;exact (Option.some.inj hk).symm
      subst this;exact Pb _ _ _ _ _ _ (by omega)
     ·exact FI _ _ _ _ _ _ (by omega)))
    have k4:=aK.cell k4 (by simp);have cm:=aK.cell cm (by simp);have fm:w5.frozen? ⟨rg,i,none⟩=false:=Xq.out.own.frozenAt i
    have HRG:Hid (rg≠3/\m.g≠3):=by
     refine ⟨fun e=>?_,fun e=>?_⟩
     ·have:=(dP.out.Cy rg rfl).1;have:=HGP.out.1;omega
     ·obtain ⟨_,_,_,t2,c4,_,c6⟩:=dP.out.each i m fD.out
      rcases c6 with c6 | c6
      ·have:=HGP.out.1;omega
      ·exact HGP.out.2.2 t2 (List.mem_of_getElem? c4) (by rw [<- c6.1];exact e)
    have Ie:Hid (∀ (x:Nat) (v:Value),[Value.slice (some ⟨b5,0,none⟩) n5 c5][x]?=some v->v=(gC (CX F' ps (ag+i+1) m.N (.slice (some ⟨b5,0,none⟩) n5 c5))).f ps (ag+i+1) (m.N+x)):=fun x v hx=>by
     match x with
     | 0 =>
      simp only [List.getElem?_cons_zero,Option.some.injEq] at hx;rw [<- hx]
      show _=CX F' ps (ag+i+1) m.N (.slice (some ⟨b5,0,none⟩) n5 c5) ps (ag+i+1) m.N
      rw [vu]
     | x+1=>simp at hx
    clear dP HXW HMG aK hby hb0 hb1 Dl hsN hmN yy;have dP:=Xq;clear Xq;generalize CX F' ps (ag+i+1) m.N (.slice (some ⟨b5,0,none⟩) n5 c5)=F5 at *;generalize (fun d=>SM' d∨d=b5)=SM5 at *;go_wp2
    have sW:Hid (Gs (gC F5) Q HH I (w5.alloc (.cells #[.slice (some ⟨b5,0,none⟩) n5 c5] 25)).drew B ps (.slice (some ⟨r,0,none⟩) L.length c) (.slice (some ⟨rg,0,none⟩) MM.length cg) r c base ag L MM (cH t i)) :=
     dP.out.more jP.out (gQ (World.grownBy_alloc _ _ none) ((Qt.refl _).drew.grown none))
    have Py:∀ o:Obj,(w5.alloc o).cell? ⟨B,13,none⟩=some (.slice (some ⟨rg,0,none⟩) MM.length cg):=fun o=>by
     rw [World.cell?_alloc_lt _ _ _ (World.block_lt_of_cell? _ _ k4)];exact k4
    have kbm:∀ o:Obj,(w5.alloc o).cell? ⟨rg,i,none⟩=some (.slice am m.n m.c):=fun o=>by
     rw [World.cell?_alloc_lt _ _ _ (World.block_lt_of_cell? _ _ cm)];exact cm
    have gp:Hid (∀ (w':World) (ty:TypeId),w'.heap=(w5.alloc (.cells #[.slice (some ⟨b5,0,none⟩) n5 c5] ty)).heap->∀ j u,[Value.slice (some ⟨b5,0,none⟩) n5 c5][j]?=some u->w'.cell? ((⟨w5.heap.size,0,none⟩:Addr).add j)=some u):=fun w' ty e j u hu=>by
     rw [World.cell?_of_block (w:=w5.alloc (.cells #[.slice (some ⟨b5,0,none⟩) n5 c5] ty)) (by rw [e])];exact cell_one_new w5 _ ty j u hu
    have HYD:Hid (Ly (w5.alloc (.cells #[.slice (some ⟨b5,0,none⟩) n5 c5] 25)).drew F5 SM5 Q ps ag base (.slice (some ⟨rg,0,none⟩) MM.length cg) L MM i):=HYW.out.kept (gQ (World.grownBy_alloc _ _ none) ((Qt.refl _).drew.grown none)) (by simp);rcases Nat.lt_or_ge m.n m.c with hroom | hfull
    ·obtain rfl:=zC.out (by omega)
     have Jd:Hid (∀ (w':World),w'.heap=(w5.alloc (.cells #[.slice (some ⟨b5,0,none⟩) n5 c5] 25)).heap->∀ j,j<[Value.slice (some ⟨b5,0,none⟩) n5 c5].length->(w'.cell? ⟨m.g,m.o+m.n*1+j,none⟩).isSome=true/\w'.frozen? ⟨m.g,m.o+m.n*1+j,none⟩=false):=fun w' e j hj=>by
      have Dm:j<1:=by simpa using hj
      have hok:=(sW.out.each i m fD.out);have hr:=hok.1.room hroom;have hN:=oV.out;obtain ⟨⟨u,hu⟩,hf⟩:=hok.2.1 (m.N+j) (by have e1:(gC F5).W=1:=rfl;omega);rw [show m.o+m.n*1+j=m.o+(m.N+j) by omega,World.cell?_of_block (w:=(w5.alloc (.cells #[.slice (some ⟨b5,0,none⟩) n5 c5] 25)).drew) (by rw [e];rfl),World.frozen?_of_block (w:=(w5.alloc (.cells #[.slice (some ⟨b5,0,none⟩) n5 c5] 25)).drew) (by rw [e];rfl)];rw [hu];exact ⟨rfl,hf⟩
     have PG:Hid (∀ X,X=(w5.alloc (.cells #[.slice (some ⟨b5,0,none⟩) n5 c5] 25)).drew.setCells m.g (m.o+m.n*1) [.slice (some ⟨b5,0,none⟩) n5 c5]->Gs (gC F5) Q HH I X B ps (.slice (some ⟨r,0,none⟩) L.length c) (.slice (some ⟨rg,0,none⟩) MM.length cg) r c base ag L MM (cH t i)/\Kf (gC F5) Q X (.slice (some ⟨rg,0,none⟩) MM.length cg) base ag L MM (cH t i) ps i ⟨.slice (some ⟨m.g,m.o,none⟩) (m.n+1) m.c,m.g,m.o,m.n+1,m.c,m.N+(gC F5).W,m.C⟩):=fun X hX=>by
      rw [hX];exact sW.out.room fD.out hroom oU [Value.slice (some ⟨b5,0,none⟩) n5 c5] rfl Ie.out _ (by rw [oV.out]) jP.out HIS.out
     have zD:Hid (∀ X,Gs (gC F5) Q HH I X B ps (.slice (some ⟨r,0,none⟩) L.length c) (.slice (some ⟨rg,0,none⟩) MM.length cg) r c base ag L MM (cH t i)->X.cell? ⟨rg,i,none⟩=some (.slice (some ⟨m.g,m.o,none⟩) m.n m.c)):=fun X hX=>by
      rw [<- Ia.out];exact (hX.own.cellAt i (by have:=qu.out;omega)).trans (by rw [List.getElem?_map,fD.out];rfl)
     go_region_law
      ((refine bS (by rfl) _ _ _ (by rfl) 25 i1 1 Tryz.underlying23 jN EC m.g m.o m.n m.c (by rfl) ⟨w5.heap.size,0,none⟩ 1 1 [.slice (some ⟨b5,0,none⟩) n5 c5] (by rfl) (by rfl) (by exact gp.out _ _ rfl) (by intro u hu;simp at hu;subst hu;rfl) (by omega) (by exact Jd.out _ rfl) ?_;intro X hX;have fy:=PG.out X hX;have HYX:=hJ (HYD.out.kept (by rw [hX];exact qX _ m.g (m.o+m.n*1) [.slice (some ⟨b5,0,none⟩) n5 c5]:((w5.alloc (.cells #[.slice (some ⟨b5,0,none⟩) n5 c5] 25)).drew).grownBy X (some m.g)) (fun j e=>by obtain rfl:=Option.some.inj e;exact ⟨fun hb=>(HYD.out.dj _ hb).2.2.2.2 i m fD.out rfl,HRG.out.2⟩));have Te:X.cell? ⟨B,13,none⟩=some (.slice (some ⟨rg,0,none⟩) MM.length cg):=fy.1.gl;have Tf:=zD.out X fy.1;have Tg:X.frozen? ⟨rg,i,none⟩=false:=fy.1.own.frozenAt i;have oW:=hJ fy;clear fy hX))
     all_goals
      have HP:=hJ (oW.out.1.put oW.out.2 qu.out jP.out);have PT:=hJ (HYX.out.put fD.out LM.out Rk.out (m':=⟨.slice (some ⟨m.g,m.o,none⟩) (m.n+1) m.c,m.g,m.o,m.n+1,m.c,m.N+(gC F5).W,m.C⟩) rfl (Or.inl rfl) HRG.out.1 (v:=.slice (some ⟨m.g,m.o,none⟩) (m.n+1) m.c) rfl);rw [dY] at HP;go_wp2;go_roundw
      case rel =>
       refine ⟨i+1,by omega,by go_num,by go_num,_,_,F5,SM5,?_,HP.out,PT.out⟩;have h3:=Hy.out;rw [List.length_set];exact h3
      case measure=>simp [intOf];omega
    ·have HOLD:Hid (∀ (w':World),w'.heap=(w5.alloc (.cells #[.slice (some ⟨b5,0,none⟩) n5 c5] 25)).heap->∀ b,am=some b->∀ j u,((List.range m.N).map fun j=>(gC F5).f ps (ag+i+1) j)[j]?=some u->w'.cell? (b.add j)=some u):=fun w' e b hb j u hu=>by
      have hj:j<m.N:=by have:=(List.getElem?_eq_some_iff.1 hu).1;simpa using this
      have hN:=oV.out;have hb':=zC.out (by omega);rw [hb] at hb';have hb2:=Option.some.inj hb';subst hb2;rw [List.getElem?_map,List.getElem?_range hj] at hu;have Th:=Option.some.inj hu;rw [Addr.add_lit,World.cell?_of_block (w:=(w5.alloc (.cells #[.slice (some ⟨b5,0,none⟩) n5 c5] 25)).drew) (by rw [e];rfl),<- Th];exact sW.out.mm i m fD.out j hj
     have vK:Hid (am=none->m.n=0/\m.c=0):=fun e=>by
      rcases Nat.eq_zero_or_pos m.c with h0 | h0
      ·omega
      ·have:=zC.out h0;rw [e] at this;cases this
     obtain ⟨OL,sX⟩:∃ OL,OL=(List.range m.N).map fun j=>(gC F5).f ps (ag+i+1) j:=⟨_,rfl⟩
     have zE:OL.length=m.n*1:=by rw [sX];simpa using oV.out
     have oX:Hid (∀ gX cX X H,(w5.alloc (.cells #[.slice (some ⟨b5,0,none⟩) n5 c5] 25)).drew.grownBy X none->(w5.alloc (.cells #[.slice (some ⟨b5,0,none⟩) n5 c5] 25)).drew.heap.size<=H->X.ownsRow H 25 1 (.slice (some ⟨gX,0,none⟩) (m.n+1) cX) (m.n+1) (OL++[.slice (some ⟨b5,0,none⟩) n5 c5])->Gs (gC F5) Q HH I X B ps (.slice (some ⟨r,0,none⟩) L.length c) (.slice (some ⟨rg,0,none⟩) MM.length cg) r c base ag L MM (cH t i)/\Kf (gC F5) Q X (.slice (some ⟨rg,0,none⟩) MM.length cg) base ag L MM (cH t i) ps i ⟨.slice (some ⟨gX,0,none⟩) (m.n+1) cX,gX,0,m.n+1,cX,m.N+(gC F5).W,cX*(gC F5).W⟩):=fun gX cX X H h1 h2 h3=>by
      rw [sX] at h3;exact sW.out.full fD.out [Value.slice (some ⟨b5,0,none⟩) n5 c5] rfl Ie.out jP.out h1 h2 oU h3
     rw [<- sX] at HOLD;clear sX
     have zD:Hid (∀ X,Gs (gC F5) Q HH I X B ps (.slice (some ⟨r,0,none⟩) L.length c) (.slice (some ⟨rg,0,none⟩) MM.length cg) r c base ag L MM (cH t i)->X.cell? ⟨rg,i,none⟩=some (.slice am m.n m.c)):=fun X hX=>by
      rw [<- Ia.out];exact (hX.own.cellAt i (by have:=qu.out;omega)).trans (by rw [List.getElem?_map,fD.out];rfl)
     go_region_law
      ((refine step_append_grows (by rfl) _ _ _ (by rfl) 25 i1 (.slice none 0 0) 1 24 Tryz.underlying23 jN Dm EC rG (by rfl) (by decide) am m.n m.c OL (by rfl) vK.out zE (by exact HOLD.out _ rfl) ⟨w5.heap.size,0,none⟩ 1 1 [.slice (some ⟨b5,0,none⟩) n5 c5] (by rfl) (by rfl) (by exact gp.out _ _ rfl) (by intro u hu;simp at hu;subst hu;rfl) (by omega) (by unfold maxLen;omega) (by omega) ?_;intro v' X eR Fv;obtain ⟨gX,cX,Tj,_,_⟩:=eR.form (by omega);subst Tj;have fy:=oX.out gX cX X _ Fv (by exact Nat.le_refl _) eR;have HYX:=hJ (HYD.out.kept Fv (by simp));have HGX:Hid (∀ b,SM5 b->gX≠b):=(fun b hb e=>by have h8:=(HYD.out.dj b hb).2.1;have h9:=(eR.lt gX rfl).1;omega);have Te:X.cell? ⟨B,13,none⟩=some (.slice (some ⟨rg,0,none⟩) MM.length cg):=fy.1.gl;have Tf:=zD.out X fy.1;have Tg:X.frozen? ⟨rg,i,none⟩=false:=fy.1.own.frozenAt i;have oW:=hJ fy;clear fy eR Fv))
     all_goals
      have HP:=hJ (oW.out.1.put oW.out.2 qu.out jP.out);have PT:=hJ (HYX.out.put fD.out LM.out Rk.out (m':=⟨.slice (some ⟨gX,0,none⟩) (m.n+1) cX,gX,0,m.n+1,cX,m.N+(gC F5).W,cX*(gC F5).W⟩) rfl (Or.inr HGX.out) HRG.out.1 (v:=.slice (some ⟨gX,0,none⟩) (m.n+1) cX) rfl);rw [dY] at HP;go_wp2;go_roundw
      case rel =>
       refine ⟨i+1,by omega,by go_num,by go_num,_,_,F5,SM5,?_,HP.out,PT.out⟩;have h3:=Hy.out;rw [List.length_set];exact h3
      case measure=>simp [intOf];omega
  ·have hin:i=L.length:=by omega
   subst hin;go_wp2;go_ret;refine ⟨rfl,vg,M,F,SM,?_,HG.out,HX.out⟩;have:=pC.out
   by_cases e:t=0
   ·rwa [if_pos e] at this
   ·rwa [if_neg e] at this
theorem Lx.Vf {Q':Nat->Prop}{L M:List au}(h:Lx w F SM Q ps ag base vg L M)(hq:∀ b,Q b->b<w.heap.size->Q' b):Lx w F SM Q' ps ag base vg L M :=
 ⟨h.lk,fun b hb=>⟨(h.dj b hb).1,(h.dj b hb).2.1,hq b (h.dj b hb).2.2.1 (h.dj b hb).2.1,(h.dj b hb).2.2.2⟩,h.tz⟩
def Vg (B base:Nat)(vb:Value)(r c:Nat)(L:List au)(U:World->Prop):Kn where
 n:=L.length
 own:=fun b=>∃ s∈L,s.g=b
 need:=fun b=>(∃ s∈L,s.g=b)∨b=r∨b=3
 Z:=fun w=>U w/\(∃ F,Kc (gC F) w B 0 vb r c L)/\gT w B 11/\Tz w
 T:=fun p w=>(∃ F,Kc (gC F) w B p vb r c L)/\gT w B 11/\Tz w
 M:=fun S p ag w=>∃ F,Ks (gC F) w B p vb r c L ag/\Ak w F S p ag (fun k=>(L.getD k lV).N)/\gT w B 11/\Tz w
 G:=fun S t ag w=>∃ vg M F SM,(if t=0 then M=[] else M.length=L.length)/\xH (gC F) S w B 1 vb vg r c base ag L M (cH t 0)/\Lx w F SM S 1 ag base vg L M
theorem FO {L:List au}{k:Nat}{s:au}(h:L[k]?=some s):(L.getD k lV).N=s.N:=by simp [List.getD,h]
theorem Xr {L:List au}{U:World->Prop}(qZ:B<base)(hr:r<base/\r≠B)(hL:∀ s∈L,s.g<base/\s.g≠B/\s.n<=1099511620000)(LP:3<base/\3≠B/\∀ s∈L,s.g≠3)
  (hun:∀ F w,U w->Kc (gC F) w B 0 vb r c L->Calls Tryz.prog (fnU 3) #[.pointer (some ⟨B,0,none⟩)] w fun en w'=>en=.returned (.bool true)/\w.grownBy w' none) (hUk:∀ v v',U v->v.grownBy v' none->U v'):fU B base (Vg B base vb r c L U) 3 where
 bH:=fun w h=>by obtain ⟨F,hF⟩:=h.2.1;exact hun F w h.1 hF
 write:=fun p ag dN I w hp e hid h hb hI hst=>by
  subst e;obtain ⟨⟨F,hF⟩,hgn,Xs⟩:=h;refine (CY B p hp vb r c L ag (fun v=>I v/\gT v B 11) w hid F hF (fun s hs=>⟨by have:=(hL s hs).1;omega,fun e=>LP.2.2 s hs e.symm⟩) Xs ⟨hI,hgn⟩ ?_ ?_).mono ?_
  ·rintro v s i u hs hi ⟨a1,a3⟩
   have hg:=aA v s.g (s.o+i) u;exact ⟨hst _ _ _ a1 hg (fun b e=>⟨s,hs,Option.some.inj e⟩),a3.kept hg (fun e=>(hL s hs).2.1 (Option.some.inj e).symm)⟩
  ·rintro v v' hg ⟨a1,a3⟩
   exact ⟨hst _ _ _ a1 hg (by simp),a3.kept hg (by simp)⟩
  ·rintro en w' ⟨rfl,hk⟩
   obtain ⟨F',h1,h2⟩:=hk.ex;refine ⟨rfl,hk.sz,h1.inv.1,fun b=>w.heap.size<=b/\b<w'.heap.size,⟨F',h1.ks,fun k x hx=>h2 k x ?_,h1.inv.2,hk.tz⟩,fun i hi=>hi⟩;simp only
   by_cases hk':k<L.length
   ·rw [if_pos hk'];exact hx
   ·simp [List.getD,List.getElem?_eq_none (show L.length<=k by omega),lV] at hx
 hold:=fun S p ag dN w hp e hid h=>by
  subst e;obtain ⟨F,h1,h2,h3,h4⟩:=h;exact vy B p hp F S _ vb _ r c 0 0 L [] ag w hid h1.bc (GZ h3.c) (Or.inr rfl) h1.marks h2 (fun k s hs=>by show s.N<=(L.getD k lV).N;rw [FO hs];exact Nat.le_refl _) (fun k s hs=>by simp at hs) h4
 grow:=fun S t ag dN tI I w ht e et hid h hS hb hI hst pE=>by
  subst e et;obtain ⟨vg,M,F,SM,hM,hG,hX⟩:=h;refine (FN B 1 (by omega) vb vg r c base ag L M t _ _ I w F SM (hG.use I hI) (hX.Vf (fun b hb _=>Or.inl hb)) LP (by omega) hM hr.2 hid (fun s hs=>by have:=(hL s hs).2.2;omega) (fun v v' row h1 h2 h3=>hst v v' row h1 h2 (fun i hi=>Or.inr (h3 i hi))) (fun v u h1=>pE v u h1) (fun v s i u hs _ h1=>hst v _ (some s.g) h1 (aA v s.g (s.o+i) u) (fun b e=>Or.inl ⟨s,hs,Option.some.inj e⟩))).mono ?_;rintro en w' ⟨rfl,uT,M',F',SM',hM',mR,hX'⟩;refine ⟨rfl,mR.rB.2.2.2.2,mR.inv,_,⟨uT,M',F',SM',by rw [if_neg (by omega)];exact hM',(xH.of mR (fun i hi=>(hS i hi).1) hb).tn (CI t L.length hM'),hX'.Vf (fun b hb hl=>⟨hb,hl⟩)⟩,fun i hi=>hi⟩
 fW:=fun S ag dN w e hid h=>by
  subst e;obtain ⟨vg,M,F,SM,hM,hG,hX⟩:=h;obtain ⟨r2,c2,hk⟩:=hG.kg;exact vy B 1 (by omega) F SM _ vb vg r c r2 c2 L M ag w hid hG.gs.bc hk (Or.inl (by rw [if_neg (by omega)] at hM;exact hM)) hG.gs.lm hX.lk (fun k s hs=>by unfold Pe;rw [FO hs];omega) (fun k s hs=>by unfold Pe;rw [FO hs];omega) hX.tz
 fX:=fun v v' h hg=>by
  obtain ⟨h0,⟨F,hF⟩,h2,h3⟩:=h;exact ⟨hUk v v' h0 hg,⟨F,hF.kept hg (by simp) (by simp) (by simp)⟩,h2.kept hg (by simp),h3.ae hg⟩
 zt:=fun v h=>h.2
 CE:=fun p v v' row h hg hrw=>by
  obtain ⟨⟨F,hF⟩,h2,h3⟩:=h;exact ⟨⟨F,hF.kept hg (fun e=>(hrw B e.symm).1 rfl) (fun e=>(hrw r e.symm).2 (Or.inr (Or.inl rfl))) (fun s hs e=>(hrw _ e.symm).2 (Or.inl ⟨s,hs,rfl⟩))⟩,h2.kept hg (fun e=>(hrw B e.symm).1 rfl),h3.kept hg (fun e=>(hrw _ e.symm).2 (Or.inr (Or.inr rfl)))⟩
 Hi:=fun p p' v h=>by
  obtain ⟨⟨F,hF⟩,h2,h3⟩:=h;exact ⟨⟨F,hF.Vc p' hr.2 (by show 11≠1;decide)⟩,h2.set 1 _ (by omega),h3.kept (aA v B 1 _) (fun e=>LP.2.1 (Option.some.inj e))⟩
 mt:=fun S p ag v ⟨F,h1,h2,h3,h4⟩=>⟨⟨F,h1.bc⟩,h3,h4⟩
 fB:=fun S p ag v v' row ⟨F,h1,h2,h3,h4⟩ hg hrw=>⟨F,h1.kept hg (fun e=>(hrw B e.symm).1 rfl) (fun e=>(hrw r e.symm).2.1 (Or.inr (Or.inl rfl))) (fun s hs e=>(hrw _ e.symm).2.1 (Or.inl ⟨s,hs,rfl⟩)),h2.kept hg (fun i e=>(hrw i e).2.2),h3.kept hg (fun e=>(hrw B e.symm).1 rfl),h4.kept hg (fun e=>(hrw _ e.symm).2.1 (Or.inr (Or.inr rfl)))⟩
 mg:=fun S ag v ⟨F,h1,h2,h3,h4⟩ hb hS=>⟨_,[],F,S,rfl,by
  have h5:=h1.gb base ⟨h3.c,h3.f⟩ (fun s hs=>(hL s hs).1) hr.1 qZ hb;exact ⟨h5.gs,fun i hi=>by simp [Value.ownBlock] at hi,fun k m hm=>by simp at hm,hS⟩,⟨h2.mono (fun b hb=>hb) (fun k=>by unfold Pe;simp [List.getD,lV]),fun b hb=>⟨(hS b hb).1,(hS b hb).2,hb,by simp [Value.ownBlock],fun k m hm=>by simp at hm⟩,h4⟩⟩
 fC:=fun S t ag v v' row ⟨vg,M,F,SM,hM,hG,hX⟩ hg hrw=>⟨vg,M,F,SM,hM,hG.kept hg (fun i hi=>⟨(hrw i hi).1,fun e=>(hrw i hi).2.1 (Or.inr (Or.inl e)),fun s hs e=>(hrw i hi).2.1 (Or.inl ⟨s,hs,e⟩),(hrw i hi).2.2⟩),hX.kept hg (fun i hi=>⟨fun hb=>(hrw i hi).2.2 (hX.dj i hb).2.2.1,fun e=>(hrw i hi).2.1 (Or.inr (Or.inr e))⟩)⟩
 CF:=fun S t ag v i u ⟨vg,M,F,SM,hM,hG,hX⟩ h1 h2 h3=>⟨vg,M,F,SM,hM,hG.Ou i u h1 (by show i≠11;omega) (by show i≠11+2;omega) hr.2,hX.kept (aA v B i u) (fun b e=>by obtain rfl:=Option.some.inj e;exact ⟨fun hb=>by have:=(hX.dj _ hb).1;omega,Ne.symm LP.2.1⟩)⟩
 sub:=fun i h=>Or.inl h
 old:=fun i h=>by
  rcases h with ⟨s,hs,rfl⟩ | rfl | rfl
  ·exact (hL s hs).1
  ·exact hr.1
  ·exact LP.1
 nB:=fun i h=>by
  rcases h with ⟨s,hs,rfl⟩ | rfl | rfl
  ·exact (hL s hs).2.1
  ·exact hr.2
  ·exact LP.2.1
end Go.Proofs.YtgldkdbkaachkaaGreatDoor
