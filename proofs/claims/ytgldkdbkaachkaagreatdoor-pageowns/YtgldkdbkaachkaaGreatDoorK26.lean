import Derived.Test.YtgldkdbkaachkaaGreatDoorK25
import Derived.Test.YtgldkdbkaachkaaGreatDoorK24
import Derived.Deep.AppendLies
set_option maxRecDepth 100000
set_option maxHeartbeats 4000000
namespace Go.Proofs.YtgldkdbkaachkaaGreatDoor
open Go.RowKit
variable {xs:List Value}{base d i n:Nat}{cs cs':Nat->Value}{a:Option Addr}{w w':World}
structure Ti (w:World)(base:Nat)(cs:Nat->Value)(a:Option Addr)(Z:List It):Prop where
 row:∀ i,i<Z.length->∃ b off ao n c bo m d,a=some ⟨b,off,none⟩/\w.cell? ⟨b,off+i*4,none⟩=some (.slice ao n c)/\w.cell? ⟨b,off+i*4+1,none⟩=some (.slice bo m d)/\w.cell? ⟨b,off+i*4+2,none⟩=some (.int .i64 (Z.getD i aG).size)/\w.cell? ⟨b,off+i*4+3,none⟩=some (.int .i64 (Z.getD i aG).first)/\Tb w base cs ao n c (Z.getD i aG).key/\n<=c/\c<=9223372036854775807/\Tb w base cs bo m d (Z.getD i aG).val/\m<=d/\d<=9223372036854775807/\ja base cs b
theorem Ti.cE {Z:List It}(h:Ti w base cs a Z)(k:Kee w w' base cs cs'):Ti w' base cs' a Z:=by
 refine ⟨fun i hi=>?_⟩;obtain ⟨b,off,ao,n,c,bo,m,d,h1,h2,h3,h4,h5,h6,h7,h8,h9,h10,h11,h12⟩:=h.row i hi;exact ⟨b,off,ao,n,c,bo,m,d,h1,k.cell h2 h12,k.cell h3 h12,k.cell h4 h12,k.cell h5 h12,h6.cE k,h7,h8,h9.cE k,h10,h11,(k.block b (World.block_lt_of_cell? w _ h2) h12).2⟩
theorem Ti.il {Z:List It}(h:Ti w base cs a Z):Il w a Z:=by
 refine ⟨fun i hi=>?_⟩;obtain ⟨b,off,ao,n,c,bo,m,d,h1,h2,h3,h4,h5,h6,h7,h8,h9,h10,h11,_⟩:=h.row i hi;exact ⟨b,off,ao,n,c,bo,m,d,h1,h2,h3,h4,h5,h6.OA,h7,h8,h9.OA,h10,h11⟩
theorem Xg{w3:World}{H A c:Nat}{gk gv:Nat->Nat × Nat}{L:List It}(h:Lq w H A c gk gv xs L)(h3:Lq w3 H A c gk gv xs L)(hf:∀ d,H<=d->d<w3.heap.size->ja base cs d):Ti w base cs (some ⟨A,0,none⟩) L:=by
 refine ⟨fun j hj=>?_⟩;obtain ⟨a1,a2,a3,a4⟩:=h.lm.cells (ys:=[]) (by rw [List.append_nil];exact h.own) j hj;obtain ⟨k1,k2⟩:=h.lm.ko j hj;obtain ⟨k3,k4⟩:=h3.lm.ko j hj;obtain ⟨l1,l2,_⟩:=h.lm.lo j hj;have e1:=k1.le;have e2:=k2.le;have m1:=k1.max;have m2:=k2.max;have t1:=k3.lt;have t2:=k4.lt;have t3:=h3.own.lt A rfl;rw [List.length_append] at e1 e2;exact ⟨A,0,_,_,_,_,_,_,rfl,by rw [Nat.zero_add];exact a1,by rw [Nat.zero_add];exact a2,by rw [Nat.zero_add];exact a3,by rw [Nat.zero_add];exact a4,⟨oB k1 _ rfl,fun ad e _=>by obtain rfl:=Option.some.inj e;exact hf _ l1 t1⟩,by omega,by omega,⟨oB k2 _ rfl,fun ad e _=>by obtain rfl:=Option.some.inj e;exact hf _ l2 t2⟩,by omega,by omega,hf A t3.1 t3.2⟩
def oQ (w:World)(base:Nat)(cs:Nat->Value)(s:au)(y:Value):Prop:=∃ ao bo cb,∃ Z:List It,s.v=.slice ao s.n s.c/\y=.slice bo s.n cb/\Ti w base cs ao Z/\Ti w base cs bo Z/\Ib Z/\Z.length=s.n
theorem oQ.cE (k:Kee w w' base cs cs'):∀ s y,oQ w base cs s y->oQ w' base cs' s y:=by
 rintro s y ⟨ao,bo,cb,zs,h1,h2,h3,h4,h5⟩;exact ⟨ao,bo,cb,zs,h1,h2,h3.cE k,h4.cE k,h5⟩
theorem zy:(Tryz.prog.info? 22).map (fun i=>(i.zero,i.size,i.bytes))=some (some (.slice none 0 0),1,24):=by kernel_rfl
theorem KG {kd:Nat->eP}{aM:Nat->World->Nat->(Nat->Value)->au->Value->Prop}(hK:Ku kd aM){B:Nat}{L:Nat->List au}{ys:Nat->List Value}(h:gU kd aM w B base cs L ys)(Xh:kd 0=gS)(es0:aM 0=kZ)(ek:kd 6=dJ)(es:aM 6=oQ)(a:Option Addr)(n cap:Nat)(Z:List It)(D:List au)(hti:Ti w base cs a Z)(hib:Ib Z)(JD:Z.length=n)(hn:n<=5000)(hzs:∀ x∈Z,x.key.length<=100000/\x.val.length<=100000)
  (hDl:D.length=2*n) (hD:∀ i,i<n->∃ b off k v,a=some ⟨b,off,none⟩/\D[2*i]?=some k/\D[2*i+1]?=some v/\w.cell? ⟨b,off+i*4,none⟩=some k.v/\w.cell? ⟨b,off+i*4+1,none⟩=some v.v)
  (hDo:∀ s∈D,Ho w base cs 1 5 s) (hDp:D.Pairwise au.bR) (hDa:∀ t∈L 0,∀ s∈D,t.bR s) (hm:(L 0).length+2*n<=1000000) (hm6:(L 6).length<=1000000) :
  Calls Tryz.prog 35 #[.pointer (some ⟨B,0,none⟩),.slice a n cap] w fun en w'=>en=.returned (.tuple #[])/\∃ cs' YY y,pF w w' B base cs cs'/\(∀ s:au,s.v=.slice a n cap->s.n=n->s.c=cap->Ho w base cs (kd 6).W (kd 6).et s->(∀ t∈bI L 0 D 6,t.bR s)->gU kd aM w' B base cs' (bI (bI L 0 D) 6 [s]) (CK YY 6 [y]))/\(n=0->cap=0->∃ s,w.heap.size<=s.g/\s.C=0/\gU kd aM w' B base cs' (bI (bI L 0 D) 6 [s]) (CK YY 6 [y])):=by
 obtain ⟨i0,hi,hz0,hz1,hz2⟩:=info_parts zy;have S0:Hid (∃ cz YY,gU kd aM w B base cz (bI L 0 (D.take (2*0))) YY/\pF w w B base cs cz):=⟨cs,ys,by rw [Nat.mul_zero,List.take_zero,Hj];exact h,pF.of ((Qt.refl _).grown none)⟩;have HD:=hJ hD;have HDO:=hJ hDo;have OO:=hJ hti
 have AP:Hid (∀ j k,D[j]?=some k->∀ t∈bI L 0 (D.take j) 0,t.bR k):=fun j k hk t ht=>by
  rw [cT] at ht;rcases List.mem_append.1 ht with h | h
  ·exact hDa t h k (List.mem_of_getElem? hk)
  ·obtain ⟨i,hi⟩:=List.mem_iff_getElem?.1 h
   have Ns:=(List.getElem?_eq_some_iff.1 hi).1;rw [List.length_take] at Ns;rw [List.getElem?_take,if_pos (by omega)] at hi;exact oI hDp hi hk (by omega)
 clear h hti hD hDo hDp hDa;go_enter Tryz.func35,Tryz.ntmps35;go_wp2;go_loopw [4] (fun si wr=>∃ i:Nat,i<=n/\si=.int .i64 i/\∃ cz YY,gU kd aM wr B base cz (bI L 0 (D.take (2*i))) YY/\pF w wr B base cs cz) (fun si _=>n - (intOf si).toNat)
 case atStart=>exact ⟨0,Nat.zero_le _,rfl,S0.out⟩
 case round =>
  obtain ⟨i,hi',rfl,cz,YY,hT,hkf⟩:=hrel;have HT:=hJ hT;have xL:=hJ hkf;clear hT hkf S0
  by_cases hlt:i<n
  ·obtain ⟨b,off,k,v,rfl,hk,hv,ck,cv⟩:=HD.out i hlt
   obtain ⟨b',off',ao,m,c,bo,m2,d,e,q1,q2,_,_,q6,_,_,q9,_,_,q12⟩:=OO.out.row i (by omega);simp only [Option.some.injEq,Addr.mk.injEq,and_true] at e;obtain ⟨rfl,rfl⟩:=e;have SJ:=HDO.out k (List.mem_of_getElem? hk);have hvr:=HDO.out v (List.mem_of_getElem? hv);obtain ⟨ak,ekv,_⟩:=SJ.ok.val;obtain ⟨av,evv,_⟩:=hvr.ok.val;have Xi:=ck;have cv2:=cv;rw [q1] at Xi;rw [q2] at cv2;have e1:=Option.some.inj Xi;have e2:=Option.some.inj cv2;rw [ekv] at e1;rw [evv] at e2;simp only [Value.slice.injEq] at e1 e2;obtain ⟨rfl,rfl,rfl⟩:=e1;obtain ⟨rfl,rfl,rfl⟩:=e2;have c1:=xL.out.toKee.cell q1 q12;have c2:=xL.out.toKee.cell q2 q12;have XS:=hJ (q6.cE xL.out.toKee);have HQ9:=hJ q9;have HKR:=hJ (SJ.cE xL.out.toKee);have HVR:=hJ hvr;have HEK:=hJ ekv;have HEV:=hJ evv;have HK:=hJ hk;have HV:=hJ hv;have Dg:=hJ q2;have afY:=hJ q12;have g0:(0:Int)<=(i:Int):=by omega
   have g1:(i:Int)<(n:Int):=by omega
   have hLk:(bI L 0 (D.take (2*i)) 0).length<=1000000:=by rw [cT,List.length_append,List.length_take];omega
   have hLv:(bI L 0 (D.take (2*i+1)) 0).length<=1000000:=by rw [cT,List.length_append,List.length_take];omega
   have hkn:=SJ.n;have hvn:=hvr.n;clear ck Xi cv cv2 q1 q2 q6 q9 q12 SJ hvr hk hv ekv evv
   go_wp2_with fail
   refine (jd hK HT.out Xh es0 ao k.n k.c _ XS.out hkn hLk).mono ?_;rintro en w1 ⟨rfl,cz1,y1,k1,k2,_⟩;have YB:=hJ (k2 k HEK.out rfl rfl (by rw [Xh];exact HKR.out) (AP.out _ k HK.out));have Fo:=hJ (xL.out.trans k1)
   have etk:D.take (2*i+1)=D.take (2*i)++[k]:=by
    rw [List.take_add_one,HK.out];rfl
   rw [yZ,<- etk] at YB;have c3:=Fo.out.toKee.cell Dg.out afY.out;have abL:=hJ (HQ9.out.cE Fo.out.toKee);have abM:=hJ (HVR.out.cE Fo.out.toKee);clear k1 k2 etk HT xL XS HQ9 HKR HVR c1 c2
   go_wp2_with fail
   refine (jd hK YB.out Xh es0 bo v.n v.c _ abL.out hvn hLv).mono ?_;rintro en w3 ⟨rfl,cz3,y3,k1,k2,_⟩;have HT3:=hJ (k2 v HEV.out rfl rfl (by rw [Xh];exact abM.out) (AP.out _ v HV.out));have af0:=hJ (Fo.out.trans k1)
   have etv:D.take (2*(i+1))=D.take (2*i+1)++[v]:=by
    rw [show 2*(i+1)=2*i+1+1 by omega,List.take_add_one,HV.out];rfl
   rw [yZ,<- etv] at HT3;clear k1 k2 etv YB Fo abL abM c3;go_wp2;go_roundw
   case rel=>exact ⟨i+1,by omega,by go_num,_,_,HT3.out,af0.out⟩
   case measure=>simp [intOf];omega
  ·have hin:n=i:=by omega
   subst hin;have etl:D.take (2*n)=D:=List.take_of_length_le (by omega);rw [etl] at HT;clear etl;have DZ:=hJ (OO.out.cE xL.out.toKee);have Sr:(bI L 0 D 6).length<=1000000:=by rw [aB _ _ (by omega)];exact hm6
   have HX:=hJ HT.out.t.box;have Hp:Hid (wr.ownsRow base 22 1 (cz 20) (bI L 0 D 6).length ((bI L 0 D 6).map au.v)):=by have:=(HT.out.k 6 (by omega)).ob;rw [ek] at this;exact this
   have HOW:Hid (wr.ownsRow base 22 1 (cz 21) (bI L 0 D 6).length (YY 6)):=by have:=(HT.out.k 6 (by omega)).ow;rw [ek] at this;exact this
   have qF:=HT.out.t.qj 20 (by omega);have qi:=HT.out.t.qj 21 (by omega);have hbase:=HT.out.t.bB.2;have qZ:=HT.out.t.bB.1;have wL:∀ i,(cz 20).ownBlock=some i->(cz 21).ownBlock≠some i:=HT.out.t.un 20 21 (by omega) (by omega) (by omega);have Ss:=hJ wL;have k2:=HX.out.cell 20 (by omega);obtain ⟨LJ,zj⟩:∃ LJ,LJ=bI L 0 D 6:=⟨_,rfl⟩;obtain ⟨YJ,zk⟩:∃ YJ,YJ=YY 6:=⟨_,rfl⟩;rw [<- zj] at Hp HOW Sr;rw [<- zk] at HOW;have Sw:=hJ zj;have Sz:=hJ zk;clear zj zk
   go_wp2_with (at_builtin;refine wpList_append_lies _ rfl _ _ 41 rfl base 22 i0 (.slice none 0 0) 1 24 Tryz.underlying41 hi hz0 hz1 hz2 rfl (by decide) (cz 20) LJ.length (LJ.map au.v) rfl (Hp.out.alloc _) ⟨wr.heap.size,0,none⟩ 1 1 [.slice a n cap] rfl rfl (cell_one_new _ _ _) (by intro u hu;simp at hu;subst hu;rfl) (by omega) (by unfold maxLen;omega) (by omega) (by simp;omega) (wr.heap.size+1) (by simp) ?_)
   intro g1 c1 w1 hown1 hg1 dI iZ;have X1:Hid (uU w1 B cz):=(HX.out.kept (World.grownBy_alloc _ _ none) (by simp)).kept hg1 (Ne.symm qF);have X2:Hid (uU (w1.setCell ⟨B,20,none⟩ (.slice (some ⟨g1,0,none⟩) (LJ.length+1) c1)) B (dr cz 20 (.slice (some ⟨g1,0,none⟩) (LJ.length+1) c1))):=X1.out.set 20 (by omega) _;have QE:=X1.out.cell 20 (by omega);have f2':=X1.out.fz 20 (by omega);have qH:(w1.setCell ⟨B,20,none⟩ (.slice (some ⟨g1,0,none⟩) (LJ.length+1) c1)).cell? ⟨B,21,none⟩=some (cz 21):=(X2.out.cell 21 (by omega)).trans (by rw [bT _ _ (by omega)]);have f3':=X2.out.fz 21 (by omega);have H1:=hJ hown1;have bj:=hJ hg1;clear hown1 hg1;go_wp2;obtain ⟨w2,hw2⟩:∃ w2,w2=w1.setCell ⟨B,20,none⟩ (.slice (some ⟨g1,0,none⟩) (LJ.length+1) c1):=⟨_,rfl⟩;rw [<- hw2] at X2 qH f3' ⊢;have Hq:=hJ hw2;clear hw2;have kK:w2.heap.size=w1.heap.size:=by rw [Hq.out];simp
   have Oy:wr.heap.size<w1.heap.size:=by have:=bj.out.size;simp at this;omega
   have fx:w1.grownBy w2 (some B):=by rw [Hq.out];exact aA _ _ _ _
   have SA:Hid (Kee wr w2 base cz cz):=⟨by omega,fun d hd hf=>⟨(fx.block d (by omega) (fun e=>by have:=hf.1;have:=Option.some.inj e;omega)).trans ((bj.out.block d (by simp;omega) (fun e=>hf.2 20 (by omega) e.symm)).trans ((World.grownBy_alloc wr _ none).block d hd (by simp))),hf⟩⟩;have Y2:Hid (∀ w':World,w'.heap=w2.heap->Il w' a Z):=fun w' e=>(DZ.out.cE SA.out).il.heap e
   have O2:Hid (w2.ownsRow base 22 1 (cz 21) LJ.length YJ) :=
    (((HOW.out.alloc _).kept bj.out (by
     cases mX:(cz 21).ownBlock with
     | none=>exact Or.inl rfl
     | some i=>exact Or.inr (fun e=>wL i e.symm mX))).kept fx (Or.inr qi))
   have P2:Hid (w2.ownsRow base 22 1 (.slice (some ⟨g1,0,none⟩) (LJ.length+1) c1) (LJ.length+1) (LJ.map au.v++[.slice a n cap])) :=
    H1.out.kept fx (Or.inr (fun e=>by
     have e':g1=B:=Option.some.inj e;have:=HX.out.lt;rcases dI with h | h
     ·exact qF (by rw [h,e'])
     ·omega))
   have zl:=hJ fx;clear fx;have oO:=hJ kK;have hb2:base<=w2.heap.size:=by omega
   have SC:=hJ (fun i e=>(HOW.out.lt i e).2:∀ i,(cz 21).ownBlock=some i->i<wr.heap.size);clear kK;generalize mX:cz 21=vw at *
   go_region_law
    ((first
     | (go_simp;go_at_call 21;refine (oC a n cap Z _ (by exact Y2.out _ rfl) JD (by omega) hzs).mono ?_;rintro en w3 ⟨A,cA,gk,gv,zs3,rfl,NZ,alM,alN,hg3⟩;have jy:w3.cell? ⟨B,21,none⟩=some vw:=hg3.cell (by simpa using qH) (by simp);have nn3:=World.new_ne w3 ⟨B,21,none⟩ jy;have SD:∀ o:Obj,(w3.alloc o).cell? ⟨B,21,none⟩=some vw:=(fun o=>by rw [World.cell?_alloc_lt _ _ _ (World.block_lt_of_cell? _ _ jy)];exact jy);have SE:w3.frozen? ⟨B,21,none⟩=false:=(hg3.frozen_far ⟨B,21,none⟩ (by simpa using World.block_lt_of_cell? _ _ qH) (by simp)).trans (by simpa using f3'))
     | (refine step_append_lies _ (by rfl) _ _ _ (by rfl) base 22 i0 (.slice none 0 0) 1 24 Tryz.underlying41 hi hz0 hz1 hz2 (by rfl) (by decide) vw LJ.length YJ (by rfl) (by exact ((O2.out.kept ((Qt.refl w2).drew.grown none) (by cases vw.ownBlock <;> simp)).kept hg3 (by cases vw.ownBlock <;> simp)).alloc _) ⟨w3.heap.size,0,none⟩ 1 1 [.slice (some ⟨A,0,none⟩) n cA] (by rfl) (by rfl) (by exact cell_one_new _ _ _) (by intro u hu;simp at hu;subst hu;rfl) (by omega) (by unfold maxLen;omega) (by omega) (by have h9:=hg3.size;simp at h9;simp;omega) (w3.heap.size+1) (by simp) ?_;intro g4 c4 w4 fS hg4 jO ED;have kk4:w4.cell? ⟨B,21,none⟩=some vw:=hg4.cell (by rw [World.cell?_alloc_lt _ _ _ (World.block_lt_of_cell? _ _ jy)];exact jy) (Ne.symm qi);have ff4:w4.frozen? ⟨B,21,none⟩=false:=(hg4.frozen_far ⟨B,21,none⟩ (by have:=World.block_lt_of_cell? _ _ jy;simp at this ⊢;omega) (Ne.symm qi)).trans ((World.frozen?_of_block ((World.grownBy_alloc w3 _ none).block B (World.block_lt_of_cell? _ _ jy) (by simp))).trans SE))))
   all_goals
    refine Go.Great.bodyPost_end0 rfl rfl ?_;subst mX;have zm:w2.heap.size<=w3.heap.size:=by have:=hg3.size;simpa using this
    have fu:=aA w4 B 21 (.slice (some ⟨g4,0,none⟩) (LJ.length+1) c4);have SF:=Fi.make (q:=20) (by omega) HX.out.lt HOW.out qF qi Ss.out bj.out dI iZ zl.out oO.out X2.out P2.out hg3 zm fS hg4 jO;have hBl:=HX.out.lt;have hS:=oO.out;have zn:=SC.out;have zo:Fi (kd 6).lt 20 wr (w4.setCell ⟨B,21,none⟩ (.slice (some ⟨g4,0,none⟩) (LJ.length+1) c4)) B cz base (bI L 0 D 6).length ((bI L 0 D 6).map au.v) (YY 6) (.slice a n cap) (.slice (some ⟨A,0,none⟩) n cA) (.slice (some ⟨g1,0,none⟩) (LJ.length+1) c1) (.slice (some ⟨g4,0,none⟩) (LJ.length+1) c4):=by rw [<- Sw.out,<- Sz.out,ek];exact SF
    obtain ⟨s1,s2,s3⟩:=HT.out.snoc hK 6 20 (by omega) (by rw [ek];rfl) zo
    have zq:g4<w2.heap.size∨w3.heap.size<=g4:=by
     rcases jO with h | h
     ·exact Or.inl (by have:=zn g4 h;omega)
     ·exact Or.inr (by omega)
    have FC:∀ b,w2.heap.size<=b->b<w3.heap.size->ja base (dr (dr cz 20 (.slice (some ⟨g1,0,none⟩) (LJ.length+1) c1)) (20+1) (.slice (some ⟨g4,0,none⟩) (LJ.length+1) c4)) b:=fun b h1 h2=>lc HT.out.t (lo:=w2.heap.size) (hi:=w3.heap.size) (by omega) (by omega) zq h1 h2
    have KO:∀ {H W:Nat} {t:TypeId} {v:Value} {m:Nat} {xs:List Value},w3.ownsRow H t W v m xs->w2.heap.size<=H->(w4.setCell ⟨B,21,none⟩ (.slice (some ⟨g4,0,none⟩) (LJ.length+1) c4)).ownsRow H t W v m xs:=fun {H W t v m xs} ho hH=>by
     have hne:∀ i,v.ownBlock=some i->w2.heap.size<=i:=fun i e=>by have:=(ho.lt i e).1;omega
     have h5:=(ho.alloc (.cells #[.slice (some ⟨A,0,none⟩) n cA] 22)).kept hg4 (by
      cases hv:v.ownBlock with
      | none=>exact Or.inl rfl
      | some i=>exact Or.inr (fun e=>by have:=hne i hv;have:=zn i e.symm;omega))
     exact h5.kept fu (by
      cases hv:v.ownBlock with
      | none=>exact Or.inl rfl
      | some i=>exact Or.inr (fun e=>by have:=hne i hv;have:=Option.some.inj e;omega))
    have hq4:=NZ.ae (World.grownBy_alloc w3 (.cells #[.slice (some ⟨A,0,none⟩) n cA] 22) none)
    have hq5:Lq w4 w2.drew.heap.size A cA gk gv zs3 Z:=by
     cases hv:(cz 21).ownBlock with
     | none=>rw [hv] at hg4;exact hq4.ae hg4
     | some i=>rw [hv] at hg4;exact hq4.below hg4 (by have:=zn i hv;show i<w2.heap.size;omega)
    have hq6:=hq5.below fu (by show B<w2.heap.size;omega)
    have SM:(∀ (s:au),s.v=.slice a n cap->s.n=n->s.c=cap->aM 6 (w4.setCell ⟨B,21,none⟩ (.slice (some ⟨g4,0,none⟩) (LJ.length+1) c4)) base (dr (dr cz 20 (.slice (some ⟨g1,0,none⟩) (LJ.length+1) c1)) (20+1) (.slice (some ⟨g4,0,none⟩) (LJ.length+1) c4)) s (.slice (some ⟨A,0,none⟩) n cA)):=fun s e1 e2 e3=>by
     subst e2 e3;rw [es];exact ⟨a,some ⟨A,0,none⟩,cA,Z,e1,rfl,DZ.out.cE s2.toKee,Xg hq6 NZ (fun d h1 h2=>FC d h1 h2),hib,JD⟩
    have hA3:=NZ.own.lt A rfl;have xa:w2.heap.size<=A:=hA3.1;refine ⟨rfl,_,YY,.slice (some ⟨A,0,none⟩) n cA,xL.out.trans s2,fun s e1 e2 e3 hr hap=>?_,fun e1 e2=>⟨rh (.slice a n cap) A,by have:=xL.out.size;show _<=A;omega,rfl,?_⟩⟩
    ·have hr':=hr.cE xL.out.toKee
     exact s3 s e1 hr'.ok (s2.toKee.there hr'.th hr'.fr) hr'.n (hr'.bl.cE s2.toKee hr'.fr) (s2.block s.g hr'.bl.lt hr'.fr).2 hap (SM s e1 e2 e3)
    ·have hbA:=fM hq6.own A rfl
     have hsm:=SM (rh (.slice a n cap) A) rfl (by rw [e1];rfl) (by rw [e2];rfl);subst e1 e2;refine s3 (rh (.slice a 0 0) A) rfl (uY _ _ _) (jb _ _ _) (by simp [rh]) ?_ (FC _ xa hA3.2) (fun t _=>jc _ _ _) hsm;rw [ek];exact hbA
theorem Fp (h:U8 w d):mo w 5 d:=by
 obtain ⟨cur,h⟩:=h;exact ⟨cur,_,h⟩
structure Kdl (w:World)(a:Option Addr)(n:Nat)(D:List au)(lo:Nat):Prop where
 len:D.length=2*n
 at':∀ i,i<n->∃ b off k v,a=some ⟨b,off,none⟩/\D[2*i]?=some k/\D[2*i+1]?=some v/\w.cell? ⟨b,off+i*4,none⟩=some k.v/\w.cell? ⟨b,off+i*4+1,none⟩=some v.v
 ok:∀ s∈D,s.Ok 1/\s.fq w/\s.n<=1099511620000/\mo w 5 s.g/\lo<=s.g
 ap:D.Pairwise au.bR
def Hr (K V:Nat->au)(n:Nat):List au:=(List.range (2*n)).map fun q=>if q % 2=0 then K (q / 2) else V (q / 2)
theorem sU (K V:Nat->au)(n:Nat):(Hr K V n).length=2*n:=by simp [Hr]
theorem SK (K V:Nat->au)(h:i<n):(Hr K V n)[2*i]?=some (K i):=by
 unfold Hr;rw [List.getElem?_map,List.getElem?_range (by omega)];simp
theorem SL (K V:Nat->au)(h:i<n):(Hr K V n)[2*i+1]?=some (V i):=by
 unfold Hr;rw [List.getElem?_map,List.getElem?_range (by omega)];have e1:(2*i+1) % 2=1:=by omega
 have e2:(2*i+1) / 2=i:=by omega
 simp [e1,e2]
theorem SN {K V:Nat->au}{s:au}(h:s∈Hr K V n):∃ i,i<n/\(s=K i∨s=V i):=by
 unfold Hr at h;obtain ⟨q,hq,rfl⟩:=List.mem_map.1 h;rw [List.mem_range] at hq;refine ⟨q / 2,by omega,?_⟩
 by_cases e:q % 2=0
 ·simp [e]
 ·simp [e]
theorem KH {K V:Nat->au}(h1:∀ i j,i<j->j<n->(K i).bR (K j))(h2:∀ i j,i<=j->j<n->(K i).bR (V j))(h3:∀ i j,i<j->j<n->(V i).bR (K j))(h4:∀ i j,i<j->j<n->(V i).bR (V j)):(Hr K V n).Pairwise au.bR:=by
 rw [List.pairwise_iff_getElem];intro a b ha hb hab;rw [sU] at ha hb;have ea:(Hr K V n)[a]'(by rw [sU];omega)=if a % 2=0 then K (a / 2) else V (a / 2):=by simp [Hr]
 have eb:(Hr K V n)[b]'(by rw [sU];omega)=if b % 2=0 then K (b / 2) else V (b / 2):=by simp [Hr]
 rw [ea,eb]
 by_cases e1:a % 2=0
 ·by_cases e2:b % 2=0
  ·simp only [e1,e2,if_true];exact h1 _ _ (by omega) (by omega)
  ·simp only [e1,if_true,if_neg e2];exact h2 _ _ (by omega) (by omega)
 ·by_cases e2:b % 2=0
  ·simp only [e2,if_true,if_neg e1];exact h3 _ _ (by omega) (by omega)
  ·simp only [if_neg e1,if_neg e2];exact h4 _ _ (by omega) (by omega)
theorem jz {s t:au}(h:0<s.C->0<t.C->s.g≠t.g):s.bR t:=fun i j hi hj e=>h (by omega) (by omega) (by injection e)
theorem Ht {zs:List Int}{j:Nat}(h:j<zs.length):(zs.map (Value.int .u8))[j]?=some (.int .u8 (zs.getD j 0)):=by
 rw [List.getElem?_map,List.getElem?_eq_getElem h];simp [List.getD,List.getElem?_eq_getElem h]
theorem xM (h:U8 w d)(j:Nat):w.frozen? ⟨d,j,none⟩=false:=by
 obtain ⟨cur,h⟩:=h;exact frozen_of_row w d j _ _ h
theorem mL.kdl {R G lo pos cap:Nat}{L:List It}{kg kn vp vm:Nat->Nat}(h:mL w R G lo pos xs L kg kn vp vm)(ho:w.ownsRow base 63 4 (.slice a n cap) n xs)(hn:L.length=n)(hG:lo<=G):∃ D,Kdl w a n D lo:=by
 classical
 obtain ⟨bf,hbf⟩:∃ bf:Nat->Option Addr,∀ j,j<L.length->xs[j*4]?=some (.slice (some ⟨kg j,0,none⟩) (kn j) (kn j))/\xs[j*4+1]?=some (.slice (bf j) (vm j) (vm j))/\Uy w R G lo 0 pos (kg j) (kn j) (bf j) (vm j) (vp j) (L.getD j aG) :=
  ⟨fun j=>if hj:j<L.length then (h.el j hj).choose else none,fun j hj=>by
   have:=(h.el j hj).choose_spec;simp only [dif_pos hj];exact ⟨this.1,this.2.1,this.2.2.2.2⟩⟩
 refine ⟨Hr (fun j=>⟨.slice (some ⟨kg j,0,none⟩) (kn j) (kn j),kg j,0,kn j,kn j,kn j,kn j⟩) (fun j=>⟨.slice (bf j) (vm j) (vm j),if 0<vm j then G else kg j,if 0<vm j then vp j else 0,vm j,vm j,vm j,vm j⟩) n,sU _ _ _,fun i hi=>?_,fun s hs=>?_,KH (fun i j hij hj=>jz (fun _ _=>?_)) (fun i j hij hj=>jz (fun _ h2=>?_)) (fun i j hij hj=>jz (fun h1 _=>?_)) (fun i j hij hj=>?_)⟩
 ·obtain ⟨b1,b2,_⟩:=hbf i (by omega)
  have hl:=ho.1;have hx:=h.len;obtain ⟨A,c,e,_,_⟩:=cV ho (by omega);simp only [Value.slice.injEq] at e;obtain ⟨rfl,_,_⟩:=e;exact ⟨A,0,_,_,rfl,SK _ _ hi,SL _ _ hi,by rw [Nat.zero_add,ho.cellAt _ (by omega)];exact b1,by rw [Nat.zero_add,ho.cellAt _ (by omega)];exact b2⟩
 ·obtain ⟨i,hi,rfl | rfl⟩:=SN hs
  ·obtain ⟨_,_,b3⟩:=hbf i (by omega)
   have hk:=b3.kc;have hkn:=b3.kn;exact ⟨⟨Nat.le_refl _,by simp,by simp,by simp;omega,by simp;omega,_,rfl,fun _=>rfl⟩,fun j hj=>⟨⟨_,by rw [Nat.zero_add];exact b3.key.cell j (by have:j<kn i:=hj;omega)⟩,xM b3.key.u8 _⟩,by simp;omega,Fp b3.key.u8,b3.kb.2.2⟩
  ·obtain ⟨_,_,b3⟩:=hbf i (by omega)
   have hv:=b3.vc;have hvl:=b3.val.len;refine ⟨⟨Nat.le_refl _,by simp,by simp,by simp;omega,by simp;omega,_,rfl,fun h0=>?_⟩,fun j hj=>?_,by simp;omega,?_,?_⟩
   ·have Ae:0<vm i:=h0
    simp only [if_pos Ae];exact b3.vb Ae
   ·have hj':j<vm i:=hj
    have h0:0<vm i:=by omega
    simp only [if_pos h0];have hb:=b3.vb h0;have hc:=b3.val.cells ⟨G,vp i,none⟩ hb j (.int .u8 ((L.getD i aG).val.getD j 0)) (Ht (by omega));rw [Addr.add_lit] at hc;exact ⟨⟨_,hc⟩,xM b3.gu.1 _⟩
   ·by_cases h0:0<vm i
    ·simp only [if_pos h0];exact Fp b3.gu.1
    ·simp only [if_neg h0];exact Fp b3.key.u8
   ·by_cases h0:0<vm i
    ·simp only [if_pos h0];exact hG
    ·simp only [if_neg h0];exact b3.kb.2.2
 ·have:=h.kd i j hij (by omega)
  simp only;omega
 ·have uA:0<vm j:=h2
  simp only [if_pos uA];obtain ⟨_,_,b3⟩:=hbf i (by omega);exact b3.kb.2.1
 ·have yE:0<vm i:=h1
  simp only [if_pos yE];obtain ⟨_,_,b3⟩:=hbf j (by omega);exact fun e=>b3.kb.2.1 e.symm
 ·intro x y hx hy e
  have hx':x<vm i:=hx;have hy':y<vm j:=hy;simp only [if_pos (show 0<vm i by omega),if_pos (show 0<vm j by omega)] at e;injection e with e1 e2
  have:=h.vd i j hij (by omega);omega
theorem Fq (B:Nat)(ps:Int)(_hp:0<=ps/\ps<=1)(vb CH:Value)(r c base ag:Nat)(L M0:List au)(t:Nat)(Q:Nat->Prop)(HH:Nat)(I:World->Prop)(w:World)(h:Gs gS Q HH I w B ps vb CH r c base ag L M0 (cH t 0))(ht:t<=1000)(hM:if t=0 then M0=[] else M0.length=L.length)(Ah:r≠B)(hid:ag<=1000000)
  (hbd:∀ s∈L,s.n+t+1<=1099511627776)
  (rV:∀ w w' row,I w->w.grownBy w' row->(∀ i,row=some i->Q i)->I w') (pE:∀ w v,I w->I (w.setCell ⟨B,gS.q+2,none⟩ v)) (mV:∀ w s j v,s∈L->j<s.C->I w->I (w.setCell ⟨s.g,s.o+j,none⟩ v)) :
  Calls Tryz.prog 94 #[.pointer (some ⟨B,0,none⟩),.int .i64 ag,.int .i64 t] w fun en w'=>en=.returned (.int .i64 ((ag+L.length:Nat):Int))/\∃ vg M,M.length=L.length/\Gs gS Q HH I w' B ps vb vg r c base ag L M (cH t L.length):=by
 obtain ⟨i0,LA,hz0,hz1,hz2⟩:=info_parts Ff;obtain ⟨i1,jN,Dm,EC,rG⟩:=info_parts Ov;have iA:=h.bc.many;obtain ⟨vo,dZ,dh⟩:=h.bc.row.val;rw [List.length_map] at dZ dh;have jx:=hJ dh;have jP:=hJ rV;have HIS:=hJ mV;have jp:=hJ pE;have pB:=hJ hbd;have H0:=hJ h;have SP:=hJ hM;clear h dh rV pE mV hbd hM;subst dZ;go_enter Tryz.func94,Tryz.ntmps94;go_wp2;go_loopw [1,7] (fun oP si wr=>∃ i:Nat,i<=L.length/\si=.int .i64 i/\oP=.int .i64 ((ag+i:Nat):Int)/\∃ vg M,(if t=0 then M.length=i else M.length=L.length)/\Gs gS Q HH I wr B ps (.slice vo L.length c) vg r c base ag L M (cH t i)) (fun _ si _=>L.length - (intOf si).toNat)
 case atStart =>
  refine ⟨0,Nat.zero_le _,rfl,rfl,CH,M0,?_,H0.out⟩;have:=SP.out
  by_cases e:t=0
  ·rw [if_pos e] at this ⊢;rw [this];rfl
  ·rw [if_neg e] at this ⊢;exact this
 case round =>
  obtain ⟨i,hi,rfl,rfl,vg,M,Hu,hG⟩:=hrel;have HG:=hJ hG;have k2:wr.cell? ⟨B,2,none⟩=some (.slice vo L.length c):=hG.bc.lists;have pC:=hJ Hu;clear hG Hu H0
  by_cases hlt:i<L.length
  ·obtain ⟨s,hs⟩:∃ s,L[i]?=some s:=⟨L[i],List.getElem?_eq_getElem hlt⟩
   have HS:=hJ hs;obtain ⟨ao,eY,hao⟩:=(HG.out.bc.ok s (List.mem_of_getElem? hs)).1.val;obtain rfl:=jx.out (by omega)
   have cr:wr.cell? ⟨r,i,none⟩=some (.slice ao s.n s.c):=by
    rw [<- eY];exact HG.out.bc.row.cells i _ (by rw [List.getElem?_map,hs];rfl)
   have mM:=hJ eY;have p0:(0:Int)<=(i:Int):=by omega
   have p1:(i:Int)<(L.length:Int):=by omega
   clear hs hao eY
   go_upto_if 21 with fail
   go_cut [1,7] from 9 to 64 (fun s1 s7 wx=>s1=.int .i64 ((ag:Int)+(i:Int)+1)/\s7=.int .i64 (i:Int)/\∃ vg M,(if t=0 then M.length=i+1 else M.length=L.length)/\Gs gS Q HH I wx B ps (.slice (some ⟨r,0,none⟩) L.length c) vg r c base ag L M (cH t i))
   case first =>
    by_cases Dq:t=0
    ·subst Dq
     have rY:Hid (M.length=i):=by have:=pC.out;exact hJ (by simpa using this)
     have SQ:M.length<=1000000:=by have:=rY.out;omega
     have k4:wr.cell? ⟨B,4,none⟩=some vg:=HG.out.gl;have f4:wr.frozen? ⟨B,4,none⟩=false:=HG.out.gz
     have SR:∀ o:Obj,(wr.alloc o).cell? ⟨B,4,none⟩=some vg:=fun o=>by
      rw [World.cell?_alloc_lt _ _ _ (World.block_lt_of_cell? _ _ k4)];exact k4
     have SS:∀ o:Obj,(wr.alloc o).cell? ⟨B,2,none⟩=some (.slice (some ⟨r,0,none⟩) L.length c):=fun o=>by
      rw [World.cell?_alloc_lt _ _ _ (World.block_lt_of_cell? _ _ k2)];exact k2
     have SU:∀ o:Obj,(wr.alloc o).cell? ⟨r,i,none⟩=some (.slice ao s.n s.c):=fun o=>by
      rw [World.cell?_alloc_lt _ _ _ (World.block_lt_of_cell? _ _ cr)];exact cr
     have zA:Hid (∀ (w':World) (o:Obj),w'.heap=(wr.alloc o).heap->w'.ownsRow base 25 1 vg M.length (M.map au.v)):=fun w' o e=>by
      have:=HG.out.own.alloc o;unfold World.ownsRow at this ⊢;rw [e];exact this
     have gp:Hid (∀ (w':World) (t:TypeId),w'.heap=(wr.alloc (.cells #[.slice ao s.n s.c] t)).heap->∀ j u,[Value.slice ao s.n s.c][j]?=some u->w'.cell? ((⟨wr.heap.size,0,none⟩:Addr).add j)=some u):=fun w' t e j u hu=>by
      rw [World.cell?_of_block (w:=wr.alloc (.cells #[.slice ao s.n s.c] t)) (by rw [e])];exact cell_one_new wr _ t j u hu
     have wL:=HG.out.rB.2.2.1;have Fs:=hJ HG.out.Cy;have Ck:=hJ HG.out.rB;go_wp2
     go_region_law
      ((refine step_append_lies _ (by rfl) _ _ _ (by rfl) base 25 i0 (.slice none 0 0) 1 24 Tryz.underlying23 LA hz0 hz1 hz2 (by rfl) (by decide) vg M.length (M.map au.v) (by rfl) (by exact zA.out _ _ rfl) ⟨wr.heap.size,0,none⟩ 1 1 [.slice ao s.n s.c] (by rfl) (by rfl) (by exact gp.out _ _ rfl) (by intro u hu;simp at hu;subst hu;rfl) (by omega) (by unfold maxLen;omega) (by omega) (by simp;omega) (wr.heap.size+1) (by simp) ?_;intro g1 c1 w1 hown1 hg1 dI iZ;have nB:some B≠vg.ownBlock:=(fun e=>by have:=Fs.out B e.symm;have:=Ck.out;omega);have nr:some r≠vg.ownBlock:=(fun e=>by have:=Fs.out r e.symm;have:=Ck.out;omega);have SV:w1.cell? ⟨B,4,none⟩=some vg:=hg1.cell (SR _) nB;have Hv:w1.cell? ⟨B,2,none⟩=some (.slice (some ⟨r,0,none⟩) L.length c):=hg1.cell (SS _) nB;have Hw:w1.cell? ⟨r,i,none⟩=some (.slice ao s.n s.c):=hg1.cell (SU _) nr;have SX:∀ v,(w1.setCell ⟨B,4,none⟩ v).cell? ⟨B,2,none⟩=some (.slice (some ⟨r,0,none⟩) L.length c):=(fun v=>by rw [World.cell?_setCell_other _ _ _ _ (eG (by omega))];exact Hv);have SY:∀ v,(w1.setCell ⟨B,4,none⟩ v).cell? ⟨r,i,none⟩=some (.slice ao s.n s.c):=(fun v=>by rw [World.cell?_setCell_other _ _ _ _ (fun e=>Ah (by injection e with e1;exact e1.symm))];exact Hw);have je:=gQ ((((Qt.refl (wr.alloc (.cells #[.slice ao s.n s.c] 25))).drew)).grown _) hg1;have SZ:w1.frozen? ⟨B,4,none⟩=false:=((je.frozen_far ⟨B,4,none⟩ (by simpa using Nat.lt_succ_of_lt (World.block_lt_of_cell? _ _ k4)) nB).trans (((World.grownBy_alloc wr (.cells #[.slice ao s.n s.c] 25) none).frozen_far ⟨B,4,none⟩ (World.block_lt_of_cell? _ _ k4) (by simp)).trans f4))))
     all_goals
      have HE:Hid (Gs gS Q HH I (w1.setCell ⟨B,4,none⟩ (.slice (some ⟨g1,0,none⟩) (M.length+1) c1)) B ps (.slice (some ⟨r,0,none⟩) L.length c) (.slice (some ⟨g1,0,none⟩) (M.length+1) c1) r c base ag L (M++[s]) (cH 0 i)) :=
       HG.out.enter (.cells #[.slice ao s.n s.c] 25) (by rw [rY.out];exact HS.out) (by rw [rY.out];simp [cH]) jP.out jp.out (by decide) je (by rw [mM.out];exact hown1) (by
        rcases dI with h | h
        ·exact Or.inl h.symm
        ·exact Or.inr ⟨g1,rfl,by omega⟩) Ah
      clear SV Hv Hw SX SY SZ hg1 je hown1 dI iZ
      go_wp2_with fail
      go_meet
      case rel =>
       exact ⟨rfl,rfl,_,M++[s],by simp [rY.out],HE.out⟩
    ·have htb:((t:Int)==0)=false:=by simp;omega
     go_wp2_with fail
     go_meet
     case rel =>
      refine ⟨rfl,rfl,vg,M,?_,HG.out⟩;have:=pC.out;rw [if_neg Dq] at this ⊢;exact this
   case rest =>
    obtain ⟨rfl,rfl,uT,MM,gq,mR⟩:=hcut;have dP:=hJ mR;have Hy:=hJ gq
    have Hz:i<MM.length:=by
     by_cases e:t=0
     ·rw [if_pos e] at gq;omega
     ·rw [if_neg e] at gq;omega
    obtain ⟨rg,cg,mj,_,_⟩:=mR.own.form (by omega);subst mj;clear mR gq HG pC k2 cr;obtain ⟨m,hm⟩:∃ m,MM[i]?=some m:=⟨MM[i]'(by omega),List.getElem?_eq_getElem (by omega)⟩;have fD:=hJ hm;clear hm;have k4:wc.cell? ⟨B,4,none⟩=some (.slice (some ⟨rg,0,none⟩) MM.length cg):=dP.out.gl;have hmk:=dP.out.each i m fD.out;obtain ⟨am,zB,zX⟩:=hmk.1.val
    have cm:wc.cell? ⟨rg,i,none⟩=some (.slice am m.n m.c):=by
     rw [<- zB];have CA:=(List.getElem?_eq_some_iff.1 fD.out).1;exact (dP.out.own.cellAt i (by omega)).trans (by rw [List.getElem?_map,fD.out];rfl)
    have Ta:(i:Int)<(MM.length:Int):=by omega
    have fm:wc.frozen? ⟨rg,i,none⟩=false:=dP.out.own.frozenAt i
    have oU:m.n+1<=1099511627776:=by
     obtain ⟨s',hs',hn',_⟩:=hmk.2.2.2;have:=pB.out s' (List.mem_of_getElem? hs');rw [hn'];unfold cH;simp;omega
    have Tc:=hmk.1.le;have oV:Hid (m.N=m.n*1):=hmk.1.hN;have zC:=hJ zX;have Ia:=hJ zB;have qu:=hJ Hz;have Td:rg≠B:=by have:=dP.out.Cy rg rfl;have:=dP.out.rB;omega
    clear hmk zX zB Hz
    go_wp2_with fail
    obtain ⟨mk,Fu⟩:∃ mk:Int,mk=oJ ps (ag+i+1) m.n:=⟨_,rfl⟩;refine (mW B ps (ag+i+1) m.n _ _ _ dP.out.bc.pass (by omega) (by omega) (by omega) rfl).mono ?_;rintro en w5 ⟨rfl,Bd⟩;subst Bd;rw [<- Fu]
    have Ie:Hid (∀ (x:Nat) (v:Value),[Value.int .u8 mk][x]?=some v->v=gS.f ps (ag+i+1) (m.N+x)):=fun x v hx=>by
     match x with
     | 0 =>
      have hN:=oV.out;rw [Nat.mul_one] at hN;simp only [List.getElem?_cons_zero,Option.some.injEq] at hx;rw [<- hx,Fu,hN]
      rfl
     | x+1=>simp at hx
    clear Fu;go_wp2
    have sW:Hid (Gs gS Q HH I (w5.alloc (.cells #[.int .u8 mk] 5)).drew B ps (.slice (some ⟨r,0,none⟩) L.length c) (.slice (some ⟨rg,0,none⟩) MM.length cg) r c base ag L MM (cH t i)) :=
     dP.out.more jP.out (gQ (World.grownBy_alloc _ _ none) ((Qt.refl _).drew.grown none))
    have Py:∀ o:Obj,(w5.alloc o).cell? ⟨B,4,none⟩=some (.slice (some ⟨rg,0,none⟩) MM.length cg):=fun o=>by
     rw [World.cell?_alloc_lt _ _ _ (World.block_lt_of_cell? _ _ k4)];exact k4
    have kbm:∀ o:Obj,(w5.alloc o).cell? ⟨rg,i,none⟩=some (.slice am m.n m.c):=fun o=>by
     rw [World.cell?_alloc_lt _ _ _ (World.block_lt_of_cell? _ _ cm)];exact cm
    have gp:Hid (∀ (w':World) (ty:TypeId),w'.heap=(w5.alloc (.cells #[.int .u8 mk] ty)).heap->∀ j u,[Value.int .u8 mk][j]?=some u->w'.cell? ((⟨w5.heap.size,0,none⟩:Addr).add j)=some u):=fun w' ty e j u hu=>by
     rw [World.cell?_of_block (w:=w5.alloc (.cells #[.int .u8 mk] ty)) (by rw [e])];exact cell_one_new w5 _ ty j u hu
    rcases Nat.lt_or_ge m.n m.c with hroom | hfull
    ·obtain rfl:=zC.out (by omega)
     have Jd:Hid (∀ (w':World),w'.heap=(w5.alloc (.cells #[.int .u8 mk] 5)).heap->∀ j,j<[Value.int .u8 mk].length->(w'.cell? ⟨m.g,m.o+m.n*1+j,none⟩).isSome=true/\w'.frozen? ⟨m.g,m.o+m.n*1+j,none⟩=false):=fun w' e j hj=>by
      have Dm:j<1:=by simpa using hj
      have hok:=(sW.out.each i m fD.out);have hr:=hok.1.room hroom;have hN:=oV.out;obtain ⟨⟨u,hu⟩,hf⟩:=hok.2.1 (m.N+j) (by unfold gS at hr;simp only at hr;omega);rw [show m.o+m.n*1+j=m.o+(m.N+j) by omega,World.cell?_of_block (w:=(w5.alloc (.cells #[.int .u8 mk] 5)).drew) (by rw [e];rfl),World.frozen?_of_block (w:=(w5.alloc (.cells #[.int .u8 mk] 5)).drew) (by rw [e];rfl)];rw [hu];exact ⟨rfl,hf⟩
     have PG:Hid (∀ X,X=(w5.alloc (.cells #[.int .u8 mk] 5)).drew.setCells m.g (m.o+m.n*1) [.int .u8 mk]->Gs gS Q HH I X B ps (.slice (some ⟨r,0,none⟩) L.length c) (.slice (some ⟨rg,0,none⟩) MM.length cg) r c base ag L MM (cH t i)/\Kf gS Q X (.slice (some ⟨rg,0,none⟩) MM.length cg) base ag L MM (cH t i) ps i ⟨.slice (some ⟨m.g,m.o,none⟩) (m.n+1) m.c,m.g,m.o,m.n+1,m.c,m.N+gS.W,m.C⟩):=fun X hX=>by
      rw [hX];exact sW.out.room fD.out hroom oU [Value.int .u8 mk] rfl Ie.out _ (by rw [oV.out]) jP.out HIS.out
     have zD:Hid (∀ X,Gs gS Q HH I X B ps (.slice (some ⟨r,0,none⟩) L.length c) (.slice (some ⟨rg,0,none⟩) MM.length cg) r c base ag L MM (cH t i)->X.cell? ⟨rg,i,none⟩=some (.slice (some ⟨m.g,m.o,none⟩) m.n m.c)):=fun X hX=>by
      rw [<- Ia.out];exact (hX.own.cellAt i (by have:=qu.out;omega)).trans (by rw [List.getElem?_map,fD.out];rfl)
     go_region_law
      ((refine bS (by rfl) _ _ _ (by rfl) 5 i1 1 Tryz.underlying25 jN EC m.g m.o m.n m.c (by rfl) ⟨w5.heap.size,0,none⟩ 1 1 [.int .u8 mk] (by rfl) (by rfl) (by exact gp.out _ _ rfl) (by intro u hu;simp at hu;subst hu;rfl) (by omega) (by exact Jd.out _ rfl) ?_;intro X hX;have fy:=PG.out X hX;have Te:X.cell? ⟨B,4,none⟩=some (.slice (some ⟨rg,0,none⟩) MM.length cg):=fy.1.gl;have Tf:=zD.out X fy.1;have Tg:X.frozen? ⟨rg,i,none⟩=false:=fy.1.own.frozenAt i;have oW:=hJ fy;clear fy hX))
     all_goals
      have HP:=hJ (oW.out.1.put oW.out.2 qu.out jP.out);rw [dY] at HP;go_wp2;go_roundw
      case rel =>
       refine ⟨i+1,by omega,by go_num,by go_num,_,_,?_,HP.out⟩;have h3:=Hy.out;rw [List.length_set];exact h3
      case measure=>simp [intOf];omega
    ·have HOLD:Hid (∀ (w':World),w'.heap=(w5.alloc (.cells #[.int .u8 mk] 5)).heap->∀ b,am=some b->∀ j u,((List.range m.N).map fun j=>gS.f ps (ag+i+1) j)[j]?=some u->w'.cell? (b.add j)=some u):=fun w' e b hb j u hu=>by
      have hj:j<m.N:=by have:=(List.getElem?_eq_some_iff.1 hu).1;simpa using this
      have hN:=oV.out;have hb':=zC.out (by omega);rw [hb] at hb';have hb2:=Option.some.inj hb';subst hb2;rw [List.getElem?_map,List.getElem?_range hj] at hu;have Th:=Option.some.inj hu;rw [Addr.add_lit,World.cell?_of_block (w:=(w5.alloc (.cells #[.int .u8 mk] 5)).drew) (by rw [e];rfl),<- Th];exact sW.out.mm i m fD.out j hj
     have vK:Hid (am=none->m.n=0/\m.c=0):=fun e=>by
      rcases Nat.eq_zero_or_pos m.c with h0 | h0
      ·omega
      ·have:=zC.out h0;rw [e] at this;cases this
     obtain ⟨OL,sX⟩:∃ OL,OL=(List.range m.N).map fun j=>gS.f ps (ag+i+1) j:=⟨_,rfl⟩
     have zE:OL.length=m.n*1:=by rw [sX];simpa using oV.out
     have oX:Hid (∀ gX cX X H,(w5.alloc (.cells #[.int .u8 mk] 5)).drew.grownBy X none->(w5.alloc (.cells #[.int .u8 mk] 5)).drew.heap.size<=H->X.ownsRow H 5 1 (.slice (some ⟨gX,0,none⟩) (m.n+1) cX) (m.n+1) (OL++[.int .u8 mk])->Gs gS Q HH I X B ps (.slice (some ⟨r,0,none⟩) L.length c) (.slice (some ⟨rg,0,none⟩) MM.length cg) r c base ag L MM (cH t i)/\Kf gS Q X (.slice (some ⟨rg,0,none⟩) MM.length cg) base ag L MM (cH t i) ps i ⟨.slice (some ⟨gX,0,none⟩) (m.n+1) cX,gX,0,m.n+1,cX,m.N+gS.W,cX*gS.W⟩):=fun gX cX X H h1 h2 h3=>by
      rw [sX] at h3;exact sW.out.full fD.out [Value.int .u8 mk] rfl Ie.out jP.out h1 h2 oU h3
     rw [<- sX] at HOLD;clear sX
     have zD:Hid (∀ X,Gs gS Q HH I X B ps (.slice (some ⟨r,0,none⟩) L.length c) (.slice (some ⟨rg,0,none⟩) MM.length cg) r c base ag L MM (cH t i)->X.cell? ⟨rg,i,none⟩=some (.slice am m.n m.c)):=fun X hX=>by
      rw [<- Ia.out];exact (hX.own.cellAt i (by have:=qu.out;omega)).trans (by rw [List.getElem?_map,fD.out];rfl)
     go_region_law
      ((refine step_append_grows (by rfl) _ _ _ (by rfl) 5 i1 (.int .u8 0) 1 1 Tryz.underlying25 jN Dm EC rG (by rfl) (by decide) am m.n m.c OL (by rfl) vK.out zE (by exact HOLD.out _ rfl) ⟨w5.heap.size,0,none⟩ 1 1 [.int .u8 mk] (by rfl) (by rfl) (by exact gp.out _ _ rfl) (by intro u hu;simp at hu;subst hu;rfl) (by omega) (by unfold maxLen;omega) (by omega) ?_;intro v' X eR Fv;obtain ⟨gX,cX,Tj,_,_⟩:=eR.form (by omega);subst Tj;have fy:=oX.out gX cX X _ Fv (by exact Nat.le_refl _) eR;have Te:X.cell? ⟨B,4,none⟩=some (.slice (some ⟨rg,0,none⟩) MM.length cg):=fy.1.gl;have Tf:=zD.out X fy.1;have Tg:X.frozen? ⟨rg,i,none⟩=false:=fy.1.own.frozenAt i;have oW:=hJ fy;clear fy eR Fv))
     all_goals
      have HP:=hJ (oW.out.1.put oW.out.2 qu.out jP.out);rw [dY] at HP;go_wp2;go_roundw
      case rel =>
       refine ⟨i+1,by omega,by go_num,by go_num,_,_,?_,HP.out⟩;have h3:=Hy.out;rw [List.length_set];exact h3
      case measure=>simp [intOf];omega
  ·have hin:i=L.length:=by omega
   subst hin;go_wp2;go_ret;refine ⟨rfl,vg,M,?_,HG.out⟩;have:=pC.out
   by_cases e:t=0
   ·rwa [if_pos e] at this
   ·rwa [if_neg e] at this
theorem Fw:(Tryz.prog.info? 26).map (fun i=>(i.zero,i.size,i.bytes))=some (some (.slice none 0 0),1,24):=by kernel_rfl
theorem KI:(Tryz.prog.info? 3).map (fun i=>(i.zero,i.size,i.bytes))=some (some (.int .i64 0),1,8):=by kernel_rfl
theorem KJ (B:Nat)(ps:Int)(hp:0<=ps/\ps<=1)(vb CH:Value)(r c base ag:Nat)(L M0:List au)(t:Nat)(Q:Nat->Prop)(HH:Nat)(I:World->Prop)(w:World)(h:Gs gZ Q HH I w B ps vb CH r c base ag L M0 (cH t 0))(ht:t<=1000)(hM:if t=0 then M0=[] else M0.length=L.length)(Ah:r≠B)(hid:ag<=1000000)
  (hbd:∀ s∈L,s.n+t+1<=1099511627776)
  (rV:∀ w w' row,I w->w.grownBy w' row->(∀ i,row=some i->Q i)->I w') (pE:∀ w v,I w->I (w.setCell ⟨B,gZ.q+2,none⟩ v)) (mV:∀ w s j v,s∈L->j<s.C->I w->I (w.setCell ⟨s.g,s.o+j,none⟩ v)) :
  Calls Tryz.prog 95 #[.pointer (some ⟨B,0,none⟩),.int .i64 ag,.int .i64 t] w fun en w'=>en=.returned (.int .i64 ((ag+L.length:Nat):Int))/\∃ vg M,M.length=L.length/\Gs gZ Q HH I w' B ps vb vg r c base ag L M (cH t L.length):=by
 obtain ⟨i0,LA,hz0,hz1,hz2⟩:=info_parts Fw;obtain ⟨i1,jN,Dm,EC,rG⟩:=info_parts KI;have iA:=h.bc.many;obtain ⟨vo,dZ,dh⟩:=h.bc.row.val;rw [List.length_map] at dZ dh;have jx:=hJ dh;have jP:=hJ rV;have HIS:=hJ mV;have jp:=hJ pE;have pB:=hJ hbd;have H0:=hJ h;have SP:=hJ hM;clear h dh rV pE mV hbd hM;subst dZ;go_enter Tryz.func95,Tryz.ntmps95;go_wp2;go_loopw [1,7] (fun oP si wr=>∃ i:Nat,i<=L.length/\si=.int .i64 i/\oP=.int .i64 ((ag+i:Nat):Int)/\∃ vg M,(if t=0 then M.length=i else M.length=L.length)/\Gs gZ Q HH I wr B ps (.slice vo L.length c) vg r c base ag L M (cH t i)) (fun _ si _=>L.length - (intOf si).toNat)
 case atStart =>
  refine ⟨0,Nat.zero_le _,rfl,rfl,CH,M0,?_,H0.out⟩;have:=SP.out
  by_cases e:t=0
  ·rw [if_pos e] at this ⊢;rw [this];rfl
  ·rw [if_neg e] at this ⊢;exact this
 case round =>
  obtain ⟨i,hi,rfl,rfl,vg,M,Hu,hG⟩:=hrel;have HG:=hJ hG;have k2:wr.cell? ⟨B,5,none⟩=some (.slice vo L.length c):=hG.bc.lists;have pC:=hJ Hu;clear hG Hu H0
  by_cases hlt:i<L.length
  ·obtain ⟨s,hs⟩:∃ s,L[i]?=some s:=⟨L[i],List.getElem?_eq_getElem hlt⟩
   have HS:=hJ hs;obtain ⟨ao,eY,hao⟩:=(HG.out.bc.ok s (List.mem_of_getElem? hs)).1.val;obtain rfl:=jx.out (by omega)
   have cr:wr.cell? ⟨r,i,none⟩=some (.slice ao s.n s.c):=by
    rw [<- eY];exact HG.out.bc.row.cells i _ (by rw [List.getElem?_map,hs];rfl)
   have mM:=hJ eY;have p0:(0:Int)<=(i:Int):=by omega
   have p1:(i:Int)<(L.length:Int):=by omega
   clear hs hao eY
   go_upto_if 21 with fail
   go_cut [1,7] from 9 to 64 (fun s1 s7 wx=>s1=.int .i64 ((ag:Int)+(i:Int)+1)/\s7=.int .i64 (i:Int)/\∃ vg M,(if t=0 then M.length=i+1 else M.length=L.length)/\Gs gZ Q HH I wx B ps (.slice (some ⟨r,0,none⟩) L.length c) vg r c base ag L M (cH t i))
   case first =>
    by_cases Dq:t=0
    ·subst Dq
     have rY:Hid (M.length=i):=by have:=pC.out;exact hJ (by simpa using this)
     have SQ:M.length<=1000000:=by have:=rY.out;omega
     have k4:wr.cell? ⟨B,7,none⟩=some vg:=HG.out.gl;have f4:wr.frozen? ⟨B,7,none⟩=false:=HG.out.gz
     have SR:∀ o:Obj,(wr.alloc o).cell? ⟨B,7,none⟩=some vg:=fun o=>by
      rw [World.cell?_alloc_lt _ _ _ (World.block_lt_of_cell? _ _ k4)];exact k4
     have SS:∀ o:Obj,(wr.alloc o).cell? ⟨B,5,none⟩=some (.slice (some ⟨r,0,none⟩) L.length c):=fun o=>by
      rw [World.cell?_alloc_lt _ _ _ (World.block_lt_of_cell? _ _ k2)];exact k2
     have SU:∀ o:Obj,(wr.alloc o).cell? ⟨r,i,none⟩=some (.slice ao s.n s.c):=fun o=>by
      rw [World.cell?_alloc_lt _ _ _ (World.block_lt_of_cell? _ _ cr)];exact cr
     have zA:Hid (∀ (w':World) (o:Obj),w'.heap=(wr.alloc o).heap->w'.ownsRow base 26 1 vg M.length (M.map au.v)):=fun w' o e=>by
      have:=HG.out.own.alloc o;unfold World.ownsRow at this ⊢;rw [e];exact this
     have gp:Hid (∀ (w':World) (t:TypeId),w'.heap=(wr.alloc (.cells #[.slice ao s.n s.c] t)).heap->∀ j u,[Value.slice ao s.n s.c][j]?=some u->w'.cell? ((⟨wr.heap.size,0,none⟩:Addr).add j)=some u):=fun w' t e j u hu=>by
      rw [World.cell?_of_block (w:=wr.alloc (.cells #[.slice ao s.n s.c] t)) (by rw [e])];exact cell_one_new wr _ t j u hu
     have wL:=HG.out.rB.2.2.1;have Fs:=hJ HG.out.Cy;have Ck:=hJ HG.out.rB;go_wp2
     go_region_law
      ((refine step_append_lies _ (by rfl) _ _ _ (by rfl) base 26 i0 (.slice none 0 0) 1 24 Tryz.underlying36 LA hz0 hz1 hz2 (by rfl) (by decide) vg M.length (M.map au.v) (by rfl) (by exact zA.out _ _ rfl) ⟨wr.heap.size,0,none⟩ 1 1 [.slice ao s.n s.c] (by rfl) (by rfl) (by exact gp.out _ _ rfl) (by intro u hu;simp at hu;subst hu;rfl) (by omega) (by unfold maxLen;omega) (by omega) (by simp;omega) (wr.heap.size+1) (by simp) ?_;intro g1 c1 w1 hown1 hg1 dI iZ;have nB:some B≠vg.ownBlock:=(fun e=>by have:=Fs.out B e.symm;have:=Ck.out;omega);have nr:some r≠vg.ownBlock:=(fun e=>by have:=Fs.out r e.symm;have:=Ck.out;omega);have SV:w1.cell? ⟨B,7,none⟩=some vg:=hg1.cell (SR _) nB;have Hv:w1.cell? ⟨B,5,none⟩=some (.slice (some ⟨r,0,none⟩) L.length c):=hg1.cell (SS _) nB;have Hw:w1.cell? ⟨r,i,none⟩=some (.slice ao s.n s.c):=hg1.cell (SU _) nr;have SX:∀ v,(w1.setCell ⟨B,7,none⟩ v).cell? ⟨B,5,none⟩=some (.slice (some ⟨r,0,none⟩) L.length c):=(fun v=>by rw [World.cell?_setCell_other _ _ _ _ (eG (by omega))];exact Hv);have SY:∀ v,(w1.setCell ⟨B,7,none⟩ v).cell? ⟨r,i,none⟩=some (.slice ao s.n s.c):=(fun v=>by rw [World.cell?_setCell_other _ _ _ _ (fun e=>Ah (by injection e with e1;exact e1.symm))];exact Hw);have je:=gQ ((((Qt.refl (wr.alloc (.cells #[.slice ao s.n s.c] 26))).drew)).grown _) hg1;have SZ:w1.frozen? ⟨B,7,none⟩=false:=((je.frozen_far ⟨B,7,none⟩ (by simpa using Nat.lt_succ_of_lt (World.block_lt_of_cell? _ _ k4)) nB).trans (((World.grownBy_alloc wr (.cells #[.slice ao s.n s.c] 26) none).frozen_far ⟨B,7,none⟩ (World.block_lt_of_cell? _ _ k4) (by simp)).trans f4))))
     all_goals
      have HE:Hid (Gs gZ Q HH I (w1.setCell ⟨B,7,none⟩ (.slice (some ⟨g1,0,none⟩) (M.length+1) c1)) B ps (.slice (some ⟨r,0,none⟩) L.length c) (.slice (some ⟨g1,0,none⟩) (M.length+1) c1) r c base ag L (M++[s]) (cH 0 i)) :=
       HG.out.enter (.cells #[.slice ao s.n s.c] 26) (by rw [rY.out];exact HS.out) (by rw [rY.out];simp [cH]) jP.out jp.out (by decide) je (by rw [mM.out];exact hown1) (by
        rcases dI with h | h
        ·exact Or.inl h.symm
        ·exact Or.inr ⟨g1,rfl,by omega⟩) Ah
      clear SV Hv Hw SX SY SZ hg1 je hown1 dI iZ
      go_wp2_with fail
      go_meet
      case rel =>
       exact ⟨rfl,rfl,_,M++[s],by simp [rY.out],HE.out⟩
    ·have htb:((t:Int)==0)=false:=by simp;omega
     go_wp2_with fail
     go_meet
     case rel =>
      refine ⟨rfl,rfl,vg,M,?_,HG.out⟩;have:=pC.out;rw [if_neg Dq] at this ⊢;exact this
   case rest =>
    obtain ⟨rfl,rfl,uT,MM,gq,mR⟩:=hcut;have dP:=hJ mR;have Hy:=hJ gq
    have Hz:i<MM.length:=by
     by_cases e:t=0
     ·rw [if_pos e] at gq;omega
     ·rw [if_neg e] at gq;omega
    obtain ⟨rg,cg,mj,_,_⟩:=mR.own.form (by omega);subst mj;clear mR gq HG pC k2 cr;obtain ⟨m,hm⟩:∃ m,MM[i]?=some m:=⟨MM[i]'(by omega),List.getElem?_eq_getElem (by omega)⟩;have fD:=hJ hm;clear hm;have k4:wc.cell? ⟨B,7,none⟩=some (.slice (some ⟨rg,0,none⟩) MM.length cg):=dP.out.gl;have hmk:=dP.out.each i m fD.out;obtain ⟨am,zB,zX⟩:=hmk.1.val
    have cm:wc.cell? ⟨rg,i,none⟩=some (.slice am m.n m.c):=by
     rw [<- zB];have CA:=(List.getElem?_eq_some_iff.1 fD.out).1;exact (dP.out.own.cellAt i (by omega)).trans (by rw [List.getElem?_map,fD.out];rfl)
    have Ta:(i:Int)<(MM.length:Int):=by omega
    have fm:wc.frozen? ⟨rg,i,none⟩=false:=dP.out.own.frozenAt i
    have oU:m.n+1<=1099511627776:=by
     obtain ⟨s',hs',hn',_⟩:=hmk.2.2.2;have:=pB.out s' (List.mem_of_getElem? hs');rw [hn'];unfold cH;simp;omega
    have Tc:=hmk.1.le;have oV:Hid (m.N=m.n*1):=hmk.1.hN;have zC:=hJ zX;have Ia:=hJ zB;have qu:=hJ Hz;have Td:rg≠B:=by have:=dP.out.Cy rg rfl;have:=dP.out.rB;omega
    clear hmk zX zB Hz
    go_wp2_with fail
    obtain ⟨mk,Fu⟩:∃ mk:Int,mk=uZ ps (ag+i+1) m.n:=⟨_,rfl⟩;refine (qp B ps (ag+i+1) m.n _ _ _ dP.out.bc.pass hp (by omega) (by omega) (by omega) rfl).mono ?_;rintro en w5 ⟨rfl,Bd⟩;subst Bd;rw [<- Fu]
    have Ie:Hid (∀ (x:Nat) (v:Value),[Value.int .i64 mk][x]?=some v->v=gZ.f ps (ag+i+1) (m.N+x)):=fun x v hx=>by
     match x with
     | 0 =>
      have hN:=oV.out;rw [Nat.mul_one] at hN;simp only [List.getElem?_cons_zero,Option.some.injEq] at hx;rw [<- hx,Fu,hN]
      rfl
     | x+1=>simp at hx
    clear Fu;go_wp2
    have sW:Hid (Gs gZ Q HH I (w5.alloc (.cells #[.int .i64 mk] 3)).drew B ps (.slice (some ⟨r,0,none⟩) L.length c) (.slice (some ⟨rg,0,none⟩) MM.length cg) r c base ag L MM (cH t i)) :=
     dP.out.more jP.out (gQ (World.grownBy_alloc _ _ none) ((Qt.refl _).drew.grown none))
    have Py:∀ o:Obj,(w5.alloc o).cell? ⟨B,7,none⟩=some (.slice (some ⟨rg,0,none⟩) MM.length cg):=fun o=>by
     rw [World.cell?_alloc_lt _ _ _ (World.block_lt_of_cell? _ _ k4)];exact k4
    have kbm:∀ o:Obj,(w5.alloc o).cell? ⟨rg,i,none⟩=some (.slice am m.n m.c):=fun o=>by
     rw [World.cell?_alloc_lt _ _ _ (World.block_lt_of_cell? _ _ cm)];exact cm
    have gp:Hid (∀ (w':World) (ty:TypeId),w'.heap=(w5.alloc (.cells #[.int .i64 mk] ty)).heap->∀ j u,[Value.int .i64 mk][j]?=some u->w'.cell? ((⟨w5.heap.size,0,none⟩:Addr).add j)=some u):=fun w' ty e j u hu=>by
     rw [World.cell?_of_block (w:=w5.alloc (.cells #[.int .i64 mk] ty)) (by rw [e])];exact cell_one_new w5 _ ty j u hu
    rcases Nat.lt_or_ge m.n m.c with hroom | hfull
    ·obtain rfl:=zC.out (by omega)
     have Jd:Hid (∀ (w':World),w'.heap=(w5.alloc (.cells #[.int .i64 mk] 3)).heap->∀ j,j<[Value.int .i64 mk].length->(w'.cell? ⟨m.g,m.o+m.n*1+j,none⟩).isSome=true/\w'.frozen? ⟨m.g,m.o+m.n*1+j,none⟩=false):=fun w' e j hj=>by
      have Dm:j<1:=by simpa using hj
      have hok:=(sW.out.each i m fD.out);have hr:=hok.1.room hroom;have hN:=oV.out;obtain ⟨⟨u,hu⟩,hf⟩:=hok.2.1 (m.N+j) (by unfold gZ at hr;simp only at hr;omega);rw [show m.o+m.n*1+j=m.o+(m.N+j) by omega,World.cell?_of_block (w:=(w5.alloc (.cells #[.int .i64 mk] 3)).drew) (by rw [e];rfl),World.frozen?_of_block (w:=(w5.alloc (.cells #[.int .i64 mk] 3)).drew) (by rw [e];rfl)];rw [hu];exact ⟨rfl,hf⟩
     have PG:Hid (∀ X,X=(w5.alloc (.cells #[.int .i64 mk] 3)).drew.setCells m.g (m.o+m.n*1) [.int .i64 mk]->Gs gZ Q HH I X B ps (.slice (some ⟨r,0,none⟩) L.length c) (.slice (some ⟨rg,0,none⟩) MM.length cg) r c base ag L MM (cH t i)/\Kf gZ Q X (.slice (some ⟨rg,0,none⟩) MM.length cg) base ag L MM (cH t i) ps i ⟨.slice (some ⟨m.g,m.o,none⟩) (m.n+1) m.c,m.g,m.o,m.n+1,m.c,m.N+gZ.W,m.C⟩):=fun X hX=>by
      rw [hX];exact sW.out.room fD.out hroom oU [Value.int .i64 mk] rfl Ie.out _ (by rw [oV.out]) jP.out HIS.out
     have zD:Hid (∀ X,Gs gZ Q HH I X B ps (.slice (some ⟨r,0,none⟩) L.length c) (.slice (some ⟨rg,0,none⟩) MM.length cg) r c base ag L MM (cH t i)->X.cell? ⟨rg,i,none⟩=some (.slice (some ⟨m.g,m.o,none⟩) m.n m.c)):=fun X hX=>by
      rw [<- Ia.out];exact (hX.own.cellAt i (by have:=qu.out;omega)).trans (by rw [List.getElem?_map,fD.out];rfl)
     go_region_law
      ((refine bS (by rfl) _ _ _ (by rfl) 3 i1 1 Tryz.underlying26 jN EC m.g m.o m.n m.c (by rfl) ⟨w5.heap.size,0,none⟩ 1 1 [.int .i64 mk] (by rfl) (by rfl) (by exact gp.out _ _ rfl) (by intro u hu;simp at hu;subst hu;rfl) (by omega) (by exact Jd.out _ rfl) ?_;intro X hX;have fy:=PG.out X hX;have Te:X.cell? ⟨B,7,none⟩=some (.slice (some ⟨rg,0,none⟩) MM.length cg):=fy.1.gl;have Tf:=zD.out X fy.1;have Tg:X.frozen? ⟨rg,i,none⟩=false:=fy.1.own.frozenAt i;have oW:=hJ fy;clear fy hX))
     all_goals
      have HP:=hJ (oW.out.1.put oW.out.2 qu.out jP.out);rw [dY] at HP;go_wp2;go_roundw
      case rel =>
       refine ⟨i+1,by omega,by go_num,by go_num,_,_,?_,HP.out⟩;have h3:=Hy.out;rw [List.length_set];exact h3
      case measure=>simp [intOf];omega
    ·have HOLD:Hid (∀ (w':World),w'.heap=(w5.alloc (.cells #[.int .i64 mk] 3)).heap->∀ b,am=some b->∀ j u,((List.range m.N).map fun j=>gZ.f ps (ag+i+1) j)[j]?=some u->w'.cell? (b.add j)=some u):=fun w' e b hb j u hu=>by
      have hj:j<m.N:=by have:=(List.getElem?_eq_some_iff.1 hu).1;simpa using this
      have hN:=oV.out;have hb':=zC.out (by omega);rw [hb] at hb';have hb2:=Option.some.inj hb';subst hb2;rw [List.getElem?_map,List.getElem?_range hj] at hu;have Th:=Option.some.inj hu;rw [Addr.add_lit,World.cell?_of_block (w:=(w5.alloc (.cells #[.int .i64 mk] 3)).drew) (by rw [e];rfl),<- Th];exact sW.out.mm i m fD.out j hj
     have vK:Hid (am=none->m.n=0/\m.c=0):=fun e=>by
      rcases Nat.eq_zero_or_pos m.c with h0 | h0
      ·omega
      ·have:=zC.out h0;rw [e] at this;cases this
     obtain ⟨OL,sX⟩:∃ OL,OL=(List.range m.N).map fun j=>gZ.f ps (ag+i+1) j:=⟨_,rfl⟩
     have zE:OL.length=m.n*1:=by rw [sX];simpa using oV.out
     have oX:Hid (∀ gX cX X H,(w5.alloc (.cells #[.int .i64 mk] 3)).drew.grownBy X none->(w5.alloc (.cells #[.int .i64 mk] 3)).drew.heap.size<=H->X.ownsRow H 3 1 (.slice (some ⟨gX,0,none⟩) (m.n+1) cX) (m.n+1) (OL++[.int .i64 mk])->Gs gZ Q HH I X B ps (.slice (some ⟨r,0,none⟩) L.length c) (.slice (some ⟨rg,0,none⟩) MM.length cg) r c base ag L MM (cH t i)/\Kf gZ Q X (.slice (some ⟨rg,0,none⟩) MM.length cg) base ag L MM (cH t i) ps i ⟨.slice (some ⟨gX,0,none⟩) (m.n+1) cX,gX,0,m.n+1,cX,m.N+gZ.W,cX*gZ.W⟩):=fun gX cX X H h1 h2 h3=>by
      rw [sX] at h3;exact sW.out.full fD.out [Value.int .i64 mk] rfl Ie.out jP.out h1 h2 oU h3
     rw [<- sX] at HOLD;clear sX
     have zD:Hid (∀ X,Gs gZ Q HH I X B ps (.slice (some ⟨r,0,none⟩) L.length c) (.slice (some ⟨rg,0,none⟩) MM.length cg) r c base ag L MM (cH t i)->X.cell? ⟨rg,i,none⟩=some (.slice am m.n m.c)):=fun X hX=>by
      rw [<- Ia.out];exact (hX.own.cellAt i (by have:=qu.out;omega)).trans (by rw [List.getElem?_map,fD.out];rfl)
     go_region_law
      ((refine step_append_grows (by rfl) _ _ _ (by rfl) 3 i1 (.int .i64 0) 1 8 Tryz.underlying26 jN Dm EC rG (by rfl) (by decide) am m.n m.c OL (by rfl) vK.out zE (by exact HOLD.out _ rfl) ⟨w5.heap.size,0,none⟩ 1 1 [.int .i64 mk] (by rfl) (by rfl) (by exact gp.out _ _ rfl) (by intro u hu;simp at hu;subst hu;rfl) (by omega) (by unfold maxLen;omega) (by omega) ?_;intro v' X eR Fv;obtain ⟨gX,cX,Tj,_,_⟩:=eR.form (by omega);subst Tj;have fy:=oX.out gX cX X _ Fv (by exact Nat.le_refl _) eR;have Te:X.cell? ⟨B,7,none⟩=some (.slice (some ⟨rg,0,none⟩) MM.length cg):=fy.1.gl;have Tf:=zD.out X fy.1;have Tg:X.frozen? ⟨rg,i,none⟩=false:=fy.1.own.frozenAt i;have oW:=hJ fy;clear fy eR Fv))
     all_goals
      have HP:=hJ (oW.out.1.put oW.out.2 qu.out jP.out);rw [dY] at HP;go_wp2;go_roundw
      case rel =>
       refine ⟨i+1,by omega,by go_num,by go_num,_,_,?_,HP.out⟩;have h3:=Hy.out;rw [List.length_set];exact h3
      case measure=>simp [intOf];omega
  ·have hin:i=L.length:=by omega
   subst hin;go_wp2;go_ret;refine ⟨rfl,vg,M,?_,HG.out⟩;have:=pC.out
   by_cases e:t=0
   ·rwa [if_pos e] at this
   ·rwa [if_neg e] at this
theorem vh (B:Nat)(ps:Int)(hp:0<=ps/\ps<=1)(id:Nat)(dN:Int)(s:au)(v:Value)(w:World)(h:w.cell? ⟨B,1,none⟩=some (.int .i64 ps))(hi:id<=1099511627776)(hs:s.Ok dJ.W)(hsh:s.cK w (dJ.f ps id))(e1:dN=(id:Int))(e2:v=s.v) :
  Calls Tryz.prog 165 #[.pointer (some ⟨B,0,none⟩),v,.int .i64 dN] w fun en w'=>en=.returned (.bool true)/\w.grownBy w' none:=by
 subst e1 e2;obtain ⟨ao,hv,hao⟩:=hs.val;have HC:=hJ h;have HS:=hJ hsh;have gW:=hJ hs;have h1:=hs.le;have h2:=hs.max;have sJ:=hJ hao;clear h hsh hao hs;rw [hv];clear hv;go_enter Tryz.func165,Tryz.ntmps165;go_wp2;go_loopw [7] (fun sj wr=>∃ j:Nat,j<=s.n/\sj=.int .i64 j/\w.grownBy wr none) (fun sj _=>s.n - (intOf sj).toNat)
 case atStart=>exact ⟨0,Nat.zero_le _,rfl,(Qt.refl _).grown none⟩
 case round =>
  obtain ⟨j,hj,rfl,hg⟩:=hrel;have HG:=hJ hg;clear hg
  by_cases hlt:j<s.n
  ·obtain rfl:=sJ.out (by omega)
   go_wp2_with fail
   refine (nc B ps id j _ _ _ (HG.out.cell HC.out (by simp)) hp (by omega) rfl rfl).mono ?_;rintro en w1 ⟨rfl,hg1⟩;have ga:=World.grownBy_alloc w1 (.cells #[.slice none 0 0,.slice none 0 0,.int .i64 (id:Int),.int .i64 (2*(j:Int)+ps)] 63) none;have bj:=hJ (gQ (gQ HG.out hg1) ga);have HY:=hJ (Bx.new w1 (.slice none 0 0) (.slice none 0 0) (.int .i64 (id:Int)) (.int .i64 (2*(j:Int)+ps)));clear hg1 HG ga;go_upto_region 5 with fail
   generalize w1.alloc (.cells #[.slice none 0 0,.slice none 0 0,.int .i64 (id:Int),.int .i64 (2*(j:Int)+ps)] 63)=w2 at *;generalize w1.heap.size=U at *;obtain ⟨y0,y1,y2,y3⟩:=HY.out.cells
   have c0:w2.cell? ⟨s.g,s.o+j*4,none⟩=some (.slice none 0 0):=by
    have:=HS.out (j*4+0) (gW.out.cell hlt (show 0<dJ.W by decide));rw [Nat.add_zero,OC] at this;exact bj.out.cell this (by simp)
   have c1:w2.cell? ⟨s.g,s.o+j*4+1,none⟩=some (.slice none 0 0):=by
    have:=HS.out (j*4+1) (gW.out.cell hlt (show 1<dJ.W by decide));rw [OE,<- Nat.add_assoc] at this;exact bj.out.cell this (by simp)
   have c2:w2.cell? ⟨s.g,s.o+j*4+2,none⟩=some (.int .i64 id):=by
    have:=HS.out (j*4+2) (gW.out.cell hlt (show 2<dJ.W by decide));rw [OG,<- Nat.add_assoc] at this;exact bj.out.cell this (by simp)
   have c3:w2.cell? ⟨s.g,s.o+j*4+3,none⟩=some (.int .i64 (2*(j:Int)+ps)):=by
    have:=HS.out (j*4+3) (gW.out.cell hlt (show 3<dJ.W by decide));rw [OH,<- Nat.add_assoc] at this;exact bj.out.cell this (by simp)
   have hib:Qy ⟨[],[],(id:Int),2*(j:Int)+ps⟩:=by
    refine ⟨?_,?_,?_,?_,?_,?_⟩ <;> simp [Bt] <;> omega
   have HC:=hJ (oc none 0 0 none 0 0 none 0 0 none 0 0 ⟨[],[],(id:Int),2*(j:Int)+ps⟩ ⟨[],[],(id:Int),2*(j:Int)+ps⟩ _ _ _ _ rfl rfl rfl rfl w2.drew (ai.empty _) (ai.empty _) (ai.empty _) (ai.empty _) hib hib);have g0:(0:Int)<=(j:Int):=by omega
   have g1:(j:Int)<(s.n:Int):=by omega
   clear hib
   go_region_with (go_at_call 54;refine HC.out.mono ?_;rintro en w3 ⟨⟨bb,rfl,PI⟩,hg3⟩)
   all_goals
    obtain rfl:bb=true:=by simpa using PI
    have rq:=hJ (gQ bj.out (gQ ((Qt.refl _).drew.grown none) hg3));clear hg3 PI bj HC;go_wp2;go_roundw
    case rel=>exact ⟨j+1,by omega,by go_num,rq.out⟩
    case measure=>simp [intOf];omega
  ·have ue:j=s.n:=by omega
   subst ue;go_wp2;go_ret;exact ⟨rfl,HG.out⟩
theorem CR (B:Nat)(ps:Int)(hp:0<=ps/\ps<=1)(vb:Value)(r c:Nat)(L:List au)(ag:Nat)(I:World->Prop)(w:World)(hid:ag<=1000000)(h:Kc dJ w B ps vb r c L)(hI:I w)
  (mV:∀ w s j v,s∈L->j<s.C->I w->I (w.setCell ⟨s.g,s.o+j,none⟩ v)) (Dp:∀ w w',w.grownBy w' none->I w->I w') :
  Calls Tryz.prog 74 #[.pointer (some ⟨B,0,none⟩),.int .i64 ag] w fun en w'=>en=.returned (.int .i64 ((ag+L.length:Nat):Int))/\lU dJ I w' B ps vb r c L ag L.length 0:=by
 have iA:=h.many;obtain ⟨vo,dZ,dh⟩:=h.row.val;rw [List.length_map] at dZ dh;have jx:=hJ dh;have HIS:=hJ mV;have SG:=hJ Dp;have H0:Hid (lU dJ I w B ps vb r c L ag 0 0):=⟨hI,h,fun k s hk=>by omega,fun s hs q hq=>by omega⟩;clear h hI mV Dp dh;subst dZ;go_enter Tryz.func74,Tryz.ntmps74;go_wp2;go_loopw [1,5] (fun oP si wr=>∃ i:Nat,i<=L.length/\si=.int .i64 i/\oP=.int .i64 ((ag+i:Nat):Int)/\lU dJ I wr B ps (.slice vo L.length c) r c L ag i 0) (fun _ si _=>L.length - (intOf si).toNat)
 case atStart=>exact ⟨0,Nat.zero_le _,rfl,rfl,H0.out⟩
 case round =>
  obtain ⟨i,hi,rfl,rfl,hw⟩:=hrel;have HW:=hJ hw;have cl:wr.cell? ⟨B,20,none⟩=some (.slice vo L.length c):=hw.bc.lists;clear hw
  by_cases hlt:i<L.length
  ·obtain ⟨s,hs⟩:∃ s,L[i]?=some s:=⟨L[i],List.getElem?_eq_getElem hlt⟩
   have hok:=(HW.out.bc.ok s (List.mem_of_getElem? hs)).1;obtain ⟨ao,eY,hao⟩:=hok.val;have h1:=hok.le;have h2:=hok.max;have gW:=hJ hok;have HS:=hJ hs;have sJ:=hJ hao;have mM:=hJ eY;obtain rfl:=jx.out (by omega);clear hs hok hao eY;go_wp2;go_loopw [6] (fun sj wr=>∃ j:Nat,j<=s.n/\sj=.int .i64 j/\lU dJ I wr B ps (.slice (some ⟨r,0,none⟩) L.length c) r c L ag i (j*4)) (fun sj _=>s.n - (intOf sj).toNat)
   case atStart=>exact ⟨0,Nat.zero_le _,rfl,by rw [Nat.zero_mul];exact HW.out⟩
   case round =>
    obtain ⟨j,hj,rfl,hw⟩:=hrel;have HJ:=hJ hw;have cl:wr.cell? ⟨B,20,none⟩=some (.slice (some ⟨r,0,none⟩) L.length c):=hw.bc.lists
    have cr:wr.cell? ⟨r,i,none⟩=some (.slice ao s.n s.c):=by
     rw [<- mM.out];exact hw.bc.row.cells i _ (by rw [List.getElem?_map,HS.out];rfl)
    clear hw
    by_cases xJ:j<s.n
    ·obtain rfl:=sJ.out (by omega)
     have Uq:=gW.out.cell xJ (show 0<dJ.W by decide);obtain ⟨⟨u0,Xj⟩,hf0⟩:=(HJ.out.bc.ok s (List.mem_of_getElem? HS.out)).2.1 (j*4+0) (by have:=gW.out.Km;unfold dJ at Uq;simp only at Uq;omega);rw [Nat.add_zero] at Xj hf0;have Uo:=gW.out.cell xJ (show 1<dJ.W by decide);obtain ⟨⟨u1,UK⟩,Dy⟩:=(HJ.out.bc.ok s (List.mem_of_getElem? HS.out)).2.1 (j*4+1) (by have:=gW.out.Km;unfold dJ at Uo;simp only at Uo;omega);rw [<- Nat.add_assoc] at UK Dy;have hN2:=gW.out.cell xJ (show 2<dJ.W by decide);obtain ⟨⟨u2,hu2⟩,hf2⟩:=(HJ.out.bc.ok s (List.mem_of_getElem? HS.out)).2.1 (j*4+2) (by have:=gW.out.Km;unfold dJ at hN2;simp only at hN2;omega);rw [<- Nat.add_assoc] at hu2 hf2;have hN3:=gW.out.cell xJ (show 3<dJ.W by decide);obtain ⟨⟨u3,hu3⟩,hf3⟩:=(HJ.out.bc.ok s (List.mem_of_getElem? HS.out)).2.1 (j*4+3) (by have:=gW.out.Km;unfold dJ at hN3;simp only at hN3;omega);rw [<- Nat.add_assoc] at hu3 hf3;clear Uq;clear Uo;clear hN2;clear hN3;have PP:Hid (∀ w':World,w'.heap=wr.heap->w'.cell? ⟨B,1,none⟩=some (.int .i64 ps)):=fun w' e=>(World.cell?_of_block (by rw [e])).trans HJ.out.bc.pass
     go_wp2
     go_region_with (go_at_call 152;refine (nc B ps (ag+i+1) j _ _ _ (by exact PP.out _ rfl) hp (by omega) (by omega) (by omega)).mono ?_;rintro en w4 ⟨rfl,hg4⟩;have jL:=hJ (gQ ((Qt.refl wr).drew.grown none) hg4);have cl4:=jL.out.cell cl (by simp);have cr4:=jL.out.cell cr (by simp);have k0:=jL.out.cell Xj (by simp);have z0:=(jL.out.frozen_far ⟨s.g,s.o+j*4,none⟩ (World.block_lt_of_cell? _ _ Xj) (by simp)).trans hf0;have k1:=jL.out.cell UK (by simp);have z1:=(jL.out.frozen_far ⟨s.g,s.o+j*4+1,none⟩ (World.block_lt_of_cell? _ _ UK) (by simp)).trans Dy;have k2:=jL.out.cell hu2 (by simp);have z2:=(jL.out.frozen_far ⟨s.g,s.o+j*4+2,none⟩ (World.block_lt_of_cell? _ _ hu2) (by simp)).trans hf2;have k3:=jL.out.cell hu3 (by simp);have z3:=(jL.out.frozen_far ⟨s.g,s.o+j*4+3,none⟩ (World.block_lt_of_cell? _ _ hu3) (by simp)).trans hf3)
     all_goals
      have HJ4:=hJ (HJ.out.qt SG.out jL.out);have JE:=hJ (HJ4.out.step HIS.out HS.out (gW.out.cell xJ (show 0<dJ.W by decide)) (s.o+j*4) (by show _=s.o+(j*4+0);omega) (.slice none 0 0) (by rw [Nat.add_zero,OC]));have Wc:=hJ (JE.out.step HIS.out HS.out (gW.out.cell xJ (show 1<dJ.W by decide)) (s.o+j*4+1) (by show _=s.o+(j*4+1);omega) (.slice none 0 0) (by rw [OE]));have Rc:=hJ (Wc.out.step HIS.out HS.out (gW.out.cell xJ (show 2<dJ.W by decide)) (s.o+j*4+2) (by show _=s.o+(j*4+2);omega) (.int .i64 ((ag+i+1:Nat):Int)) (by rw [OG]));have HN3:=hJ (Rc.out.step HIS.out HS.out (gW.out.cell xJ (show 3<dJ.W by decide)) (s.o+j*4+3) (by show _=s.o+(j*4+3);omega) (.int .i64 (2*(j:Int)+ps)) (by rw [OH]));clear HJ4 jL hg4;go_wp2;go_roundw
      case rel=>exact ⟨j+1,by omega,by go_num,by rw [show (j+1)*4=j*4+4 by omega];exact (HN3.out)⟩
      case measure=>simp [intOf];omega
    ·have ue:j=s.n:=by omega
     subst ue;have HN:=HJ.out;have eN:s.n*4=s.N:=gW.out.hN.symm;rw [eN] at HN;have HN:=hJ (HN.next HS.out);clear HJ eN;go_wp2;go_roundw
     case rel=>exact ⟨i+1,by omega,by go_num,by go_num,HN.out⟩
     case measure=>simp [intOf];omega
  ·have hin:i=L.length:=by omega
   subst hin;go_wp2;go_ret;exact ⟨rfl,HW.out⟩
theorem Fy (B:Nat)(ps:Int)(hp:0<=ps/\ps<=1)(vb vg:Value)(r c r2 c2:Nat)(L M:List au)(ag:Nat)(w:World)(hid:ag<=1000000)(h:Kc dJ w B ps vb r c L)(hg:Kg dJ w B ps vg r2 c2 M ag)
  (hml:M.length=L.length∨M.length=0) (hs:∀ (k:Nat) (s:au),L[k]?=some s->s.cK w (dJ.f ps (ag+k+1))) :
  Calls Tryz.prog 87 #[.pointer (some ⟨B,0,none⟩),.int .i64 ag] w fun en w'=>en=.returned (.tuple #[.int .i64 ((ag+L.length:Nat):Int),.bool true])/\w.grownBy w' none:=by
 have iA:=h.many;obtain ⟨vo,dZ,dh⟩:=h.row.val;rw [List.length_map] at dZ dh;obtain ⟨go,mj,hgo⟩:=hg.row.val;rw [List.length_map] at mj hgo;have jx:=hJ dh;have SH:=hJ hgo;have HB:=hJ h;have HG:=hJ hg;have HS:=hJ hs;clear h hg hs dh hgo;subst dZ mj;go_enter Tryz.func87,Tryz.ntmps87;go_wp2;go_loopw [1,6,7] (fun oP sa si wr=>∃ i:Nat,i<=L.length/\si=.int .i64 i/\sa=.bool true/\oP=.int .i64 ((ag+i:Nat):Int)/\w.grownBy wr none) (fun _ _ si _=>L.length - (intOf si).toNat)
 case atStart=>exact ⟨0,Nat.zero_le _,rfl,rfl,rfl,(Qt.refl _).grown none⟩
 case round =>
  obtain ⟨i,hi,rfl,rfl,rfl,hgr⟩:=hrel;have fA:=hJ hgr;have cl:wr.cell? ⟨B,20,none⟩=some (.slice vo L.length c):=hgr.cell HB.out.lists (by simp);clear hgr
  by_cases hlt:i<L.length
  ·obtain ⟨s,hs⟩:∃ s,L[i]?=some s:=⟨L[i],List.getElem?_eq_getElem hlt⟩
   have Aj:=hJ hs;obtain rfl:=jx.out (by omega);obtain ⟨ao,eY,hao⟩:=(HB.out.ok s (List.mem_of_getElem? hs)).1.val
   have cr:wr.cell? ⟨r,i,none⟩=some (.slice ao s.n s.c):=by
    rw [<- eY];exact fA.out.cell (HB.out.row.cells i _ (by rw [List.getElem?_map,hs];rfl)) (by simp)
   have mM:=hJ eY;clear hs hao eY
   go_wp2_with fail
   refine (vh B ps hp (ag+i+1) _ s _ _ (fA.out.cell HB.out.pass (by simp)) (by omega) (HB.out.ok s (List.mem_of_getElem? Aj.out)).1 ((HS.out i s Aj.out).kept fA.out (by simp)) (by omega) mM.out.symm).mono ?_;rintro en w1 ⟨rfl,hg1⟩;have cF:=hJ (gQ fA.out hg1);have cg:w1.cell? ⟨B,22,none⟩=some (.slice go M.length c2):=cF.out.cell HG.out.lists (by simp);clear hg1 fA cl cr;rcases hml with hml | hml
   ·obtain ⟨t,ht⟩:∃ t,M[i]?=some t:=⟨M[i]'(by omega),List.getElem?_eq_getElem (by omega)⟩
    obtain rfl:=SH.out (by omega);obtain ⟨Ac,zu,zv⟩:=(HG.out.ok t (List.mem_of_getElem? ht)).val
    have cr2:w1.cell? ⟨r2,i,none⟩=some (.slice Ac t.n t.c):=by
     rw [<- zu];exact cF.out.cell (HG.out.row.cells i _ (by rw [List.getElem?_map,ht];rfl)) (by simp)
    have Fk:=hJ ht;have SI:=hJ zu;have hd:decide ((i:Int)<(M.length:Int))=true:=by simp;omega
    clear ht zu zv
    go_wp2_with fail
    refine (vh B ps hp (ag+i+1) _ t _ _ (cF.out.cell HB.out.pass (by simp)) (by omega) (HG.out.ok t (List.mem_of_getElem? Fk.out)) ((HG.out.marks i t Fk.out).kept cF.out (by simp)) (by omega) SI.out.symm).mono ?_;rintro en w2 ⟨rfl,hg2⟩;have zw:=hJ (gQ cF.out hg2);clear hg2 cF;go_wp2;go_roundw
    case rel=>exact ⟨i+1,by omega,by go_num,rfl,by go_num,zw.out⟩
    case measure=>simp [intOf];omega
   ·have hd:decide ((i:Int)<(M.length:Int))=false:=by simp;omega
    go_wp2;go_roundw
    case rel=>exact ⟨i+1,by omega,by go_num,rfl,by go_num,cF.out⟩
    case measure=>simp [intOf];omega
  ·have hin:i=L.length:=by omega
   subst hin;go_wp2
   go_ret2
   exact ⟨rfl,fA.out⟩
theorem rZ (B:Nat)(vb vw:Value)(r c r2 c2:Nat)(xs ys:List Value)(w:World)(h2:w.cell? ⟨B,20,none⟩=some vb)(h3:w.cell? ⟨B,21,none⟩=some vw)(hb:rU w vb r c xs)(hw:rU w vw r2 c2 ys)(hl:xs.length=ys.length)(hm:xs.length<=1000000)
  (hs:∀ (k:Nat) (x y:Value),xs[k]?=some x->ys[k]?=some y->∃ ao n ca bo cb Z,x=.slice ao n ca/\y=.slice bo n cb/\Il w ao Z/\Il w bo Z/\Ib Z/\Z.length=n/\n<=1099511627776) :
  Calls Tryz.prog 61 #[.pointer (some ⟨B,0,none⟩)] w fun en w'=>en=.returned (.bool true)/\w.grownBy w' none:=by
 obtain ⟨vo,dZ,dh⟩:=hb.val;obtain ⟨wo,mX,Hf⟩:=hw.val;have jx:=hJ dh;have Sg:=hJ Hf;have HB:=hJ hb;have HW:=hJ hw;have HS:=hJ hs;clear hb hw hs dh Hf;subst dZ mX;go_enter Tryz.func61,Tryz.ntmps61;go_wp2;go_loopw [3] (fun si wr=>∃ i:Nat,i<=xs.length/\si=.int .i64 i/\w.grownBy wr none) (fun si _=>xs.length - (intOf si).toNat)
 case atStart=>exact ⟨0,Nat.zero_le _,rfl,(Qt.refl _).grown none⟩
 case round =>
  obtain ⟨i,hi,rfl,hq⟩:=hrel;have HQ:=hJ hq;have k2:=hq.cell h2 (by simp);have k3:=hq.cell h3 (by simp);clear hq
  by_cases hlt:i<xs.length
  ·obtain ⟨x,hx⟩:∃ x,xs[i]?=some x:=⟨xs[i],List.getElem?_eq_getElem hlt⟩
   obtain ⟨y,hy⟩:∃ y,ys[i]?=some y:=⟨ys[i]'(by omega),List.getElem?_eq_getElem (by omega)⟩;obtain ⟨ao,n,ca,bo,cb,Z,rfl,rfl,ba,bb,bz,hz,hn⟩:=HS.out i x y hx hy;obtain rfl:=jx.out (by omega);obtain rfl:=Sg.out (by omega);have c1:=HQ.out.cell (HB.out.cells i _ hx) (by simp);have c2:=HQ.out.cell (HW.out.cells i _ hy) (by simp);have HD:=hJ (gQ HQ.out ((Qt.refl _).drew.grown none));have HC:=hJ (lY ao n ca Z bo n cb Z wr.drew (ba.ae HD.out) bz hz (bb.ae HD.out) bz hz (by omega));clear ba bb bz;have CA:(i:Int)<(ys.length:Int):=by omega
   have g0:(0:Int)<=(i:Int):=by omega
   clear hx hy
   go_wp2_with fail
   go_region_with (go_at_call 30;refine HC.out.mono ?_;rintro en w3 ⟨⟨q,rfl,hq⟩,hg3⟩)
   all_goals
    obtain rfl:q=true:=by simpa using hq
    have rq:=hJ (gQ HD.out hg3);clear hq hg3 HC HD;go_wp2;go_roundw
    case rel=>exact ⟨i+1,by omega,by go_num,rq.out⟩
    case measure=>simp [intOf];omega
  ·have hin:i=xs.length:=by omega
   subst hin;go_wp2;go_ret;exact ⟨rfl,HQ.out⟩
theorem xN (B:Nat)(ps:Int)(hp:0<=ps/\ps<=1)(id:Nat)(dN:Int)(s:au)(v:Value)(w:World)(h:w.cell? ⟨B,1,none⟩=some (.int .i64 ps))(_:id<=1099511627776)(hs:s.Ok fL.W)(hsh:s.cK w (fL.f ps id))(e1:dN=(id:Int))(e2:v=s.v) :
  Calls Tryz.prog 166 #[.pointer (some ⟨B,0,none⟩),v,.int .i64 dN] w fun en w'=>en=.returned (.bool true)/\w.grownBy w' none:=by
 subst e1 e2;obtain ⟨ao,hv,hao⟩:=hs.val;have HC:=hJ h;have HS:=hJ hsh;have gW:=hJ hs;have h1:=hs.le;have h2:=hs.max;have sJ:=hJ hao;clear h hsh hao hs;rw [hv];clear hv;go_enter Tryz.func166,Tryz.ntmps166;go_wp2;go_loopw [7] (fun sj wr=>∃ j:Nat,j<=s.n/\sj=.int .i64 j/\w.grownBy wr none) (fun sj _=>s.n - (intOf sj).toNat)
 case atStart=>exact ⟨0,Nat.zero_le _,rfl,(Qt.refl _).grown none⟩
 case round =>
  obtain ⟨j,hj,rfl,hg⟩:=hrel;have HG:=hJ hg;clear hg
  by_cases hlt:j<s.n
  ·obtain rfl:=sJ.out (by omega)
   go_wp2_with fail
   refine (qs B ps id j _ _ _ (HG.out.cell HC.out (by simp)) hp (by omega) rfl rfl).mono ?_;rintro en w1 ⟨rfl,hg1⟩;have ga:=World.grownBy_alloc w1 (.cells #[.int .i64 (id:Int),.int .i64 (2*(j:Int)+ps)] 69) none;have bj:=hJ (gQ (gQ HG.out hg1) ga);have HY:=hJ (Dn.new w1 (.int .i64 (id:Int)) (.int .i64 (2*(j:Int)+ps)));clear hg1 HG ga;go_upto_region 5 with fail
   generalize w1.alloc (.cells #[.int .i64 (id:Int),.int .i64 (2*(j:Int)+ps)] 69)=w2 at *;generalize w1.heap.size=U at *;obtain ⟨y0,y1⟩:=HY.out.cells
   have c0:w2.cell? ⟨s.g,s.o+j*2,none⟩=some (.int .i64 id):=by
    have:=HS.out (j*2+0) (gW.out.cell hlt (show 0<fL.W by decide));rw [Nat.add_zero,OI] at this;exact bj.out.cell this (by simp)
   have c1:w2.cell? ⟨s.g,s.o+j*2+1,none⟩=some (.int .i64 (2*(j:Int)+ps)):=by
    have:=HS.out (j*2+1) (gW.out.cell hlt (show 1<fL.W by decide));rw [OJ,<- Nat.add_assoc] at this;exact bj.out.cell this (by simp)
   have g0:(0:Int)<=(j:Int):=by omega
   have g1:(j:Int)<(s.n:Int):=by omega
   have rq:=hJ (gQ bj.out ((Qt.refl _).drew.grown none));generalize 2*(j:Int)+ps=q at *;have hb1:((id:Int)==(id:Int))=true:=by simp
   have hb2:(q==q)=true:=by simp
   go_region
   all_goals
    go_wp2;go_roundw
    case rel=>exact ⟨j+1,by omega,by go_num,rq.out⟩
    case measure=>simp [intOf];omega
  ·have ue:j=s.n:=by omega
   subst ue;go_wp2;go_ret;exact ⟨rfl,HG.out⟩
theorem Fz (B:Nat)(ps:Int)(hp:0<=ps/\ps<=1)(vb:Value)(r c:Nat)(L:List au)(ag:Nat)(I:World->Prop)(w:World)(hid:ag<=1000000)(h:Kc fL w B ps vb r c L)(hI:I w)
  (mV:∀ w s j v,s∈L->j<s.C->I w->I (w.setCell ⟨s.g,s.o+j,none⟩ v)) (Dp:∀ w w',w.grownBy w' none->I w->I w') :
  Calls Tryz.prog 75 #[.pointer (some ⟨B,0,none⟩),.int .i64 ag] w fun en w'=>en=.returned (.int .i64 ((ag+L.length:Nat):Int))/\lU fL I w' B ps vb r c L ag L.length 0:=by
 have iA:=h.many;obtain ⟨vo,dZ,dh⟩:=h.row.val;rw [List.length_map] at dZ dh;have jx:=hJ dh;have HIS:=hJ mV;have SG:=hJ Dp;have H0:Hid (lU fL I w B ps vb r c L ag 0 0):=⟨hI,h,fun k s hk=>by omega,fun s hs q hq=>by omega⟩;clear h hI mV Dp dh;subst dZ;go_enter Tryz.func75,Tryz.ntmps75;go_wp2;go_loopw [1,5] (fun oP si wr=>∃ i:Nat,i<=L.length/\si=.int .i64 i/\oP=.int .i64 ((ag+i:Nat):Int)/\lU fL I wr B ps (.slice vo L.length c) r c L ag i 0) (fun _ si _=>L.length - (intOf si).toNat)
 case atStart=>exact ⟨0,Nat.zero_le _,rfl,rfl,H0.out⟩
 case round =>
  obtain ⟨i,hi,rfl,rfl,hw⟩:=hrel;have HW:=hJ hw;have cl:wr.cell? ⟨B,23,none⟩=some (.slice vo L.length c):=hw.bc.lists;clear hw
  by_cases hlt:i<L.length
  ·obtain ⟨s,hs⟩:∃ s,L[i]?=some s:=⟨L[i],List.getElem?_eq_getElem hlt⟩
   have hok:=(HW.out.bc.ok s (List.mem_of_getElem? hs)).1;obtain ⟨ao,eY,hao⟩:=hok.val;have h1:=hok.le;have h2:=hok.max;have gW:=hJ hok;have HS:=hJ hs;have sJ:=hJ hao;have mM:=hJ eY;obtain rfl:=jx.out (by omega);clear hs hok hao eY;go_wp2;go_loopw [6] (fun sj wr=>∃ j:Nat,j<=s.n/\sj=.int .i64 j/\lU fL I wr B ps (.slice (some ⟨r,0,none⟩) L.length c) r c L ag i (j*2)) (fun sj _=>s.n - (intOf sj).toNat)
   case atStart=>exact ⟨0,Nat.zero_le _,rfl,by rw [Nat.zero_mul];exact HW.out⟩
   case round =>
    obtain ⟨j,hj,rfl,hw⟩:=hrel;have HJ:=hJ hw;have cl:wr.cell? ⟨B,23,none⟩=some (.slice (some ⟨r,0,none⟩) L.length c):=hw.bc.lists
    have cr:wr.cell? ⟨r,i,none⟩=some (.slice ao s.n s.c):=by
     rw [<- mM.out];exact hw.bc.row.cells i _ (by rw [List.getElem?_map,HS.out];rfl)
    clear hw
    by_cases xJ:j<s.n
    ·obtain rfl:=sJ.out (by omega)
     have Uq:=gW.out.cell xJ (show 0<fL.W by decide);obtain ⟨⟨u0,Xj⟩,hf0⟩:=(HJ.out.bc.ok s (List.mem_of_getElem? HS.out)).2.1 (j*2+0) (by have:=gW.out.Km;unfold fL at Uq;simp only at Uq;omega);rw [Nat.add_zero] at Xj hf0;have Uo:=gW.out.cell xJ (show 1<fL.W by decide);obtain ⟨⟨u1,UK⟩,Dy⟩:=(HJ.out.bc.ok s (List.mem_of_getElem? HS.out)).2.1 (j*2+1) (by have:=gW.out.Km;unfold fL at Uo;simp only at Uo;omega);rw [<- Nat.add_assoc] at UK Dy;clear Uq;clear Uo;have PP:Hid (∀ w':World,w'.heap=wr.heap->w'.cell? ⟨B,1,none⟩=some (.int .i64 ps)):=fun w' e=>(World.cell?_of_block (by rw [e])).trans HJ.out.bc.pass
     go_wp2
     go_region_with (go_at_call 153;refine (qs B ps (ag+i+1) j _ _ _ (by exact PP.out _ rfl) hp (by omega) (by omega) (by omega)).mono ?_;rintro en w4 ⟨rfl,hg4⟩;have jL:=hJ (gQ ((Qt.refl wr).drew.grown none) hg4);have cl4:=jL.out.cell cl (by simp);have cr4:=jL.out.cell cr (by simp);have k0:=jL.out.cell Xj (by simp);have z0:=(jL.out.frozen_far ⟨s.g,s.o+j*2,none⟩ (World.block_lt_of_cell? _ _ Xj) (by simp)).trans hf0;have k1:=jL.out.cell UK (by simp);have z1:=(jL.out.frozen_far ⟨s.g,s.o+j*2+1,none⟩ (World.block_lt_of_cell? _ _ UK) (by simp)).trans Dy)
     all_goals
      have HJ4:=hJ (HJ.out.qt SG.out jL.out);have JE:=hJ (HJ4.out.step HIS.out HS.out (gW.out.cell xJ (show 0<fL.W by decide)) (s.o+j*2) (by show _=s.o+(j*2+0);omega) (.int .i64 ((ag+i+1:Nat):Int)) (by rw [Nat.add_zero,OI]));have Wc:=hJ (JE.out.step HIS.out HS.out (gW.out.cell xJ (show 1<fL.W by decide)) (s.o+j*2+1) (by show _=s.o+(j*2+1);omega) (.int .i64 (2*(j:Int)+ps)) (by rw [OJ]));clear HJ4 jL hg4;go_wp2;go_roundw
      case rel=>exact ⟨j+1,by omega,by go_num,by rw [show (j+1)*2=j*2+2 by omega];exact (Wc.out)⟩
      case measure=>simp [intOf];omega
    ·have ue:j=s.n:=by omega
     subst ue;have HN:=HJ.out;have eN:s.n*2=s.N:=gW.out.hN.symm;rw [eN] at HN;have HN:=hJ (HN.next HS.out);clear HJ eN;go_wp2;go_roundw
     case rel=>exact ⟨i+1,by omega,by go_num,by go_num,HN.out⟩
     case measure=>simp [intOf];omega
  ·have hin:i=L.length:=by omega
   subst hin;go_wp2;go_ret;exact ⟨rfl,HW.out⟩
theorem KL (B:Nat)(ps:Int)(hp:0<=ps/\ps<=1)(vb vg:Value)(r c r2 c2:Nat)(L M:List au)(ag:Nat)(w:World)(hid:ag<=1000000)(h:Kc fL w B ps vb r c L)(hg:Kg fL w B ps vg r2 c2 M ag)
  (hml:M.length=L.length∨M.length=0) (hs:∀ (k:Nat) (s:au),L[k]?=some s->s.cK w (fL.f ps (ag+k+1))) :
  Calls Tryz.prog 88 #[.pointer (some ⟨B,0,none⟩),.int .i64 ag] w fun en w'=>en=.returned (.tuple #[.int .i64 ((ag+L.length:Nat):Int),.bool true])/\w.grownBy w' none:=by
 have iA:=h.many;obtain ⟨vo,dZ,dh⟩:=h.row.val;rw [List.length_map] at dZ dh;obtain ⟨go,mj,hgo⟩:=hg.row.val;rw [List.length_map] at mj hgo;have jx:=hJ dh;have SH:=hJ hgo;have HB:=hJ h;have HG:=hJ hg;have HS:=hJ hs;clear h hg hs dh hgo;subst dZ mj;go_enter Tryz.func88,Tryz.ntmps88;go_wp2;go_loopw [1,6,7] (fun oP sa si wr=>∃ i:Nat,i<=L.length/\si=.int .i64 i/\sa=.bool true/\oP=.int .i64 ((ag+i:Nat):Int)/\w.grownBy wr none) (fun _ _ si _=>L.length - (intOf si).toNat)
 case atStart=>exact ⟨0,Nat.zero_le _,rfl,rfl,rfl,(Qt.refl _).grown none⟩
 case round =>
  obtain ⟨i,hi,rfl,rfl,rfl,hgr⟩:=hrel;have fA:=hJ hgr;have cl:wr.cell? ⟨B,23,none⟩=some (.slice vo L.length c):=hgr.cell HB.out.lists (by simp);clear hgr
  by_cases hlt:i<L.length
  ·obtain ⟨s,hs⟩:∃ s,L[i]?=some s:=⟨L[i],List.getElem?_eq_getElem hlt⟩
   have Aj:=hJ hs;obtain rfl:=jx.out (by omega);obtain ⟨ao,eY,hao⟩:=(HB.out.ok s (List.mem_of_getElem? hs)).1.val
   have cr:wr.cell? ⟨r,i,none⟩=some (.slice ao s.n s.c):=by
    rw [<- eY];exact fA.out.cell (HB.out.row.cells i _ (by rw [List.getElem?_map,hs];rfl)) (by simp)
   have mM:=hJ eY;clear hs hao eY
   go_wp2_with fail
   refine (xN B ps hp (ag+i+1) _ s _ _ (fA.out.cell HB.out.pass (by simp)) (by omega) (HB.out.ok s (List.mem_of_getElem? Aj.out)).1 ((HS.out i s Aj.out).kept fA.out (by simp)) (by omega) mM.out.symm).mono ?_;rintro en w1 ⟨rfl,hg1⟩;have cF:=hJ (gQ fA.out hg1);have cg:w1.cell? ⟨B,25,none⟩=some (.slice go M.length c2):=cF.out.cell HG.out.lists (by simp);clear hg1 fA cl cr;rcases hml with hml | hml
   ·obtain ⟨t,ht⟩:∃ t,M[i]?=some t:=⟨M[i]'(by omega),List.getElem?_eq_getElem (by omega)⟩
    obtain rfl:=SH.out (by omega);obtain ⟨Ac,zu,zv⟩:=(HG.out.ok t (List.mem_of_getElem? ht)).val
    have cr2:w1.cell? ⟨r2,i,none⟩=some (.slice Ac t.n t.c):=by
     rw [<- zu];exact cF.out.cell (HG.out.row.cells i _ (by rw [List.getElem?_map,ht];rfl)) (by simp)
    have Fk:=hJ ht;have SI:=hJ zu;have hd:decide ((i:Int)<(M.length:Int))=true:=by simp;omega
    clear ht zu zv
    go_wp2_with fail
    refine (xN B ps hp (ag+i+1) _ t _ _ (cF.out.cell HB.out.pass (by simp)) (by omega) (HG.out.ok t (List.mem_of_getElem? Fk.out)) ((HG.out.marks i t Fk.out).kept cF.out (by simp)) (by omega) SI.out.symm).mono ?_;rintro en w2 ⟨rfl,hg2⟩;have zw:=hJ (gQ cF.out hg2);clear hg2 cF;go_wp2;go_roundw
    case rel=>exact ⟨i+1,by omega,by go_num,rfl,by go_num,zw.out⟩
    case measure=>simp [intOf];omega
   ·have hd:decide ((i:Int)<(M.length:Int))=false:=by simp;omega
    go_wp2;go_roundw
    case rel=>exact ⟨i+1,by omega,by go_num,rfl,by go_num,cF.out⟩
    case measure=>simp [intOf];omega
  ·have hin:i=L.length:=by omega
   subst hin;go_wp2
   go_ret2
   exact ⟨rfl,fA.out⟩
theorem vk (B:Nat)(vb vw:Value)(r c r2 c2:Nat)(xs ys:List Value)(w:World)(h2:w.cell? ⟨B,23,none⟩=some vb)(h3:w.cell? ⟨B,24,none⟩=some vw)(hb:rU w vb r c xs)(hw:rU w vw r2 c2 ys)(hl:xs.length=ys.length)(hm:xs.length<=1000000)
  (hs:∀ (k:Nat) (x y:Value),xs[k]?=some x->ys[k]?=some y->∃ ao n ca bo cb,∃ Z:List Kd,x=.slice ao n ca/\y=.slice bo n cb/\Kl w ao Z/\Kl w bo Z/\True/\Z.length=n/\n<=1099511627776) :
  Calls Tryz.prog 62 #[.pointer (some ⟨B,0,none⟩)] w fun en w'=>en=.returned (.bool true)/\w.grownBy w' none:=by
 obtain ⟨vo,dZ,dh⟩:=hb.val;obtain ⟨wo,mX,Hf⟩:=hw.val;have jx:=hJ dh;have Sg:=hJ Hf;have HB:=hJ hb;have HW:=hJ hw;have HS:=hJ hs;clear hb hw hs dh Hf;subst dZ mX;go_enter Tryz.func62,Tryz.ntmps62;go_wp2;go_loopw [3] (fun si wr=>∃ i:Nat,i<=xs.length/\si=.int .i64 i/\w.grownBy wr none) (fun si _=>xs.length - (intOf si).toNat)
 case atStart=>exact ⟨0,Nat.zero_le _,rfl,(Qt.refl _).grown none⟩
 case round =>
  obtain ⟨i,hi,rfl,hq⟩:=hrel;have HQ:=hJ hq;have k2:=hq.cell h2 (by simp);have k3:=hq.cell h3 (by simp);clear hq
  by_cases hlt:i<xs.length
  ·obtain ⟨x,hx⟩:∃ x,xs[i]?=some x:=⟨xs[i],List.getElem?_eq_getElem hlt⟩
   obtain ⟨y,hy⟩:∃ y,ys[i]?=some y:=⟨ys[i]'(by omega),List.getElem?_eq_getElem (by omega)⟩;obtain ⟨ao,n,ca,bo,cb,Z,rfl,rfl,ba,bb,bz,hz,hn⟩:=HS.out i x y hx hy;obtain rfl:=jx.out (by omega);obtain rfl:=Sg.out (by omega);have c1:=HQ.out.cell (HB.out.cells i _ hx) (by simp);have c2:=HQ.out.cell (HW.out.cells i _ hy) (by simp);have HD:=hJ (gQ HQ.out ((Qt.refl _).drew.grown none));have HC:=hJ (oh ao n ca Z bo n cb Z wr.drew (ba.ae HD.out) hz (bb.ae HD.out) hz (by omega));clear ba bb bz;have CA:(i:Int)<(ys.length:Int):=by omega
   have g0:(0:Int)<=(i:Int):=by omega
   clear hx hy
   go_wp2_with fail
   go_region_with (go_at_call 32;refine HC.out.mono ?_;rintro en w3 ⟨⟨q,rfl,hq⟩,hg3⟩)
   all_goals
    obtain rfl:q=true:=by simpa using hq
    have rq:=hJ (gQ HD.out (hg3.grown none));clear hq hg3 HC HD;go_wp2;go_roundw
    case rel=>exact ⟨i+1,by omega,by go_num,rq.out⟩
    case measure=>simp [intOf];omega
  ·have hin:i=xs.length:=by omega
   subst hin;go_wp2;go_ret;exact ⟨rfl,HQ.out⟩
end Go.Proofs.YtgldkdbkaachkaaGreatDoor
