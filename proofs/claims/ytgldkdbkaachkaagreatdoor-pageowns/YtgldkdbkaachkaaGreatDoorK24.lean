import Derived.Test.YtgldkdbkaachkaaGreatDoorK23
import Derived.Test.YtgldkdbkaachkaaGreatDoorK6
import Derived.Deep.RegionLaw
set_option maxRecDepth 100000
set_option maxHeartbeats 4000000
namespace Go.Proofs.YtgldkdbkaachkaaGreatDoor
open Go.RowKit
variable {M Z:List (List Int)}{xs:List Value}{B H W b base g n sz:Nat}{cs cs' cz:Nat->Value}{a:Option Addr}{t:TypeId}{v:Value}{w w' wr:World}
theorem CP:(Tryz.prog.info? 25).map (fun i=>(i.zero,i.size,i.bytes))=some (some (.slice none 0 0),1,24):=by kernel_rfl
theorem OB {L:List (List Int)}{i:Nat}(h:i<L.length):L.getD i []∈L:=by
 simp [List.getD,List.getElem?_eq_getElem h]
theorem qo {e:TypeId}(h:w.ownsRow base e sz v n xs)(hg:w.grownBy w' none):w'.ownsRow base e sz v n xs:=h.kept hg (by cases v.ownBlock <;> simp)
theorem mZ {o:Obj}(hg:w.grownBy wr none)(ho:wr.ownsRow base t sz v n xs)(hb:w.heap.size<=base)(h:(wr.alloc o).grownBy w' v.ownBlock):w.grownBy w' none:=by
 refine ⟨h.os.trans hg.os,h.tape.trans hg.tape,h.output.trans hg.output,?_,fun q hq _=>?_⟩
 ·have:=h.size;have:=hg.size;simp at *;omega
 ·have IK:q<wr.heap.size:=Nat.lt_of_lt_of_le hq hg.size
  rw [h.block q (by simp;omega) (by intro e;have:=(ho.lt q e.symm).1;omega),Below.heap_alloc wr _ q IK];exact hg.block q hq (by simp)
structure Sy (w:World)(base:Nat)(xs:List Value)(M:List (List Int)):Prop where
 len:xs.length=M.length
 el:∀ j,j<M.length->∃ g H,base<=H/\xs[j]?=some (.slice (some ⟨g,0,none⟩) (M.getD j []).length (M.getD j []).length)/\w.ownsRow H 5 1 (.slice (some ⟨g,0,none⟩) (M.getD j []).length (M.getD j []).length) (M.getD j []).length ((M.getD j []).map (Value.int .u8))
theorem Sy.nil (w:World)(base:Nat):Sy w base [] []:=⟨rfl,fun j hj=>by simp at hj⟩
theorem Sy.ae {base:Nat}(h:Sy w base xs M)(hg:w.grownBy w' none):Sy w' base xs M:=by
 refine ⟨h.len,fun j hj=>?_⟩;obtain ⟨g,H,h0,h1,h2⟩:=h.el j hj;exact ⟨g,H,h0,h1,qo h2 hg⟩
theorem Sy.kept {vl:Value}{ys:List Value}(h:Sy w base xs M)(hg:w.grownBy w' vl.ownBlock)(ho:w.ownsRow b 25 sz vl n ys):Sy w' base xs M:=by
 refine ⟨h.len,fun j hj=>?_⟩;obtain ⟨g,H,h0,h1,h2⟩:=h.el j hj;exact ⟨g,H,h0,h1,h2.kept hg (Or.inr (fun e=>(fM ho g e.symm).ne (fM h2 g rfl) (by decide) rfl))⟩
theorem Sy.snoc {x:List Int}(h:Sy w base xs M)(hH:base<=H)(h1:w.ownsRow H 5 1 (.slice (some ⟨g,0,none⟩) n n) n (x.map (Value.int .u8)))(hn:x.length=n):Sy w base (xs++[.slice (some ⟨g,0,none⟩) n n]) (M++[x]):=by
 have hl:=h.len;refine ⟨by simp [hl],fun j hj=>?_⟩;rw [List.length_append] at hj;simp only [List.length_cons,List.length_nil] at hj
 by_cases e:j<M.length
 ·obtain ⟨g,H,k0,k1,k2⟩:=h.el j e
  have eg:(M++[x]).getD j []=M.getD j []:=by simp [List.getD,List.getElem?_append_left e]
  rw [eg];exact ⟨g,H,k0,by rw [List.getElem?_append_left (by omega)];exact k1,k2⟩
 ·obtain rfl:j=M.length:=by omega
  have eg:(M++[x]).getD M.length []=x:=by simp [List.getD]
  rw [eg,hn];exact ⟨g,H,hH,by rw [List.getElem?_append_right (by omega),hl,Nat.sub_self];rfl,h1⟩
theorem zh (a:Option Addr)(n cap:Nat)(L:List (List Int))(w:World)(hl:Lz w a L)(hn:L.length=n)(hm:n<=5000)(hs:∀ s∈L,s.length<=100000) :
  Calls Tryz.prog 23 #[.slice a n cap] w fun en w'=>(∃ v xs,en=.returned v/\w'.ownsRow w.heap.size 25 1 v n xs/\Sy w' w.heap.size xs L)/\w.grownBy w' none/\(n=0->mo w' 25 w.heap.size):=by
 obtain ⟨i0,hi,hz0,hz1,hz2⟩:=info_parts CP;have HL:=hJ hl;have HS:=hJ hs;clear hl hs;go_enter Tryz.func23,Tryz.ntmps23
 go_wp2_with (at_make;refine wpList_make_own _ rfl _ _ 23 rfl w.heap.size 25 i0 (.slice none 0 0) 1 Tryz.underlying23 hi hz0 hz1 _ _ _ n rfl rfl rfl ?b2 ?b3 (Nat.le_refl _) ?_)
 case b2=>rw [hz2];omega
 case b3=>unfold maxLen;omega
 intro w0 aR hg0;have O0:=hJ aR;have ye:=hJ (fM aR w.heap.size rfl);have G0:=hJ hg0;clear aR hg0;go_wp2;go_loopw [3,4,5] (fun sl si _ wr=>∃ (i:Nat) (xs:List Value),i<=n/\si=.int .i64 i/\Sy wr w.heap.size xs (L.take i)/\wr.ownsRow w.heap.size 25 1 sl i xs/\w.grownBy wr none/\(i=0->mo wr 25 w.heap.size)) (fun _ si _ _=>n - (intOf si).toNat)
 case atStart=>exact ⟨0,[],Nat.zero_le _,rfl,Sy.nil _ _,O0.out,G0.out,fun _=>ye.out⟩
 case round =>
  obtain ⟨i,xs,hi',rfl,eY,hown,hg,hbl⟩:=hrel;have vJ:=hJ hbl;clear hbl ye;have HV:=hJ eY;have HO:=hJ hown;have HG:=hJ hg;clear eY hown hg O0 G0
  by_cases hlt:i<n
  ·obtain ⟨b1,off,ao,k,c,rfl,q2,q3,q4,q5⟩:=HL.out.row i (by omega)
   have c0:=HG.out.cell q2 (by simp);have B0:=hJ (q3.ae HG.out);have hk:=q3.len;have hk2:=HS.out _ (OB (show i<L.length by omega))
   have yF:Hid (L.take (i+1)=L.take i++[L.getD i []]):=by
    show _=_
    rw [List.take_add_one,List.getElem?_eq_getElem (show i<L.length by omega)];simp [List.getD,List.getElem?_eq_getElem (show i<L.length by omega)]
   clear q2 q3;generalize L.getD i []=x at *
   go_wp2_with fail
   refine (bq ao k c x _ B0.out (by omega)).mono ?_;rintro en w2 ⟨rfl,hown2,hg2,hs2⟩;have R2:=hJ hown2;have VE:=hJ (HV.out.ae hg2);have Sb:=hJ (qo HO.out hg2);have eu:=hJ (gQ HG.out hg2);have GH:=HG.out.size;clear hown2 hg2 hs2 HV HO HG B0 c0;generalize wr.heap.size=g at *
   go_wp2_with (at_builtin;refine wpList_append_own _ rfl _ _ 23 rfl w.heap.size 25 i0 (.slice none 0 0) 1 24 Tryz.underlying23 hi hz0 hz1 hz2 rfl (by decide) _ i xs rfl (Sb.out.alloc _) ⟨w2.heap.size,0,none⟩ 1 1 [.slice (some ⟨g,0,none⟩) k k] rfl rfl (cell_one_new _ _ _) (by intro u hu;simp at hu;subst hu;rfl) (by unfold maxLen;omega) (by omega) (by have:=eu.out.size;simp;omega) ?_)
   intro v' w4 jR hg4 _;have uf:=World.grownBy_alloc w2 (.cells #[.slice (some ⟨g,0,none⟩) k k] 25) none;have HV4:=hJ (((VE.out.ae uf).snoc GH (qo R2.out uf) hk).kept hg4 (Sb.out.alloc (.cells #[.slice (some ⟨g,0,none⟩) k k] 25)));have jL:=hJ (mZ eu.out Sb.out (Nat.le_refl _) hg4);have HO4:=hJ jR;clear uf jR hg4 VE Sb eu R2;go_wp2;go_roundw
   case rel=>exact ⟨i+1,_,by omega,by go_num,by rw [yF.out];exact HV4.out,HO4.out,jL.out,fun e=>by omega⟩
   case measure=>simp [intOf];omega
  ·have hin:i=n:=by omega
   subst hin;have e:L.take i=L:=by rw [<- hn,List.take_length]
   rw [e] at HV;go_wp2;go_ret;exact ⟨⟨_,xs,rfl,HO.out,HV.out⟩,HG.out,vJ.out⟩
structure Tl (w:World)(base:Nat)(cs:Nat->Value)(a:Option Addr)(Z:List (List Int)):Prop where
 row:∀ i,i<Z.length->∃ b off ao n c,a=some ⟨b,off,none⟩/\w.cell? ⟨b,off+i,none⟩=some (.slice ao n c)/\Tb w base cs ao n c (Z.getD i [])/\n<=c/\c<=9223372036854775807/\ja base cs b
theorem Tl.cE (h:Tl w base cs a Z)(k:Kee w w' base cs cs'):Tl w' base cs' a Z:=by
 refine ⟨fun i hi=>?_⟩;obtain ⟨b,off,ao,n,c,h1,h2,h3,h4,h5,h6⟩:=h.row i hi;exact ⟨b,off,ao,n,c,h1,k.cell h2 h6,h3.cE k,h4,h5,(k.block b (World.block_lt_of_cell? w _ h2) h6).2⟩
theorem Tl.lz (h:Tl w base cs a Z):Lz w a Z:=by
 refine ⟨fun i hi=>?_⟩;obtain ⟨b,off,ao,n,c,h1,h2,h3,h4,h5,_⟩:=h.row i hi;exact ⟨b,off,ao,n,c,h1,h2,h3.OA,h4,h5⟩
theorem Xf {cb:Nat}{bo:Option Addr}(h:w.ownsRow H 25 1 (.slice bo n cb) n xs)(hs:Sy w H xs Z)(hz:∀ s∈Z,s.length<=1099511627776)(hf:∀ i,H<=i->i<w.heap.size->ja base cs i):Tl w base cs bo Z:=by
 refine ⟨fun i hi=>?_⟩;have hl:xs.length=n:=by have:=h.1;simpa using this
 have hl2:=hs.len;rcases h.2 with ⟨e,h0⟩ | ⟨g,cap,cur,e,_⟩
 ·omega
 ·injection e with e1
  subst e1;obtain ⟨g2,H2,k0,k1,k2⟩:=hs.el i hi;have b1:=h.lt g rfl;have b2:=k2.lt g2 rfl;have hzl:=hz _ (OB hi);exact ⟨g,0,_,_,_,rfl,by rw [Nat.zero_add,h.cellAt i (by omega)];exact k1,⟨ai.aP k2,fun ad e _=>by obtain rfl:=Option.some.inj e;exact hf g2 (by omega) b2.2⟩,Nat.le_refl _,by omega,hf g b1.1 b1.2⟩
def kZ (w:World)(base:Nat)(cs:Nat->Value)(s:au)(y:Value):Prop:=∃ ao bo cb zs,s.v=.slice ao s.n s.c/\y=.slice bo s.n cb/\Tb w base cs ao s.n s.c zs/\Tb w base cs bo s.n cb zs
def oN (w:World)(base:Nat)(cs:Nat->Value)(s:au)(y:Value):Prop:=∃ ao bo cb,∃ Z:List (List Int),s.v=.slice ao s.n s.c/\y=.slice bo s.n cb/\Tl w base cs ao Z/\Tl w base cs bo Z/\(∀ z∈Z,Bt z)/\Z.length=s.n
theorem kZ.cE (k:Kee w w' base cs cs'):∀ s y,kZ w base cs s y->kZ w' base cs' s y:=by
 rintro s y ⟨ao,bo,cb,zs,h1,h2,h3,h4⟩;exact ⟨ao,bo,cb,zs,h1,h2,h3.cE k,h4.cE k⟩
theorem oN.cE (k:Kee w w' base cs cs'):∀ s y,oN w base cs s y->oN w' base cs' s y:=by
 rintro s y ⟨ao,bo,cb,zs,h1,h2,h3,h4,h5⟩;exact ⟨ao,bo,cb,zs,h1,h2,h3.cE k,h4.cE k,h5⟩
theorem mo.row' {row:Option Nat}(h:mo w t g)(hg:w.grownBy w' row)(hne:some g≠row):mo w' t g:=by
 have hl:=h.lt;obtain ⟨cur,fr,h⟩:=h;exact ⟨cur,fr,(hg.block g hl hne).trans h⟩
theorem gV (h:w.ownsRow H t W v n xs):∃ bo cb,v=.slice bo n cb:=by
 rcases h.2 with ⟨rfl,h0⟩ | ⟨g,cap,cur,rfl,_⟩
 ·exact ⟨none,0,by rw [h0]⟩
 ·exact ⟨_,cap,rfl⟩
structure Ho (w:World)(base:Nat)(cs:Nat->Value)(W:Nat)(et:TypeId)(s:au):Prop where
 ok:s.Ok W
 th:s.fq w
 n:s.n<=1099511620000
 bl:mo w et s.g
 fr:ja base cs s.g
theorem Ho.cE {et:TypeId}{s:au}(h:Ho w base cs W et s)(k:Kee w w' base cs cs'):Ho w' base cs' W et s :=
 ⟨h.ok,k.there h.th h.fr,h.n,h.bl.cE k h.fr,(k.block s.g h.bl.lt h.fr).2⟩
def rh (v:Value)(g:Nat):au:=⟨v,g,0,0,0,0,0⟩
theorem uY (ao:Option Addr)(g W:Nat):(rh (.slice ao 0 0) g).Ok W:=⟨Nat.le_refl _,by simp [rh],by simp [rh],by simp [rh],by simp [rh],ao,rfl,fun h=>by simp [rh] at h⟩
theorem jb (v:Value)(g:Nat)(w:World):(rh v g).fq w:=fun j hj=>by simp [rh] at hj
theorem jc (v:Value)(g:Nat)(t:au):t.bR (rh v g):=fun i j _ hj=>by simp [rh] at hj
theorem lc {q g1 n1 c1 g4 n4 c4 lo hi:Nat}(hT:Sl w B base cz)(hlo:w.heap.size<=lo)(h1:g1<lo)(h4:g4<lo∨hi<=g4)(hb:lo<=b)(hb2:b<hi):ja base (dr (dr cz q (.slice (some ⟨g1,0,none⟩) n1 c1)) (q+1) (.slice (some ⟨g4,0,none⟩) n4 c4)) b:=by
 refine ⟨by have:=hT.bB.2;omega,fun p hp e=>?_⟩
 by_cases e2:p=q+1
 ·subst e2
  rw [fw] at e;have e':g4=b:=Option.some.inj e;omega
 ·by_cases e3:p=q
  ·subst e3
   rw [bT _ _ e2,fw] at e;have e':g1=b:=Option.some.inj e;omega
  ·rw [bT _ _ e2,bT _ _ e3] at e
   have:=(hT.bk p hp b e).2;omega
theorem zi:(Tryz.prog.info? 25).map (fun i=>(i.zero,i.size,i.bytes))=some (some (.slice none 0 0),1,24):=by kernel_rfl
theorem jd {kd:Nat->eP}{aM:Nat->World->Nat->(Nat->Value)->au->Value->Prop}(hK:Ku kd aM){LL:Nat->List au}{YY:Nat->List Value}(h:gU kd aM wr B base cz LL YY)(ek:kd 0=gS)(es:aM 0=kZ)(a:Option Addr)(n cap:Nat)(zs:List Int)(htn:Tb wr base cz a n cap zs)(hn:n<=1099511620000)(hm:(LL 0).length<=1000000) :
  Calls Tryz.prog 14 #[.pointer (some ⟨B,0,none⟩),.slice a n cap] wr fun en w'=>en=.returned (.tuple #[])/\∃ cs' y,pF wr w' B base cz cs'/\(∀ s:au,s.v=.slice a n cap->s.n=n->s.c=cap->Ho wr base cz (kd 0).W (kd 0).et s->(∀ t∈LL 0,t.bR s)->gU kd aM w' B base cs' (bI LL 0 [s]) (CK YY 0 [y]))/\(n=0->cap=0->∃ s,wr.heap.size<=s.g/\s.C=0/\gU kd aM w' B base cs' (bI LL 0 [s]) (CK YY 0 [y])):=by
 obtain ⟨i0,hi,hz0,hz1,hz2⟩:=info_parts zi;have HT:=hJ h;have Vd:=hJ htn;have Sr:=hm;clear h htn hm;go_enter Tryz.func14,Tryz.ntmps14;have HX:=hJ HT.out.t.box;have Hp:Hid (wr.ownsRow base 25 1 (cz 2) (LL 0).length ((LL 0).map au.v)):=by have:=(HT.out.k 0 (by omega)).ob;rw [ek] at this;exact this
 have HOW:Hid (wr.ownsRow base 25 1 (cz 3) (LL 0).length (YY 0)):=by have:=(HT.out.k 0 (by omega)).ow;rw [ek] at this;exact this
 have qF:=HT.out.t.qj 2 (by omega);have qi:=HT.out.t.qj 3 (by omega);have hbase:=HT.out.t.bB.2;have qZ:=HT.out.t.bB.1;have wL:∀ i,(cz 2).ownBlock=some i->(cz 3).ownBlock≠some i:=HT.out.t.un 2 3 (by omega) (by omega) (by omega);have Ss:=hJ wL;have k2:=HX.out.cell 2 (by omega);obtain ⟨LJ,zj⟩:∃ LJ,LJ=LL 0:=⟨_,rfl⟩;obtain ⟨YJ,zk⟩:∃ YJ,YJ=YY 0:=⟨_,rfl⟩;rw [<- zj] at Hp HOW Sr;rw [<- zk] at HOW;have Sw:=hJ zj;have Sz:=hJ zk;clear zj zk
 go_wp2_with (at_builtin;refine wpList_append_lies _ rfl _ _ 23 rfl base 25 i0 (.slice none 0 0) 1 24 Tryz.underlying23 hi hz0 hz1 hz2 rfl (by decide) (cz 2) LJ.length (LJ.map au.v) rfl (Hp.out.alloc _) ⟨wr.heap.size,0,none⟩ 1 1 [.slice a n cap] rfl rfl (cell_one_new _ _ _) (by intro u hu;simp at hu;subst hu;rfl) (by omega) (by unfold maxLen;omega) (by omega) (by simp;omega) (wr.heap.size+1) (by simp) ?_)
 intro g1 c1 w1 hown1 hg1 dI iZ;have X1:Hid (uU w1 B cz):=(HX.out.kept (World.grownBy_alloc _ _ none) (by simp)).kept hg1 (Ne.symm qF);have X2:Hid (uU (w1.setCell ⟨B,2,none⟩ (.slice (some ⟨g1,0,none⟩) (LJ.length+1) c1)) B (dr cz 2 (.slice (some ⟨g1,0,none⟩) (LJ.length+1) c1))):=X1.out.set 2 (by omega) _;have QE:=X1.out.cell 2 (by omega);have f2':=X1.out.fz 2 (by omega);have qH:(w1.setCell ⟨B,2,none⟩ (.slice (some ⟨g1,0,none⟩) (LJ.length+1) c1)).cell? ⟨B,3,none⟩=some (cz 3):=(X2.out.cell 3 (by omega)).trans (by rw [bT _ _ (by omega)]);have f3':=X2.out.fz 3 (by omega);have H1:=hJ hown1;have bj:=hJ hg1;clear hown1 hg1;go_wp2;obtain ⟨w2,hw2⟩:∃ w2,w2=w1.setCell ⟨B,2,none⟩ (.slice (some ⟨g1,0,none⟩) (LJ.length+1) c1):=⟨_,rfl⟩;rw [<- hw2] at X2 qH f3' ⊢;have Hq:=hJ hw2;clear hw2;have kK:w2.heap.size=w1.heap.size:=by rw [Hq.out];simp
 have Oy:wr.heap.size<w1.heap.size:=by have:=bj.out.size;simp at this;omega
 have fx:w1.grownBy w2 (some B):=by rw [Hq.out];exact aA _ _ _ _
 have SA:Hid (Kee wr w2 base cz cz):=⟨by omega,fun d hd hf=>⟨(fx.block d (by omega) (fun e=>by have:=hf.1;have:=Option.some.inj e;omega)).trans ((bj.out.block d (by simp;omega) (fun e=>hf.2 2 (by omega) e.symm)).trans ((World.grownBy_alloc wr _ none).block d hd (by simp))),hf⟩⟩;have Y2:Hid (∀ w':World,w'.heap=w2.heap->ai w' a n cap zs):=fun w' e=>(Vd.out.cE SA.out).OA.heap e
 have O2:Hid (w2.ownsRow base 25 1 (cz 3) LJ.length YJ) :=
  (((HOW.out.alloc _).kept bj.out (by
   cases mX:(cz 3).ownBlock with
   | none=>exact Or.inl rfl
   | some i=>exact Or.inr (fun e=>wL i e.symm mX))).kept fx (Or.inr qi))
 have P2:Hid (w2.ownsRow base 25 1 (.slice (some ⟨g1,0,none⟩) (LJ.length+1) c1) (LJ.length+1) (LJ.map au.v++[.slice a n cap])) :=
  H1.out.kept fx (Or.inr (fun e=>by
   have e':g1=B:=Option.some.inj e;have:=HX.out.lt;rcases dI with h | h
   ·exact qF (by rw [h,e'])
   ·omega))
 have zl:=hJ fx;clear fx;have oO:=hJ kK;have hb2:base<=w2.heap.size:=by omega
 have SC:=hJ (fun i e=>(HOW.out.lt i e).2:∀ i,(cz 3).ownBlock=some i->i<wr.heap.size);clear kK;generalize mX:cz 3=vw at *
 go_region_law
  ((first
   | (go_simp;go_at_call 9;refine (bq a n cap zs _ (by exact Y2.out _ rfl) (by omega)).mono ?_;rintro en w3 ⟨rfl,lZ,hg3,hs3⟩;have jy:w3.cell? ⟨B,3,none⟩=some vw:=hg3.cell (by simpa using qH) (by simp);have nn3:=World.new_ne w3 ⟨B,3,none⟩ jy;have SD:∀ o:Obj,(w3.alloc o).cell? ⟨B,3,none⟩=some vw:=(fun o=>by rw [World.cell?_alloc_lt _ _ _ (World.block_lt_of_cell? _ _ jy)];exact jy);have SE:w3.frozen? ⟨B,3,none⟩=false:=(hg3.frozen_far ⟨B,3,none⟩ (by simpa using World.block_lt_of_cell? _ _ qH) (by simp)).trans (by simpa using f3'))
   | (refine step_append_lies _ (by rfl) _ _ _ (by rfl) base 25 i0 (.slice none 0 0) 1 24 Tryz.underlying23 hi hz0 hz1 hz2 (by rfl) (by decide) vw LJ.length YJ (by rfl) (by exact ((O2.out.kept ((Qt.refl w2).drew.grown none) (by cases vw.ownBlock <;> simp)).kept hg3 (by cases vw.ownBlock <;> simp)).alloc _) ⟨w3.heap.size,0,none⟩ 1 1 [.slice (some ⟨w2.heap.size,0,none⟩) n n] (by rfl) (by rfl) (by exact cell_one_new _ _ _) (by intro u hu;simp at hu;subst hu;rfl) (by omega) (by unfold maxLen;omega) (by omega) (by have h9:=hg3.size;simp at h9;simp;omega) (w3.heap.size+1) (by simp) ?_;intro g4 c4 w4 fS hg4 jO ED;have kk4:w4.cell? ⟨B,3,none⟩=some vw:=hg4.cell (by rw [World.cell?_alloc_lt _ _ _ (World.block_lt_of_cell? _ _ jy)];exact jy) (Ne.symm qi);have ff4:w4.frozen? ⟨B,3,none⟩=false:=(hg4.frozen_far ⟨B,3,none⟩ (by have:=World.block_lt_of_cell? _ _ jy;simp at this ⊢;omega) (Ne.symm qi)).trans ((World.frozen?_of_block ((World.grownBy_alloc w3 _ none).block B (World.block_lt_of_cell? _ _ jy) (by simp))).trans SE))))
 all_goals
  refine Go.Great.bodyPost_end0 rfl rfl ?_;subst mX;have zm:w2.heap.size<=w3.heap.size:=by have:=hg3.size;simpa using this
  have fu:=aA w4 B 3 (.slice (some ⟨g4,0,none⟩) (LJ.length+1) c4);have SF:=Fi.make (q:=2) (by omega) HX.out.lt HOW.out qF qi Ss.out bj.out dI iZ zl.out oO.out X2.out P2.out hg3 zm fS hg4 jO;have hBl:=HX.out.lt;have hS:=oO.out;have zn:=SC.out;have zo:Fi (kd 0).lt 2 wr (w4.setCell ⟨B,3,none⟩ (.slice (some ⟨g4,0,none⟩) (LJ.length+1) c4)) B cz base (LL 0).length ((LL 0).map au.v) (YY 0) (.slice a n cap) (.slice (some ⟨w2.heap.size,0,none⟩) n n) (.slice (some ⟨g1,0,none⟩) (LJ.length+1) c1) (.slice (some ⟨g4,0,none⟩) (LJ.length+1) c4):=by rw [<- Sw.out,<- Sz.out,ek];exact SF
  obtain ⟨s1,s2,s3⟩:=HT.out.snoc hK 0 2 (by omega) (by rw [ek];rfl) zo
  have zq:g4<w2.heap.size∨w3.heap.size<=g4:=by
   rcases jO with h | h
   ·exact Or.inl (by have:=zn g4 h;omega)
   ·exact Or.inr (by omega)
  have FC:∀ b,w2.heap.size<=b->b<w3.heap.size->ja base (dr (dr cz 2 (.slice (some ⟨g1,0,none⟩) (LJ.length+1) c1)) (2+1) (.slice (some ⟨g4,0,none⟩) (LJ.length+1) c4)) b:=fun b h1 h2=>lc HT.out.t (lo:=w2.heap.size) (hi:=w3.heap.size) (by omega) (by omega) zq h1 h2
  have KO:∀ {H W:Nat} {t:TypeId} {v:Value} {m:Nat} {xs:List Value},w3.ownsRow H t W v m xs->w2.heap.size<=H->(w4.setCell ⟨B,3,none⟩ (.slice (some ⟨g4,0,none⟩) (LJ.length+1) c4)).ownsRow H t W v m xs:=fun {H W t v m xs} ho hH=>by
   have hne:∀ i,v.ownBlock=some i->w2.heap.size<=i:=fun i e=>by have:=(ho.lt i e).1;omega
   have h5:=(ho.alloc (.cells #[.slice (some ⟨w2.heap.size,0,none⟩) n n] 25)).kept hg4 (by
    cases hv:v.ownBlock with
    | none=>exact Or.inl rfl
    | some i=>exact Or.inr (fun e=>by have:=hne i hv;have:=zn i e.symm;omega))
   exact h5.kept fu (by
    cases hv:v.ownBlock with
    | none=>exact Or.inl rfl
    | some i=>exact Or.inr (fun e=>by have:=hne i hv;have:=Option.some.inj e;omega))
  have SM:(∀ (s:au),s.v=.slice a n cap->s.n=n->s.c=cap->aM 0 (w4.setCell ⟨B,3,none⟩ (.slice (some ⟨g4,0,none⟩) (LJ.length+1) c4)) base (dr (dr cz 2 (.slice (some ⟨g1,0,none⟩) (LJ.length+1) c1)) (2+1) (.slice (some ⟨g4,0,none⟩) (LJ.length+1) c4)) s (.slice (some ⟨w2.heap.size,0,none⟩) n n)):=fun s e1 e2 e3=>by
   subst e2 e3;rw [es];exact ⟨a,_,_,zs,e1,rfl,Vd.out.cE s2.toKee,⟨ai.aP (KO lZ (Nat.le_refl _)),fun ad e _=>by obtain rfl:=Option.some.inj e;have:=lZ.lt _ rfl;exact FC _ this.1 this.2⟩⟩
  refine ⟨rfl,_,_,s2,fun s e1 e2 e3 hr hap=>s3 s e1 hr.ok (s2.toKee.there hr.th hr.fr) hr.n (hr.bl.cE s2.toKee hr.fr) (s2.block s.g hr.bl.lt hr.fr).2 hap (SM s e1 e2 e3),fun e1 e2=>⟨rh (.slice a n cap) w2.heap.size,by show _<=w2.heap.size;omega,rfl,?_⟩⟩;subst e1 e2;refine s3 (rh (.slice a 0 0) w2.heap.size) rfl (uY _ _ _) (jb _ _ _) (by simp [rh]) ?_ (FC _ (Nat.le_refl _) (by show w2.heap.size<w3.heap.size;simpa using hs3)) (fun t _=>jc _ _ _) (SM _ rfl rfl rfl);have Dz:mo w3 5 w2.heap.size:=fM lZ _ rfl;rw [ek];exact ((Dz.row' (World.grownBy_alloc _ _ none) (by simp)).row' hg4 (fun e=>by have:=zn _ e.symm;omega)).row' fu (fun e=>by have:=Option.some.inj e;omega)
end Go.Proofs.YtgldkdbkaachkaaGreatDoor
