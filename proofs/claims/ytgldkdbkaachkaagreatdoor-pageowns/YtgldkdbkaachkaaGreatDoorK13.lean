import Derived.Test.YtgldkdbkaachkaaGreatDoorK10
import Derived.Deep.AppendLies
set_option maxRecDepth 100000
set_option maxHeartbeats 8000000
namespace Go.Proofs.YtgldkdbkaachkaaGreatDoor
open Go.RowKit
theorem rQ (a:Option Addr)(n cap:Nat)(L:List It)(w:World)(hl:Il w a L)(hb:Ib L)(hn:L.length=n)(hm:n<=5000)(h:wrong L≠0) :
  Calls Tryz.prog 44 #[.slice a n cap] w fun en w'=>en=.returned (.tuple #[.slice none 0 0,.int .i64 (wrong L)])/\w.grownBy w' none:=by
 have HE:=hJ (fun (W:World) (hW:Il W a L)=>jo a n cap L W hW hb hn hm);generalize wrong L=e at *;have h1:¬ e=0:=h;go_enter Tryz.func44,Tryz.ntmps44
 go_wp2_with fail
 refine (HE.out _ hl).mono ?_;rintro en w1 ⟨rfl,hg⟩;have HG:=hJ hg;clear hg hl;go_wp2
 go_ret2
 exact ⟨rfl,HG.out⟩
theorem wC (a:Option Addr)(n cap:Nat)(L:List It)(w:World)(hl:Il w a L)(hb:Ib L)(hn:L.length=n)(hm:n<=5000)(h:wrong L=0)(hs:4092<size L) :
  Calls Tryz.prog 44 #[.slice a n cap] w fun en w'=>en=.returned (.tuple #[.slice none 0 0,.int .i64 42])/\w.grownBy w' none:=by
 obtain ⟨_,LF,_,_⟩:=bW h;have hk:∀ x∈L,x.key.length<=1000000:=fun x hx=>by have:=(cQ (LF x hx)).2.1;omega
 have HL:=hJ hl;go_enter Tryz.func44,Tryz.ntmps44
 go_wp2_with fail
 refine (jo a n cap L _ hl hb hn hm).mono ?_;rintro en w1 ⟨rfl,hg⟩;have HG:=hJ hg;clear hg hl;rw [h]
 go_wp2_with fail
 refine (qL a n cap L _ (HL.out.ae HG.out) hn hm hk).mono ?_;rintro en w2 ⟨rfl,hg⟩;have eu:=hJ (gQ HG.out (hg.qt.grown none));clear hg;generalize size L=s at *;go_wp2
 go_ret2
 exact ⟨rfl,eu.out⟩
theorem Ca {w wr w':World}(_h:w.grownBy wr none)(k:wr.grownBy w' none):wr.grownBy w' none:=k
def aa0:Value->Nat
 | .slice _ n _=>n
 | _=>0
theorem yH (a:Option Addr)(n cap:Nat)(L:List It)(w:World)(hl:Il w a L)(hb:Ib L)(hn:L.length=n)(hm:n<=5000)(h:wrong L=0)(hs:size L<=4092) :
  Calls Tryz.prog 44 #[.slice a n cap] w fun en w'=>∃ ao c,en=.returned (.tuple #[.slice ao 4092 c,.int .i64 0])/\ai w' ao 4092 c (body L)/\w.grownBy w' none:=by
 obtain ⟨i0,hi,hz0,hz1,hz2⟩:=info_parts bF;obtain ⟨Zu,LF,VO,VQ⟩:=bW h;have hk:∀ x∈L,x.key.length<=1000000:=fun x hx=>by have:=(cQ (LF x hx)).2.1;omega
 obtain ⟨tM,MH⟩:=nM h hs;have IR:L≠[]:=fun e=>Zu (by rw [e];rfl)
 have yc:=nK IR;have IQ:=hJ (Eb h hs);have HUL:Hid ((used L).length=size L):=tJ h;have HUE:Hid (used L=aZ L++(slots (pre L) (cst L) L++cells (pre L) L)):=rfl;have UJ:Hid (body L=used L++List.replicate (4092 - (used L).length) 0):=rfl;have vJ:=hJ (nL h hs);have wY:=hJ LF;have HWV:=hJ VO;have jp:=hJ hb;have PT:Hid (∀ x∈L,pre L<=x.key.length):=fun x hx=>(dw x hx).1
 have HL:=hJ hl;have QB:0<n:=by omega
 have IU:cst L=(aZ L).length+2*n:=by unfold cst;rw [hn]
 have UL:Hid (aZ L=([1]++lb 2 n)++ah (pre L)++(L.getD 0 aG).key.take (pre L)):=by
  show _=_
  unfold aZ;rw [hn];cases L with
  | nil=>exact absurd rfl IR
  | cons x T=>simp only [List.append_assoc];rfl
 have hb4:(aZ L).length+2*n<=4092:=by have:=IQ.out 0;omega
 have HCO:=hJ IU;have MI:=hJ yc;clear hl IU LF VO VQ Zu yc;go_enter Tryz.func44,Tryz.ntmps44
 go_wp2_with fail
 refine (jo a n cap L _ HL.out jp.out hn hm).mono ?_;rintro en w1 ⟨rfl,hg⟩;have G1:=hJ hg;clear hg;rw [h]
 go_wp2_with fail
 refine (qL a n cap L _ (HL.out.ae G1.out) hn hm hk).mono ?_;rintro en w2 ⟨rfl,hg⟩;have G2:=hJ (gQ G1.out (hg.qt.grown none));clear hg G1;obtain ⟨sz,hsz⟩:∃ sz,size L=sz:=⟨_,rfl⟩;rw [hsz] at hs HUL ⊢;clear hsz
 go_wp2_with fail
 refine (kJ a n cap L _ (HL.out.ae G2.out) hn hm).mono ?_;rintro en w3 ⟨rfl,hg⟩;have G3:=hJ (gQ G2.out (hg.qt.grown none));clear hg G2;obtain ⟨b,off,ao,n0,c0,bo,m0,d0,rfl,q2,q3,q4,q5,q6,q7,q8,q9,zY,DY⟩:=HL.out.row 0 (by omega);have hp0:=PT.out _ (cR (L:=L) (i:=0) (by omega));have xb:=q6.len;have hx0:=cQ (wY.out _ (cR (L:=L) (i:=0) (by omega)));obtain ⟨kb0,ko0,rfl,_,aa1⟩:=q6.at (by omega);rw [Nat.zero_mul,Nat.add_zero] at q2;have aa2:=(jp.out.at (i:=0) (by omega)).key;clear q3 q4 q5 q6 q9;have hvp:(ah (pre L)).length<=10:=eI _;have B3:=hJ (ai.lit w3 5 #[.int .u8 1] [1] 1 rfl rfl);have GL3:=hJ (World.grownBy_alloc w3 (.cells #[.int .u8 1] 5) none)
 go_wp2_with fail
 generalize w3.alloc (.cells #[.int .u8 1] 5)=w4 at *;generalize w3.heap.size=K3 at *;refine (dA _ 1 1 [1] n 2 _ B3.out (by omega) (by omega) (by omega)).mono ?_;rintro en w5 ⟨ao5,c5,rfl,Ut,aK,_⟩
 have B5:Hid (ai w5 ao5 3 c5 ([1]++lb 2 n)):=by
  obtain ⟨ca,cc,e,PI⟩:=aY Ut;injection e with e1 e2 e3
  subst e1 e3;exact PI
 have G5:=hJ (gQ (gQ G3.out GL3.out) aK);clear Ut aK B3 GL3 G3;generalize MK:pre L=p at *;have GC:=hJ MK;clear MK
 go_wp2_with fail
 refine (fT ao5 3 c5 _ p _ B5.out (by omega) (by omega)).mono ?_;rintro en w6 ⟨Uz,c6,rfl,Yi,bE,_⟩;obtain ⟨H3,hH3⟩:∃ H3,([1]++lb 2 n)++ah p=H3:=⟨_,rfl⟩;rw [hH3] at Yi;have hl3:3+(ah p).length=H3.length:=by rw [<- hH3];simp only [List.length_append,aL,List.length_cons,List.length_nil]
 have GB6:=hJ (Gb.put (w:=w) (n:=3+(ah p).length) hl3.symm Yi G5.out bE);rw [hH3] at UL;rw [hl3] at GB6 ⊢;have akO:H3.length<=13:=by omega
 clear Yi bE B5 G5 hH3 hl3;go_wp2;go_loopw [7,8] (fun so si wr=>∃ (i base:Nat),i<=p/\si=.int .i64 i/\Gb w wr base so (H3++(L.getD 0 aG).key.take i)) (fun _ si _=>p - (intOf si).toNat)
 case atStart=>exact ⟨0,_,Nat.zero_le _,rfl,by rw [List.take_zero,List.append_nil];exact GB6.out⟩
 case round =>
  obtain ⟨i,base,jN,rfl,hgb⟩:=hrel;have dF:=hJ hgb;clear hgb GB6
  by_cases hlt:i<p
  ·have cq:=dF.out.gr.cell q2 (by simp)
   have ck:=dF.out.gr.cell (aa1 i (by omega)) (by simp);have vI:=lD (zs:=(L.getD 0 aG).key) (i:=i) (by omega);have hz:=aa2.getD i;generalize (L.getD 0 aG).key.getD i 0=z at *;obtain ⟨Z,hZ⟩:∃ Z,H3++(L.getD 0 aG).key.take i=Z:=⟨_,rfl⟩;have HN:Hid (H3++(L.getD 0 aG).key.take (i+1)=Z++[z]):=by show _=_;rw [vI,<- hZ,List.append_assoc]
   have hzl:Z.length<=300:=by rw [<- hZ,List.length_append,List.length_take];omega
   rw [hZ] at dF;clear hZ vI;have hle:=dF.out.le.2
   go_wp2_with (at_builtin;refine aq rfl _ _ rfl base _ Z.length Z rfl (dF.out.own.alloc _) (some ⟨wr.heap.size,0,none⟩) 1 1 [z] rfl (ai.lit wr 5 _ [z] 1 rfl rfl) (by omega) (by simp;omega) ?_)
   intro v' w7 Dj cG;have Rn:=hJ (dF.out.app _ (by simpa using Dj) cG);clear Dj cG dF cq ck;go_wp2;go_roundw
   case rel=>exact ⟨i+1,base,by omega,by go_num,by rw [HN.out];exact Rn.out⟩
   case measure=>simp [intOf];omega
  ·have hin:p=i:=by omega
   subst hin;rw [<- UL.out] at dF;clear aa1 aa2 q2 UL;obtain ⟨ca0,cc0,e0,_⟩:=dF.out.AL;subst e0;go_wp2;go_loopw [7,9,10,11] (fun so sat si _ wr=>∃ (i base:Nat),i<=n/\si=.int .i64 i/\sat=.int .i64 ((cst L+(cells p (L.take i)).length:Nat):Int)/\Gb w wr base so (aZ L++slots p (cst L) (L.take i))) (fun _ _ si _ _=>n - (intOf si).toNat)
   case atStart=>exact ⟨0,base,Nat.zero_le _,rfl,by have:=HCO.out;simp [cells,this],by rw [List.take_zero,slots,List.append_nil];exact dF.out⟩
   case round =>
    obtain ⟨i,base,jN,rfl,rfl,hgb⟩:=hrel;have dF:=hJ hgb;clear hgb
    by_cases BF:i<n
    ·have xa:=IQ.out (i+1)
     have lT:=fH p L i (by omega);rw [lT,List.length_append] at xa;have yy:=hJ (mH p L (cst L) i (by omega))
     have Eg:Hid ((cells p (L.take (i+1))).length=(cells p (L.take i)).length+(cb p (L.getD i aG)).length):=by
      show _=_
      rw [lT,List.length_append]
     obtain ⟨At,hAt⟩:∃ At,cst L+(cells p (L.take i)).length=At:=⟨_,rfl⟩;rw [hAt] at yy ⊢;have QC:=hJ hAt;have ae2:At+(cb p (L.getD i aG)).length<=4092:=by omega
     have El:=cx p (L.take i) (cst L);rw [List.length_take] at El;obtain ⟨ca,cc,e9,hbz⟩:=dF.out.AL;have aa3:=dF.out.gr;have HGr:=hJ aa3;obtain ⟨Z,hZ⟩:∃ Z,aZ L++slots p (cst L) (L.take i)=Z:=⟨_,rfl⟩;have hzl:Z.length<=5000:=by rw [<- hZ,List.length_append,El];omega
     have HZ:Hid (aZ L++slots p (cst L) (L.take (i+1))=Z++lb 2 At):=by show _=_;rw [yy.out,<- hZ,List.append_assoc]
     rw [hZ] at e9 hbz;subst e9;have BZ:=hJ hbz;clear hbz dF hZ lT xa yy aa3 El hAt
     go_wp2_with fail
     refine (dA ca Z.length cc Z At 2 _ BZ.out (by omega) (by omega) (by omega)).mono ?_;rintro en w7 ⟨ao7,c7,rfl,Dj,cG,_⟩;have Rn:=hJ (Gb.put (w:=w) (n:=Z.length+2) (by rw [List.length_append,aL]) Dj HGr.out cG);have JF:=Rn.out.gr;have Ym:=hJ JF;clear Dj cG BZ HGr;obtain ⟨b'',aa4,eX,m,c',sH,m2,d2,e1,r2,r3,r4,r5,r6,r7,r8,r9,Zs,Zt⟩:=HL.out.row i (by omega);simp only [Option.some.injEq,Addr.mk.injEq] at e1;obtain ⟨rfl,rfl,_⟩:=e1;have hx:=cR (L:=L) (i:=i) (by omega);have u0:=JF.cell r2 (by simp);have u1:=JF.cell r3 (by simp);have u2:=JF.cell r4 (by simp);have u3:=JF.cell r5 (by simp);have hpm:p<=m:=by have:=PT.out _ hx;have:=r6.len;omega
     have uw:=hJ (fun (W:World) (hW:w.grownBy W none)=>qM eX m c' sH m2 d2 (L.getD i aG).size (L.getD i aG).first p (L.getD i aG) W (r6.ae hW) (r9.ae hW) rfl rfl (wY.out _ hx) (HWV.out _ hx) (jp.out _ hx) hpm);clear r2 r3 r4 r5 r6 r9;clear JF;generalize (L.getD i aG).size=sz2 at *;generalize (L.getD i aG).first=fs at *
     obtain ⟨LC,hLC⟩:∃ LC,(cb p (L.getD i aG)).length=LC:=⟨_,rfl⟩;rw [hLC] at uw Eg ae2;clear hLC hx;have g0:(0:Int)<=(i:Int):=by omega
     have g1:(i:Int)<(n:Int):=by omega
     go_wp2_with fail
     refine (uw.out _ Ym.out).mono ?_;rintro en w8 ⟨UN,c8,rfl,_,bU,_⟩;have GB8:=hJ (Rn.out.ae (Ca Ym.out bU));clear bU Rn Ym uw u0 u1 u2 u3;go_wp2;go_roundw
     case rel=>exact ⟨i+1,_,by omega,by go_num,by rw [Eg.out,<- Nat.add_assoc,QC.out];go_num,by rw [HZ.out];exact (by simpa using GB8.out)⟩
     case measure=>simp [intOf];omega
    ·have hin:n=i:=by omega
     subst hin;rw [show L.take n=L by rw [<- hn,List.take_length]] at dF ⊢;obtain ⟨A9,h9⟩:∃ A9,cst L+(cells p L).length=A9:=⟨_,rfl⟩;rw [h9];clear h9;go_wp2;go_loopw [7,12,13,14] (fun so si _ _ wr=>∃ (j base:Nat),j<=n/\si=.int .i64 j/\Gb w wr base so (aZ L++(slots p (cst L) L++cells p (L.take j)))) (fun _ si _ _ _=>n - (intOf si).toNat)
     case atStart=>exact ⟨0,base,Nat.zero_le _,rfl,by rw [List.take_zero,cells,List.append_nil];exact dF.out⟩
     case round =>
      obtain ⟨j,base,EC,rfl,hgb⟩:=hrel;have dF:=hJ hgb;clear hgb
      by_cases ad8:j<n
      ·obtain ⟨b'',aa4,eX,m,c',sH,m2,d2,e1,r2,r3,r4,r5,r6,r7,r8,r9,Zs,Zt⟩:=HL.out.row j (by omega)
       simp only [Option.some.injEq,Addr.mk.injEq] at e1;obtain ⟨rfl,rfl,_⟩:=e1;have hx:=cR (L:=L) (i:=j) (by omega);have JF:=dF.out.gr;have Ym:=hJ JF;have u0:=JF.cell r2 (by simp);have u1:=JF.cell r3 (by simp);have u2:=JF.cell r4 (by simp);have u3:=JF.cell r5 (by simp);have hpm:p<=m:=by have:=PT.out _ hx;have:=r6.len;omega
       have uw:=hJ (fun (W:World) (hW:w.grownBy W none)=>qM eX m c' sH m2 d2 (L.getD j aG).size (L.getD j aG).first p (L.getD j aG) W (r6.ae hW) (r9.ae hW) rfl rfl (wY.out _ hx) (HWV.out _ hx) (jp.out _ hx) hpm);have aa5:=hJ (Uj p (jp.out _ hx));clear r2 r3 r4 r5 r6 r9 JF;have xa:=IQ.out (j+1);have lT:=fH p L j (by omega);rw [lT,List.length_append] at xa;have El:=cx p L (cst L);obtain ⟨Z,hZ⟩:∃ Z,aZ L++(slots p (cst L) L++cells p (L.take j))=Z:=⟨_,rfl⟩;obtain ⟨X,hX⟩:∃ X,cb p (L.getD j aG)=X:=⟨_,rfl⟩;have HZN:Hid (aZ L++(slots p (cst L) L++cells p (L.take (j+1)))=Z++X):=by show _=_;rw [lT,<- hZ,<- hX];simp only [List.append_assoc]
       have hzl:Z.length+X.length<=5000:=by
        rw [<- hZ,<- hX];simp only [List.length_append,El];have:=HCO.out;omega
       rw [hZ] at dF;rw [hX] at uw aa5;clear hZ lT xa El hx;generalize (L.getD j aG).size=sz2 at *;generalize (L.getD j aG).first=fs at *
       clear hX;have g0:(0:Int)<=(j:Int):=by omega
       have g1:(j:Int)<(n:Int):=by omega
       go_wp2_with fail
       refine (uw.out _ Ym.out).mono ?_;rintro en w8 ⟨UN,c8,rfl,ig,bU,hn8⟩;have GB8:=hJ (dF.out.ae bU);have X8:=hJ ig
       have N8:Hid (∀ g,u7.ownBlock=some g->∀ ad,UN=some ad->g≠ad.block):=by
        intro g e ad ea;have h1:=(dF.out.own.lt g e).2;have h2:=hn8 ad ea;omega
       clear ig bU hn8 dF Ym uw u0 u1 u2 u3;go_wp2;go_loopw [7,14] (fun so sk wr=>∃ (k base:Nat),k<=X.length/\sk=.int .i64 k/\Gb w wr base so (Z++X.take k)/\ai wr UN X.length c8 X/\(∀ g,so.ownBlock=some g->∀ ad,UN=some ad->g≠ad.block)) (fun _ sk _=>X.length - (intOf sk).toNat)
       case atStart=>exact ⟨0,base,Nat.zero_le _,rfl,by rw [List.take_zero,List.append_nil];exact GB8.out,X8.out,N8.out⟩
       case round =>
        obtain ⟨k,base,Df,rfl,hgb,qR,hnx⟩:=hrel;have dF:=hJ hgb;have HBX:=hJ qR;have NU:=hJ hnx;clear hgb qR hnx GB8 X8 N8
        by_cases ED:k<X.length
        ·obtain ⟨vb,vo,rfl,dZ,hvc⟩:=HBX.out.at (by omega)
         have cv:=hvc k ED;have vI:=lD (zs:=X) (i:=k) ED;have hz:=aa5.out.getD k;generalize X.getD k 0=z at *;obtain ⟨Y,hY⟩:∃ Y,Z++X.take k=Y:=⟨_,rfl⟩;have HN:Hid (Z++X.take (k+1)=Y++[z]):=by show _=_;rw [vI,<- hY,List.append_assoc]
         have Uu:Y.length<=5000:=by rw [<- hY,List.length_append,List.length_take];omega
         rw [hY] at dF;clear hY vI hvc;have hle:=dF.out.le.2
         go_wp2_with (at_builtin;refine wpList_append_lies _ rfl _ _ 25 rfl base 5 i0 (.int .u8 0) 1 1 Tryz.underlying25 hi hz0 hz1 hz2 rfl (by decide) _ Y.length (Y.map (Value.int .u8)) rfl (dF.out.own.alloc _) ⟨wr.heap.size,0,none⟩ 1 1 [.int .u8 z] rfl rfl (cell_one_new _ _ _) (by intro u hu;simp at hu;subst hu;rfl) (by omega) (by unfold maxLen;omega) (by omega) (by simp;omega) (wr.heap.size+1) (by simp) ?_)
         intro g10 c10 fI rP aW UO aa6;have ae6:=hJ (dF.out.app _ (by rw [List.map_append];exact rP) aW);have ae7:=hJ ((HBX.out.ae (World.grownBy_alloc wr _ none)).kept aW (fun ad e hp e2=>NU.out ad.block e2.symm ad e rfl))
         have ae8:Hid (∀ g,(Value.slice (some ⟨g10,0,none⟩) (Y.length+1) c10).ownBlock=some g->∀ ad,(some ⟨vb,vo,none⟩:Option Addr)=some ad->g≠ad.block):=by
          intro g e ad ea;obtain rfl:g10=g:=Option.some.inj e;rcases UO with h9 | h9
          ·exact NU.out _ h9 ad ea
          ·obtain rfl:=Option.some.inj ea
           simp only;omega
         clear rP aW UO aa6 dF HBX NU cv;go_wp2;go_roundw
         case rel=>exact ⟨k+1,base,by omega,by go_num,by rw [HN.out];exact ae6.out,ae7.out,ae8.out⟩
         case measure=>simp [intOf];omega
        ·have hkX:k=X.length:=by omega
         subst hkX;rw [List.take_length,<- HZN.out] at dF;go_wp2;go_roundw
         case rel=>exact ⟨j+1,base,by omega,by go_num,dF.out⟩
         case measure=>simp [intOf];omega
      ·have ue:n=j:=by omega
       subst ue;rw [show L.take n=L by rw [<- hn,List.take_length]] at dF;rw [<- HUE.out] at dF;obtain ⟨ca1,cc1,e1,_⟩:=dF.out.AL;subst e1;go_wp2;go_loopw [7] (fun so wr=>∃ (k base:Nat),(used L).length+k<=4092/\Gb w wr base so (used L++List.replicate k 0)) (fun so _=>4092 - aa0 so)
       case atStart=>exact ⟨0,base,by have:=HUL.out;omega,by rw [List.replicate_zero,List.append_nil];exact dF.out⟩
       case round =>
        obtain ⟨k,base,Df,hgb⟩:=hrel;have dF:=hJ hgb;obtain ⟨ca2,cc2,e2,hb2⟩:=hgb.AL;have LI:=hJ hb2;have HLn:Hid ((used L++List.replicate k (0:Int)).length=(used L).length+k):=by show _=_;rw [List.length_append,List.length_replicate]
        have HN:Hid (used L++List.replicate (k+1) 0=(used L++List.replicate k 0)++[0]):=by show _=_;rw [List.replicate_succ',List.append_assoc]
        have HFE:Hid ((used L).length+k=4092->used L++List.replicate k 0=body L):=fun e=>by rw [UJ.out,show 4092 - (used L).length=k by omega]
        subst e2;clear hgb hb2;obtain ⟨Y,hY⟩:∃ Y,used L++List.replicate k (0:Int)=Y:=⟨_,rfl⟩;rw [hY] at dF LI HLn HN HFE ⊢;clear hY;obtain ⟨yl,Uu⟩:∃ yl,Y.length=yl:=⟨_,rfl⟩;have hyb:yl<=4092:=by have:=HLn.out;omega
        have hyk:(used L).length+k=yl:=by have:=HLn.out;omega
        rw [Uu] at LI ⊢;have HYL:=hJ Uu;have HYK:=hJ hyk
        have HO:Hid (wr.ownsRow base 5 1 (.slice ca2 yl cc2) yl (Y.map (Value.int .u8))):=by
         have:=dF.out.own;rw [Uu] at this;exact this
        clear Uu hyk;have hle:=dF.out.le.2
        by_cases akT:yl<4092
        ·go_wp2_with (at_builtin;refine aq rfl _ _ rfl base _ yl Y rfl (HO.out.alloc _) (some ⟨wr.heap.size,0,none⟩) 1 1 [0] rfl (ai.lit wr 5 _ [0] 1 rfl rfl) (by omega) (by simp;omega) ?_)
         intro v' w7 Dj cG;have aa7:w7.ownsRow base 5 1 v' (Y.length+1) ((Y++[0]).map (Value.int .u8)):=by rw [HYL.out];simpa using Dj
         have Wz:=dF.out;rw [HYL.out] at Wz;have Rn:=hJ (Wz.app _ aa7 cG);obtain ⟨ca7,cc7,e7,_⟩:=Rn.out.AL;subst e7;clear Dj aa7 cG Wz dF HO LI;rw [List.length_append,HYL.out] at Rn ⊢;go_wp2;go_roundw
         case rel=>exact ⟨k+1,base,by have:=HYK.out;omega,by rw [HN.out];exact (by simpa using Rn.out)⟩
         case measure=>simp [aa0];omega
        ·have QA:yl=4092:=by omega
         subst QA;have e8:=HFE.out HYK.out;rw [e8] at LI;have G8:=hJ dF.out.gr;clear dF HO e8;go_wp2
         go_ret2
         exact ⟨_,_,rfl,LI.out,G8.out⟩
theorem wD (a:Option Addr)(n cap:Nat)(L:List It)(w:World)(hl:Il w a L)(hb:Ib L)(hn:L.length=n)(hm:n<=5000) :
  Calls Tryz.prog 44 #[.slice a n cap] w fun en w'=>(∃ ao k c,en=.returned (.tuple #[.slice ao k c,.int .i64 (enc L).2])/\ai w' ao k c (enc L).1/\k<=4092)/\w.grownBy w' none:=by
 by_cases h:wrong L=0
 ·by_cases hs:size L<=4092
  ·refine (yH a n cap L w hl hb hn hm h hs).mono ?_
   rintro en w' ⟨ao,c,rfl,h1,h2⟩;have e:enc L=(body L,0):=by unfold enc;rw [if_pos h,if_pos hs]
   rw [e];exact ⟨⟨_,_,_,rfl,h1,Nat.le_refl _⟩,h2⟩
  ·refine (wC a n cap L w hl hb hn hm h (by omega)).mono ?_
   rintro en w' ⟨rfl,h2⟩;have e:enc L=([],42):=by unfold enc;rw [if_pos h,if_neg hs]
   rw [e];exact ⟨⟨_,_,_,rfl,ai.empty _,by omega⟩,h2⟩
 ·refine (rQ a n cap L w hl hb hn hm h).mono ?_
  rintro en w' ⟨rfl,h2⟩;have e:enc L=([],wrong L):=by unfold enc;rw [if_neg h]
  rw [e];exact ⟨⟨_,_,_,rfl,ai.empty _,by omega⟩,h2⟩
end Go.Proofs.YtgldkdbkaachkaaGreatDoor
