import Derived.Test.YtgldkdbkaachkaaGreatDoorK21
import Derived.Test.YtgldkdbkaachkaaGreatDoorK18
import Derived.Deep.Cut
import Derived.Deep.AppendLies
set_option maxRecDepth 100000
set_option maxHeartbeats 2000000
namespace Go.Proofs.YtgldkdbkaachkaaGreatDoor
open Go.RowKit
variable {T:Nat}{a b:Value}{w:World}
def dJ:eP:=⟨20,4,63,22,fun ps id x=>if x % 4=0 then .slice none 0 0 else if x % 4=1 then .slice none 0 0 else if x % 4=2 then .int .i64 id else .int .i64 (2*((x / 4:Nat):Int)+ps)⟩
theorem OC (ps:Int)(id j:Nat):dJ.f ps id (j*4)=.slice none 0 0:=by unfold dJ;simp [Nat.mul_mod_left]
theorem OE (ps:Int)(id j:Nat):dJ.f ps id (j*4+1)=.slice none 0 0:=by
 have e:(j*4+1) % 4=1:=by omega
 unfold dJ;simp [e]
theorem OG (ps:Int)(id j:Nat):dJ.f ps id (j*4+2)=.int .i64 id:=by
 have e:(j*4+2) % 4=2:=by omega
 unfold dJ;simp [e]
theorem OH (ps:Int)(id j:Nat):dJ.f ps id (j*4+3)=.int .i64 (2*(j:Int)+ps):=by
 have e:(j*4+3) % 4=3:=by omega
 have e2:(j*4+3) / 4=j:=by omega
 unfold dJ;simp only [e,e2]
 rfl
theorem nc (B:Nat)(ps:Int)(id j:Nat)(dN jI:Int)(w:World)(h:w.cell? ⟨B,1,none⟩=some (.int .i64 ps))(hp:0<=ps/\ps<=1)(hj:j<=1099511627776)(e1:dN=(id:Int))(e2:jI=(j:Int)) :
  Calls Tryz.prog 152 #[.pointer (some ⟨B,0,none⟩),.int .i64 dN,.int .i64 jI] w fun en w'=>en=.returned (.agg #[.slice none 0 0,.slice none 0 0,.int .i64 id,.int .i64 (2*(j:Int)+ps)])/\w.grownBy w' none:=by
 subst e1 e2;have nh:=hp.1;have IB:=hp.2;have ga:=World.grownBy_alloc w (.cells #[.slice none 0 0,.slice none 0 0,.int .i64 0,.int .i64 0] 63) none;have HY:=hJ (Bx.new w (.slice none 0 0) (.slice none 0 0) (.int .i64 0) (.int .i64 0));have ka:=ga.cell h (by simp);have HG:=hJ ga;obtain ⟨y0,y1,y2,y3⟩:=HY.out.cells;have f0:=HY.out.frozen 0;have f1:=HY.out.frozen 1;have f2:=HY.out.frozen 2;have f3:=HY.out.frozen 3;clear h ga hp;go_enter Tryz.func152,Tryz.ntmps152;go_upto_region 1 with fail
 generalize w.alloc (.cells #[.slice none 0 0,.slice none 0 0,.int .i64 0,.int .i64 0] 63)=w1 at *;obtain ⟨U,hU⟩:∃ U,w.heap.size=U:=⟨_,rfl⟩;rw [hU] at HY y0 y1 y2 y3 f0 f1 f2 f3 ⊢;have hd:=(((HY.out.mJ (.slice none 0 0)).rI (.slice none 0 0)).Bj (.int .i64 (id:Int))).Bk (.int .i64 (2*(j:Int)+ps));have HD:=hJ hd;have HF:=hJ (af HG.out (gr4 w1 U (.slice none 0 0) (.slice none 0 0) (.int .i64 (id:Int)) (.int .i64 (2*(j:Int)+ps))) (by omega));clear hd;go_wp2;refine bodyPost_ret (nU rfl _ _ U _ _ _ _ rfl HD.out) rfl ?_;exact ⟨rfl,HF.out⟩
def uZ (ps:Int)(id j:Nat):Int:=(id:Int)*1000+2*(j:Int)+ps
def gZ:eP:=⟨5,1,3,26,fun ps id x=>.int .i64 (uZ ps id x)⟩
def fL:eP:=⟨23,2,69,24,fun ps id x=>if x % 2=0 then .int .i64 id else .int .i64 (2*((x / 2:Nat):Int)+ps)⟩
theorem OI (ps:Int)(id j:Nat):fL.f ps id (j*2)=.int .i64 id:=by unfold fL;simp [Nat.mul_mod_left]
theorem OJ (ps:Int)(id j:Nat):fL.f ps id (j*2+1)=.int .i64 (2*(j:Int)+ps):=by
 have e:(j*2+1) % 2=1:=by omega
 have e2:(j*2+1) / 2=j:=by omega
 unfold fL;simp only [e,e2]
 rfl
def Dn (w:World)(T:Nat)(a b:Value):Prop:=w.heap[T]?=some (.cells #[a,b] 69 (0,0))
theorem Dn.cells {w:World}(h:Dn w T a b):w.cell? ⟨T,0,none⟩=some a/\w.cell? ⟨T,1,none⟩=some b:=by
 refine ⟨?_,?_⟩
 ·rw [cell_of_row w T 0 _ _ _ h];rfl
 ·rw [cell_of_row w T 1 _ _ _ h];rfl
theorem Dn.frozen (h:Dn w T a b)(j:Nat):w.frozen? ⟨T,j,none⟩=false:=frozen_of_row w T j _ _ h
theorem Dn.new (w:World)(a b:Value):Dn (w.alloc (.cells #[a,b] 69)) w.heap.size a b:=heap_alloc_new w _
theorem Dn.mJ (h:Dn w T a b)(v:Value):Dn (w.setCell ⟨T,0,none⟩ v) T v b:=heap_setCell_same w T 0 _ _ v h
theorem Dn.rI (h:Dn w T a b)(v:Value):Dn (w.setCell ⟨T,1,none⟩ v) T a v:=heap_setCell_same w T 1 _ _ v h
theorem KD:(Tryz.prog.info? 69).map (·.size)=some 2:=by kernel_rfl
theorem OM {fn:Func}{p:Tmp}(h:fn.results=#[.cell p 69])(tmps:Array Value)(w:World)(U:Nat)(a b:Value)(hp:tmps.getD p undef=.pointer (some ⟨U,0,none⟩))(hx:Dn w U a b) :
  (results fn tmps).run Tryz.prog w=.ok (.agg #[a,b]) w :=
 results_cell_row h tmps w U 69 #[a,b] (0,0) _ hp hx Tryz.underlying69 rfl KD
theorem qp (B:Nat)(ps:Int)(id j:Nat)(dN jI:Int)(w:World)(h:w.cell? ⟨B,1,none⟩=some (.int .i64 ps))(hp:0<=ps/\ps<=1)(hi:id<=1099511627776)(hj:j<=1099511627776)(e1:dN=(id:Int))(e2:jI=(j:Int)) :
  Calls Tryz.prog 147 #[.pointer (some ⟨B,0,none⟩),.int .i64 dN,.int .i64 jI] w fun en w'=>en=.returned (.int .i64 (uZ ps id j))/\w'=w:=by
 subst e1 e2;have nh:=hp.1;have IB:=hp.2;go_enter Tryz.func147,Tryz.ntmps147;go_wp2;go_ret;exact ⟨rfl,rfl⟩
theorem qs (B:Nat)(ps:Int)(id j:Nat)(dN jI:Int)(w:World)(h:w.cell? ⟨B,1,none⟩=some (.int .i64 ps))(hp:0<=ps/\ps<=1)(hj:j<=1099511627776)(e1:dN=(id:Int))(e2:jI=(j:Int)) :
  Calls Tryz.prog 153 #[.pointer (some ⟨B,0,none⟩),.int .i64 dN,.int .i64 jI] w fun en w'=>en=.returned (.agg #[.int .i64 id,.int .i64 (2*(j:Int)+ps)])/\w.grownBy w' none:=by
 subst e1 e2;have nh:=hp.1;have IB:=hp.2;have ga:=World.grownBy_alloc w (.cells #[.int .i64 0,.int .i64 0] 69) none;have HY:=hJ (Dn.new w (.int .i64 0) (.int .i64 0));have ka:=ga.cell h (by simp);have HG:=hJ ga;obtain ⟨y0,y1⟩:=HY.out.cells;have f0:=HY.out.frozen 0;have f1:=HY.out.frozen 1;clear h ga hp;go_enter Tryz.func153,Tryz.ntmps153;go_upto_region 1 with fail
 generalize w.alloc (.cells #[.int .i64 0,.int .i64 0] 69)=w1 at *;obtain ⟨U,hU⟩:∃ U,w.heap.size=U:=⟨_,rfl⟩;rw [hU] at HY y0 y1 f0 f1 ⊢;have hd:=(HY.out.mJ (.int .i64 (id:Int))).rI (.int .i64 (2*(j:Int)+ps));have HD:=hJ hd;have HF:=hJ (af HG.out (gQ (aA w1 U 0 (.int .i64 (id:Int))) (aA _ U 1 (.int .i64 (2*(j:Int)+ps)))) (by omega));clear hd;go_wp2;refine bodyPost_ret (OM rfl _ _ U _ _ rfl HD.out) rfl ?_;exact ⟨rfl,HF.out⟩
theorem ve (B:Nat)(ps:Int)(_hp:0<=ps/\ps<=1)(id:Nat)(dN:Int)(s:au)(v:Value)(w:World)(h:w.cell? ⟨B,1,none⟩=some (.int .i64 ps))(hi:id<=1099511627776)(hs:s.Ok gS.W)(hsh:s.cK w (gS.f ps id))(e1:dN=(id:Int))(e2:v=s.v) :
  Calls Tryz.prog 159 #[.pointer (some ⟨B,0,none⟩),v,.int .i64 dN] w fun en w'=>en=.returned (.bool true)/\w.grownBy w' none:=by
 subst e1 e2;obtain ⟨ao,hv,hao⟩:=hs.val;have HC:=hJ h;have HS:=hJ hsh;have gW:=hJ hs;have h1:=hs.le;have h2:=hs.max;have sJ:=hJ hao;clear h hsh hao hs;rw [hv];clear hv;go_enter Tryz.func159,Tryz.ntmps159;go_wp2;go_loopw [7] (fun sj wr=>∃ j:Nat,j<=s.n/\sj=.int .i64 j/\w.grownBy wr none) (fun sj _=>s.n - (intOf sj).toNat)
 case atStart=>exact ⟨0,Nat.zero_le _,rfl,(Qt.refl _).grown none⟩
 case round =>
  obtain ⟨j,hj,rfl,hg⟩:=hrel;have HG:=hJ hg;clear hg
  by_cases hlt:j<s.n
  ·obtain rfl:=sJ.out (by omega)
   go_wp2_with fail
   refine (mW B ps id j _ _ _ (HG.out.cell HC.out (by simp)) hi (by omega) rfl rfl).mono ?_;rintro en w1 ⟨rfl,cB⟩;subst cB;have hcell:w1.cell? ⟨s.g,s.o+j,none⟩=some (.int .u8 (oJ ps id j)):=HG.out.cell (HS.out j (by have:=gW.out.cell hlt (show 0<gS.W by decide);simpa [gS] using this)) (by simp);have hb:(oJ ps id j==oJ ps id j)=true:=by simp
   go_wp2;go_roundw
   case rel=>exact ⟨j+1,by omega,by go_num,HG.out⟩
   case measure=>simp [intOf];omega
  ·have ue:j=s.n:=by omega
   subst ue;go_wp2;go_ret;exact ⟨rfl,HG.out⟩
theorem CQ (B:Nat)(ps:Int)(_hp:0<=ps/\ps<=1)(vb:Value)(r c:Nat)(L:List au)(ag:Nat)(I:World->Prop)(w:World)(hid:ag<=1000000)(h:Kc gS w B ps vb r c L)(hI:I w)
  (mV:∀ w s j v,s∈L->j<s.C->I w->I (w.setCell ⟨s.g,s.o+j,none⟩ v)) (Dp:∀ w w',w.grownBy w' none->I w->I w') :
  Calls Tryz.prog 68 #[.pointer (some ⟨B,0,none⟩),.int .i64 ag] w fun en w'=>en=.returned (.int .i64 ((ag+L.length:Nat):Int))/\lU gS I w' B ps vb r c L ag L.length 0:=by
 have iA:=h.many;obtain ⟨vo,dZ,dh⟩:=h.row.val;rw [List.length_map] at dZ dh;have jx:=hJ dh;have HIS:=hJ mV;have SG:=hJ Dp;have H0:Hid (lU gS I w B ps vb r c L ag 0 0):=⟨hI,h,fun k s hk=>by omega,fun s hs q hq=>by omega⟩;clear h hI mV Dp dh;subst dZ;go_enter Tryz.func68,Tryz.ntmps68;go_wp2;go_loopw [1,5] (fun oP si wr=>∃ i:Nat,i<=L.length/\si=.int .i64 i/\oP=.int .i64 ((ag+i:Nat):Int)/\lU gS I wr B ps (.slice vo L.length c) r c L ag i 0) (fun _ si _=>L.length - (intOf si).toNat)
 case atStart=>exact ⟨0,Nat.zero_le _,rfl,rfl,H0.out⟩
 case round =>
  obtain ⟨i,hi,rfl,rfl,hw⟩:=hrel;have HW:=hJ hw;have cl:wr.cell? ⟨B,2,none⟩=some (.slice vo L.length c):=hw.bc.lists;clear hw
  by_cases hlt:i<L.length
  ·obtain ⟨s,hs⟩:∃ s,L[i]?=some s:=⟨L[i],List.getElem?_eq_getElem hlt⟩
   have hok:=(HW.out.bc.ok s (List.mem_of_getElem? hs)).1;obtain ⟨ao,eY,hao⟩:=hok.val;have h1:=hok.le;have h2:=hok.max;have gW:=hJ hok;have HS:=hJ hs;have sJ:=hJ hao;have mM:=hJ eY;obtain rfl:=jx.out (by omega);clear hs hok hao eY;go_wp2;go_loopw [6] (fun sj wr=>∃ j:Nat,j<=s.n/\sj=.int .i64 j/\lU gS I wr B ps (.slice (some ⟨r,0,none⟩) L.length c) r c L ag i (j*1)) (fun sj _=>s.n - (intOf sj).toNat)
   case atStart=>exact ⟨0,Nat.zero_le _,rfl,by rw [Nat.zero_mul];exact HW.out⟩
   case round =>
    obtain ⟨j,hj,rfl,hw⟩:=hrel;have HJ:=hJ hw;have cl:wr.cell? ⟨B,2,none⟩=some (.slice (some ⟨r,0,none⟩) L.length c):=hw.bc.lists
    have cr:wr.cell? ⟨r,i,none⟩=some (.slice ao s.n s.c):=by
     rw [<- mM.out];exact hw.bc.row.cells i _ (by rw [List.getElem?_map,HS.out];rfl)
    clear hw
    by_cases xJ:j<s.n
    ·obtain rfl:=sJ.out (by omega)
     have hN:=gW.out.cell xJ (show 0<gS.W by decide);have hN':j<s.N:=by simpa [gS] using hN
     obtain ⟨⟨u,hu⟩,hf⟩:=(HJ.out.bc.ok s (List.mem_of_getElem? HS.out)).2.1 j (by have:=gW.out.Km;omega);have HN:=hJ (HJ.out.step HIS.out HS.out (by rw [Nat.mul_one];exact hN') (s.o+j) (by omega) (.int .u8 (oJ ps (ag+i+1) j)) (by rw [Nat.mul_one];rfl));have PP:Hid (∀ w':World,w'.heap=wr.heap->w'.cell? ⟨B,1,none⟩=some (.int .i64 ps)):=fun w' e=>(World.cell?_of_block (by rw [e])).trans HJ.out.bc.pass
     go_wp2
     go_region_with (go_at_call 146;refine (mW B ps (ag+i+1) j _ _ _ (by exact PP.out _ rfl) (by omega) (by omega) (by omega) (by omega)).mono ?_;rintro en w4 ⟨rfl,rfl⟩)
     all_goals
      go_wp2;go_roundw
      case rel=>exact ⟨j+1,by omega,by go_num,by rw [show (j+1)*1=j*1+1 by omega];exact (HN.out.qt SG.out ((Qt.refl _).drew.grown none))⟩
      case measure=>simp [intOf];omega
    ·have ue:j=s.n:=by omega
     subst ue;have HN:=HJ.out;have eN:s.n*1=s.N:=gW.out.hN.symm;rw [eN] at HN;have HN:=hJ (HN.next HS.out);clear HJ eN;go_wp2;go_roundw
     case rel=>exact ⟨i+1,by omega,by go_num,by go_num,HN.out⟩
     case measure=>simp [intOf];omega
  ·have hin:i=L.length:=by omega
   subst hin;go_wp2;go_ret;exact ⟨rfl,HW.out⟩
theorem Fj (B:Nat)(ps:Int)(hp:0<=ps/\ps<=1)(vb vg:Value)(r c r2 c2:Nat)(L M:List au)(ag:Nat)(w:World)(hid:ag<=1000000)(h:Kc gS w B ps vb r c L)(hg:Kg gS w B ps vg r2 c2 M ag)
  (hml:M.length=L.length∨M.length=0) (hs:∀ (k:Nat) (s:au),L[k]?=some s->s.cK w (gS.f ps (ag+k+1))) :
  Calls Tryz.prog 81 #[.pointer (some ⟨B,0,none⟩),.int .i64 ag] w fun en w'=>en=.returned (.tuple #[.int .i64 ((ag+L.length:Nat):Int),.bool true])/\w.grownBy w' none:=by
 have iA:=h.many;obtain ⟨vo,dZ,dh⟩:=h.row.val;rw [List.length_map] at dZ dh;obtain ⟨go,mj,hgo⟩:=hg.row.val;rw [List.length_map] at mj hgo;have jx:=hJ dh;have SH:=hJ hgo;have HB:=hJ h;have HG:=hJ hg;have HS:=hJ hs;clear h hg hs dh hgo;subst dZ mj;go_enter Tryz.func81,Tryz.ntmps81;go_wp2;go_loopw [1,6,7] (fun oP sa si wr=>∃ i:Nat,i<=L.length/\si=.int .i64 i/\sa=.bool true/\oP=.int .i64 ((ag+i:Nat):Int)/\w.grownBy wr none) (fun _ _ si _=>L.length - (intOf si).toNat)
 case atStart=>exact ⟨0,Nat.zero_le _,rfl,rfl,rfl,(Qt.refl _).grown none⟩
 case round =>
  obtain ⟨i,hi,rfl,rfl,rfl,hgr⟩:=hrel;have fA:=hJ hgr;have cl:wr.cell? ⟨B,2,none⟩=some (.slice vo L.length c):=hgr.cell HB.out.lists (by simp);clear hgr
  by_cases hlt:i<L.length
  ·obtain ⟨s,hs⟩:∃ s,L[i]?=some s:=⟨L[i],List.getElem?_eq_getElem hlt⟩
   have Aj:=hJ hs;obtain rfl:=jx.out (by omega);obtain ⟨ao,eY,hao⟩:=(HB.out.ok s (List.mem_of_getElem? hs)).1.val
   have cr:wr.cell? ⟨r,i,none⟩=some (.slice ao s.n s.c):=by
    rw [<- eY];exact fA.out.cell (HB.out.row.cells i _ (by rw [List.getElem?_map,hs];rfl)) (by simp)
   have mM:=hJ eY;clear hs hao eY
   go_wp2_with fail
   refine (ve B ps hp (ag+i+1) _ s _ _ (fA.out.cell HB.out.pass (by simp)) (by omega) (HB.out.ok s (List.mem_of_getElem? Aj.out)).1 ((HS.out i s Aj.out).kept fA.out (by simp)) (by omega) mM.out.symm).mono ?_;rintro en w1 ⟨rfl,hg1⟩;have cF:=hJ (gQ fA.out hg1);have cg:w1.cell? ⟨B,4,none⟩=some (.slice go M.length c2):=cF.out.cell HG.out.lists (by simp);clear hg1 fA cl cr;rcases hml with hml | hml
   ·obtain ⟨t,ht⟩:∃ t,M[i]?=some t:=⟨M[i]'(by omega),List.getElem?_eq_getElem (by omega)⟩
    obtain rfl:=SH.out (by omega);obtain ⟨Ac,zu,zv⟩:=(HG.out.ok t (List.mem_of_getElem? ht)).val
    have cr2:w1.cell? ⟨r2,i,none⟩=some (.slice Ac t.n t.c):=by
     rw [<- zu];exact cF.out.cell (HG.out.row.cells i _ (by rw [List.getElem?_map,ht];rfl)) (by simp)
    have Fk:=hJ ht;have SI:=hJ zu;have hd:decide ((i:Int)<(M.length:Int))=true:=by simp;omega
    clear ht zu zv
    go_wp2_with fail
    refine (ve B ps hp (ag+i+1) _ t _ _ (cF.out.cell HB.out.pass (by simp)) (by omega) (HG.out.ok t (List.mem_of_getElem? Fk.out)) ((HG.out.marks i t Fk.out).kept cF.out (by simp)) (by omega) SI.out.symm).mono ?_;rintro en w2 ⟨rfl,hg2⟩;have zw:=hJ (gQ cF.out hg2);clear hg2 cF;go_wp2;go_roundw
    case rel=>exact ⟨i+1,by omega,by go_num,rfl,by go_num,zw.out⟩
    case measure=>simp [intOf];omega
   ·have hd:decide ((i:Int)<(M.length:Int))=false:=by simp;omega
    go_wp2;go_roundw
    case rel=>exact ⟨i+1,by omega,by go_num,rfl,by go_num,cF.out⟩
    case measure=>simp [intOf];omega
  ·have hin:i=L.length:=by omega
   subst hin;go_wp2
   go_ret2
   exact ⟨rfl,fA.out⟩
theorem xK (B:Nat)(ps:Int)(hp:0<=ps/\ps<=1)(id:Nat)(dN:Int)(s:au)(v:Value)(w:World)(h:w.cell? ⟨B,1,none⟩=some (.int .i64 ps))(hi:id<=1099511627776)(hs:s.Ok gZ.W)(hsh:s.cK w (gZ.f ps id))(e1:dN=(id:Int))(e2:v=s.v) :
  Calls Tryz.prog 160 #[.pointer (some ⟨B,0,none⟩),v,.int .i64 dN] w fun en w'=>en=.returned (.bool true)/\w.grownBy w' none:=by
 subst e1 e2;obtain ⟨ao,hv,hao⟩:=hs.val;have HC:=hJ h;have HS:=hJ hsh;have gW:=hJ hs;have h1:=hs.le;have h2:=hs.max;have sJ:=hJ hao;clear h hsh hao hs;rw [hv];clear hv;go_enter Tryz.func160,Tryz.ntmps160;go_wp2;go_loopw [7] (fun sj wr=>∃ j:Nat,j<=s.n/\sj=.int .i64 j/\w.grownBy wr none) (fun sj _=>s.n - (intOf sj).toNat)
 case atStart=>exact ⟨0,Nat.zero_le _,rfl,(Qt.refl _).grown none⟩
 case round =>
  obtain ⟨j,hj,rfl,hg⟩:=hrel;have HG:=hJ hg;clear hg
  by_cases hlt:j<s.n
  ·obtain rfl:=sJ.out (by omega)
   go_wp2_with fail
   refine (qp B ps id j _ _ _ (HG.out.cell HC.out (by simp)) hp hi (by omega) rfl rfl).mono ?_;rintro en w1 ⟨rfl,cB⟩;subst cB;have hcell:w1.cell? ⟨s.g,s.o+j,none⟩=some (.int .i64 (uZ ps id j)):=HG.out.cell (HS.out j (by have:=gW.out.cell hlt (show 0<gZ.W by decide);simpa [gZ] using this)) (by simp);have hb:(uZ ps id j==uZ ps id j)=true:=by simp
   go_wp2;go_roundw
   case rel=>exact ⟨j+1,by omega,by go_num,HG.out⟩
   case measure=>simp [intOf];omega
  ·have ue:j=s.n:=by omega
   subst ue;go_wp2;go_ret;exact ⟨rfl,HG.out⟩
theorem Fm (B:Nat)(ps:Int)(hp:0<=ps/\ps<=1)(vb:Value)(r c:Nat)(L:List au)(ag:Nat)(I:World->Prop)(w:World)(hid:ag<=1000000)(h:Kc gZ w B ps vb r c L)(hI:I w)
  (mV:∀ w s j v,s∈L->j<s.C->I w->I (w.setCell ⟨s.g,s.o+j,none⟩ v)) (Dp:∀ w w',w.grownBy w' none->I w->I w') :
  Calls Tryz.prog 69 #[.pointer (some ⟨B,0,none⟩),.int .i64 ag] w fun en w'=>en=.returned (.int .i64 ((ag+L.length:Nat):Int))/\lU gZ I w' B ps vb r c L ag L.length 0:=by
 have iA:=h.many;obtain ⟨vo,dZ,dh⟩:=h.row.val;rw [List.length_map] at dZ dh;have jx:=hJ dh;have HIS:=hJ mV;have SG:=hJ Dp;have H0:Hid (lU gZ I w B ps vb r c L ag 0 0):=⟨hI,h,fun k s hk=>by omega,fun s hs q hq=>by omega⟩;clear h hI mV Dp dh;subst dZ;go_enter Tryz.func69,Tryz.ntmps69;go_wp2;go_loopw [1,5] (fun oP si wr=>∃ i:Nat,i<=L.length/\si=.int .i64 i/\oP=.int .i64 ((ag+i:Nat):Int)/\lU gZ I wr B ps (.slice vo L.length c) r c L ag i 0) (fun _ si _=>L.length - (intOf si).toNat)
 case atStart=>exact ⟨0,Nat.zero_le _,rfl,rfl,H0.out⟩
 case round =>
  obtain ⟨i,hi,rfl,rfl,hw⟩:=hrel;have HW:=hJ hw;have cl:wr.cell? ⟨B,5,none⟩=some (.slice vo L.length c):=hw.bc.lists;clear hw
  by_cases hlt:i<L.length
  ·obtain ⟨s,hs⟩:∃ s,L[i]?=some s:=⟨L[i],List.getElem?_eq_getElem hlt⟩
   have hok:=(HW.out.bc.ok s (List.mem_of_getElem? hs)).1;obtain ⟨ao,eY,hao⟩:=hok.val;have h1:=hok.le;have h2:=hok.max;have gW:=hJ hok;have HS:=hJ hs;have sJ:=hJ hao;have mM:=hJ eY;obtain rfl:=jx.out (by omega);clear hs hok hao eY;go_wp2;go_loopw [6] (fun sj wr=>∃ j:Nat,j<=s.n/\sj=.int .i64 j/\lU gZ I wr B ps (.slice (some ⟨r,0,none⟩) L.length c) r c L ag i (j*1)) (fun sj _=>s.n - (intOf sj).toNat)
   case atStart=>exact ⟨0,Nat.zero_le _,rfl,by rw [Nat.zero_mul];exact HW.out⟩
   case round =>
    obtain ⟨j,hj,rfl,hw⟩:=hrel;have HJ:=hJ hw;have cl:wr.cell? ⟨B,5,none⟩=some (.slice (some ⟨r,0,none⟩) L.length c):=hw.bc.lists
    have cr:wr.cell? ⟨r,i,none⟩=some (.slice ao s.n s.c):=by
     rw [<- mM.out];exact hw.bc.row.cells i _ (by rw [List.getElem?_map,HS.out];rfl)
    clear hw
    by_cases xJ:j<s.n
    ·obtain rfl:=sJ.out (by omega)
     have hN:=gW.out.cell xJ (show 0<gZ.W by decide);have hN':j<s.N:=by simpa [gZ] using hN
     obtain ⟨⟨u,hu⟩,hf⟩:=(HJ.out.bc.ok s (List.mem_of_getElem? HS.out)).2.1 j (by have:=gW.out.Km;omega);have HN:=hJ (HJ.out.step HIS.out HS.out (by rw [Nat.mul_one];exact hN') (s.o+j) (by omega) (.int .i64 (uZ ps (ag+i+1) j)) (by rw [Nat.mul_one];rfl));have PP:Hid (∀ w':World,w'.heap=wr.heap->w'.cell? ⟨B,1,none⟩=some (.int .i64 ps)):=fun w' e=>(World.cell?_of_block (by rw [e])).trans HJ.out.bc.pass
     go_wp2
     go_region_with (go_at_call 147;refine (qp B ps (ag+i+1) j _ _ _ (by exact PP.out _ rfl) hp (by omega) (by omega) (by omega) (by omega)).mono ?_;rintro en w4 ⟨rfl,rfl⟩)
     all_goals
      go_wp2;go_roundw
      case rel=>exact ⟨j+1,by omega,by go_num,by rw [show (j+1)*1=j*1+1 by omega];exact (HN.out.qt SG.out ((Qt.refl _).drew.grown none))⟩
      case measure=>simp [intOf];omega
    ·have ue:j=s.n:=by omega
     subst ue;have HN:=HJ.out;have eN:s.n*1=s.N:=gW.out.hN.symm;rw [eN] at HN;have HN:=hJ (HN.next HS.out);clear HJ eN;go_wp2;go_roundw
     case rel=>exact ⟨i+1,by omega,by go_num,by go_num,HN.out⟩
     case measure=>simp [intOf];omega
  ·have hin:i=L.length:=by omega
   subst hin;go_wp2;go_ret;exact ⟨rfl,HW.out⟩
theorem KF (B:Nat)(ps:Int)(hp:0<=ps/\ps<=1)(vb vg:Value)(r c r2 c2:Nat)(L M:List au)(ag:Nat)(w:World)(hid:ag<=1000000)(h:Kc gZ w B ps vb r c L)(hg:Kg gZ w B ps vg r2 c2 M ag)
  (hml:M.length=L.length∨M.length=0) (hs:∀ (k:Nat) (s:au),L[k]?=some s->s.cK w (gZ.f ps (ag+k+1))) :
  Calls Tryz.prog 82 #[.pointer (some ⟨B,0,none⟩),.int .i64 ag] w fun en w'=>en=.returned (.tuple #[.int .i64 ((ag+L.length:Nat):Int),.bool true])/\w.grownBy w' none:=by
 have iA:=h.many;obtain ⟨vo,dZ,dh⟩:=h.row.val;rw [List.length_map] at dZ dh;obtain ⟨go,mj,hgo⟩:=hg.row.val;rw [List.length_map] at mj hgo;have jx:=hJ dh;have SH:=hJ hgo;have HB:=hJ h;have HG:=hJ hg;have HS:=hJ hs;clear h hg hs dh hgo;subst dZ mj;go_enter Tryz.func82,Tryz.ntmps82;go_wp2;go_loopw [1,6,7] (fun oP sa si wr=>∃ i:Nat,i<=L.length/\si=.int .i64 i/\sa=.bool true/\oP=.int .i64 ((ag+i:Nat):Int)/\w.grownBy wr none) (fun _ _ si _=>L.length - (intOf si).toNat)
 case atStart=>exact ⟨0,Nat.zero_le _,rfl,rfl,rfl,(Qt.refl _).grown none⟩
 case round =>
  obtain ⟨i,hi,rfl,rfl,rfl,hgr⟩:=hrel;have fA:=hJ hgr;have cl:wr.cell? ⟨B,5,none⟩=some (.slice vo L.length c):=hgr.cell HB.out.lists (by simp);clear hgr
  by_cases hlt:i<L.length
  ·obtain ⟨s,hs⟩:∃ s,L[i]?=some s:=⟨L[i],List.getElem?_eq_getElem hlt⟩
   have Aj:=hJ hs;obtain rfl:=jx.out (by omega);obtain ⟨ao,eY,hao⟩:=(HB.out.ok s (List.mem_of_getElem? hs)).1.val
   have cr:wr.cell? ⟨r,i,none⟩=some (.slice ao s.n s.c):=by
    rw [<- eY];exact fA.out.cell (HB.out.row.cells i _ (by rw [List.getElem?_map,hs];rfl)) (by simp)
   have mM:=hJ eY;clear hs hao eY
   go_wp2_with fail
   refine (xK B ps hp (ag+i+1) _ s _ _ (fA.out.cell HB.out.pass (by simp)) (by omega) (HB.out.ok s (List.mem_of_getElem? Aj.out)).1 ((HS.out i s Aj.out).kept fA.out (by simp)) (by omega) mM.out.symm).mono ?_;rintro en w1 ⟨rfl,hg1⟩;have cF:=hJ (gQ fA.out hg1);have cg:w1.cell? ⟨B,7,none⟩=some (.slice go M.length c2):=cF.out.cell HG.out.lists (by simp);clear hg1 fA cl cr;rcases hml with hml | hml
   ·obtain ⟨t,ht⟩:∃ t,M[i]?=some t:=⟨M[i]'(by omega),List.getElem?_eq_getElem (by omega)⟩
    obtain rfl:=SH.out (by omega);obtain ⟨Ac,zu,zv⟩:=(HG.out.ok t (List.mem_of_getElem? ht)).val
    have cr2:w1.cell? ⟨r2,i,none⟩=some (.slice Ac t.n t.c):=by
     rw [<- zu];exact cF.out.cell (HG.out.row.cells i _ (by rw [List.getElem?_map,ht];rfl)) (by simp)
    have Fk:=hJ ht;have SI:=hJ zu;have hd:decide ((i:Int)<(M.length:Int))=true:=by simp;omega
    clear ht zu zv
    go_wp2_with fail
    refine (xK B ps hp (ag+i+1) _ t _ _ (cF.out.cell HB.out.pass (by simp)) (by omega) (HG.out.ok t (List.mem_of_getElem? Fk.out)) ((HG.out.marks i t Fk.out).kept cF.out (by simp)) (by omega) SI.out.symm).mono ?_;rintro en w2 ⟨rfl,hg2⟩;have zw:=hJ (gQ cF.out hg2);clear hg2 cF;go_wp2;go_roundw
    case rel=>exact ⟨i+1,by omega,by go_num,rfl,by go_num,zw.out⟩
    case measure=>simp [intOf];omega
   ·have hd:decide ((i:Int)<(M.length:Int))=false:=by simp;omega
    go_wp2;go_roundw
    case rel=>exact ⟨i+1,by omega,by go_num,rfl,by go_num,cF.out⟩
    case measure=>simp [intOf];omega
  ·have hin:i=L.length:=by omega
   subst hin;go_wp2
   go_ret2
   exact ⟨rfl,fA.out⟩
theorem rX (B:Nat)(vb vw:Value)(r c r2 c2:Nat)(xs ys:List Value)(w:World)(h2:w.cell? ⟨B,11,none⟩=some vb)(h3:w.cell? ⟨B,12,none⟩=some vw)(hb:rU w vb r c xs)(hw:rU w vw r2 c2 ys)(hl:xs.length=ys.length)(hm:xs.length<=1000000)
  (hs:∀ (k:Nat) (x y:Value),xs[k]?=some x->ys[k]?=some y->∃ ao n ca bo cb,∃ Z:List (List Int),x=.slice ao n ca/\y=.slice bo n cb/\Lz w ao Z/\Lz w bo Z/\Lb Z/\Z.length=n/\n<=1099511627776) :
  Calls Tryz.prog 58 #[.pointer (some ⟨B,0,none⟩)] w fun en w'=>en=.returned (.bool true)/\w.grownBy w' none:=by
 obtain ⟨vo,dZ,dh⟩:=hb.val;obtain ⟨wo,mX,Hf⟩:=hw.val;have jx:=hJ dh;have Sg:=hJ Hf;have HB:=hJ hb;have HW:=hJ hw;have HS:=hJ hs;clear hb hw hs dh Hf;subst dZ mX;go_enter Tryz.func58,Tryz.ntmps58;go_wp2;go_loopw [3] (fun si wr=>∃ i:Nat,i<=xs.length/\si=.int .i64 i/\w.grownBy wr none) (fun si _=>xs.length - (intOf si).toNat)
 case atStart=>exact ⟨0,Nat.zero_le _,rfl,(Qt.refl _).grown none⟩
 case round =>
  obtain ⟨i,hi,rfl,hq⟩:=hrel;have HQ:=hJ hq;have k2:=hq.cell h2 (by simp);have k3:=hq.cell h3 (by simp);clear hq
  by_cases hlt:i<xs.length
  ·obtain ⟨x,hx⟩:∃ x,xs[i]?=some x:=⟨xs[i],List.getElem?_eq_getElem hlt⟩
   obtain ⟨y,hy⟩:∃ y,ys[i]?=some y:=⟨ys[i]'(by omega),List.getElem?_eq_getElem (by omega)⟩;obtain ⟨ao,n,ca,bo,cb,Z,rfl,rfl,ba,bb,bz,hz,hn⟩:=HS.out i x y hx hy;obtain rfl:=jx.out (by omega);obtain rfl:=Sg.out (by omega);have c1:=HQ.out.cell (HB.out.cells i _ hx) (by simp);have c2:=HQ.out.cell (HW.out.cells i _ hy) (by simp);have HD:=hJ (gQ HQ.out ((Qt.refl _).drew.grown none));have HC:=hJ (mb ao n ca Z bo n cb Z wr.drew (ba.ae HD.out) bz hz (bb.ae HD.out) bz hz (by omega));clear ba bb bz;have CA:(i:Int)<(ys.length:Int):=by omega
   have g0:(0:Int)<=(i:Int):=by omega
   clear hx hy
   go_wp2_with fail
   go_region_with (go_at_call 31;refine HC.out.mono ?_;rintro en w3 ⟨⟨q,rfl,hq⟩,hg3⟩)
   all_goals
    obtain rfl:q=true:=by simpa using hq
    have rq:=hJ (gQ HD.out (hg3.grown none));clear hq hg3 HC HD;go_wp2;go_roundw
    case rel=>exact ⟨i+1,by omega,by go_num,rq.out⟩
    case measure=>simp [intOf];omega
  ·have hin:i=xs.length:=by omega
   subst hin;go_wp2;go_ret;exact ⟨rfl,HQ.out⟩
end Go.Proofs.YtgldkdbkaachkaaGreatDoor
