import Derived.Test.YtepcgckapoljpaaGreatQ52
import Derived.Test.YtepcgckapoljpaaGreatQ48
import Derived.Deep.CutBlock
set_option maxRecDepth 100000
set_option maxHeartbeats 16000000
namespace Go.Proofs.YtepcgckapoljpaaGreat
open Go.RowKit
theorem new_le (L:List NoT):sumT newN L<=L.length:=by
 induction L with
 | nil=>exact Nat.le_refl _
 | cons y L ih =>
  rw [sumT,List.length_cons];have:newN y<=1:=by unfold newN;split <;> omega
  omega
theorem counts10 (a:Option Addr)(n c:Nat)(xs:List NoT)(w:World)(h:NlW w a xs)(hn:xs.length=n)(hm:n<=100000000)(hl:∀ v∈xs,v.lv<=1000) :
  Calls Tryz.prog 20 #[.slice a n c] w fun en w'=>(∃ l,en=.returned (.tuple #[l,.int .i64 ((sumT newN xs:Nat):Int)]))/\Qt w w':=by
 have HL:=hZq h;have HV:=hZq hl;clear h hl;go_enter Tryz.func20,Tryz.ntmps20;go_wp2;go_loopw [4,5,6] (fun s4 s5 s6 wr=>∃ i l f:Nat,i<=n/\l<=i/\f=sumT newN (xs.take i)/\s4=.int .i64 (l:Nat)/\s5=.int .i64 (f:Nat)/\s6=.int .i64 (i:Nat)/\Qt w wr) (fun _ _ s6 _=>n - (intOf s6).toNat)
 case atStart=>exact ⟨0,0,0,Nat.zero_le _,Nat.zero_le _,rfl,rfl,rfl,rfl,Qt.refl _⟩
 case round =>
  obtain ⟨i,l,f,hi,hli,hf,rfl,rfl,rfl,hq⟩:=hrel;have HQ:=hZq hq;have HF:=hZq hf;clear hq hf
  by_cases hlt:i<n
  ·obtain ⟨x,hx⟩:∃ x,xs[i]?=some x:=⟨_,List.getElem?_eq_getElem (by omega)⟩
   obtain ⟨b,off,pa,pc,ca,cc,sa,sc,ka,kc,rfl,e⟩:=HL.out i x hx;have x0:=(HQ.out.cell _).trans e.c0;have x1:=(HQ.out.cell _).trans e.c1;have hs:=sumT_step newN hx;have hlv:=HV.out x (List.mem_of_getElem? hx)
   have hfb:f<=i:=by
    have h1:=new_le (xs.take i);rw [List.length_take] at h1;have:=HF.out;omega
   have g1:(0:Int)<=(i:Int):=by omega
   have g2:(i:Int)<(n:Int):=by omega
   have HS:=hZq hs;clear e hx hs;obtain ⟨no,hno⟩:∃ no,x.no=no:=⟨_,rfl⟩;obtain ⟨lv,hlvv⟩:∃ lv:Nat,x.lv=lv:=⟨_,rfl⟩;rw [hno] at x0;rw [hlvv] at x1;have HNEW:Hid (newN x=if no=0 then 1 else 0):=by show _=_;unfold newN;rw [hno]
   clear hno hlvv hlv;have w1:IntKind.i64.wrap ((l:Int)+1)=(l:Int)+1:=by rw [IntKind.wrap_i64];omega
   have w2:IntKind.i64.wrap ((f:Int)+1)=(f:Int)+1:=by rw [IntKind.wrap_i64];omega
   by_cases h1:lv=0
   ·subst h1
    by_cases h2:no=0
    ·subst h2
     go_wp2;go_roundw
     case rel=>exact ⟨i+1,l+1,f+1,by omega,by omega,by have:=HF.out;have:=HS.out;have:=HNEW.out;rw [if_pos rfl] at this;omega,by go_num,by go_num,by go_num,HQ.out⟩
     case measure=>simp [intOf];omega
    ·have e2:(no==0)=false:=by simp [h2]
     go_wp2;go_roundw
     case rel=>exact ⟨i+1,l+1,f,by omega,by omega,by have:=HF.out;have:=HS.out;have:=HNEW.out;rw [if_neg h2] at this;omega,by go_num,by go_num,by go_num,HQ.out⟩
     case measure=>simp [intOf];omega
   ·have e1:((lv:Int)==0)=false:=by simp;omega
    by_cases h2:no=0
    ·subst h2
     go_wp2;go_roundw
     case rel=>exact ⟨i+1,l,f+1,by omega,by omega,by have:=HF.out;have:=HS.out;have:=HNEW.out;rw [if_pos rfl] at this;omega,by go_num,by go_num,by go_num,HQ.out⟩
     case measure=>simp [intOf];omega
    ·have e2:(no==0)=false:=by simp [h2]
     go_wp2;go_roundw
     case rel=>exact ⟨i+1,l,f,by omega,by omega,by have:=HF.out;have:=HS.out;have:=HNEW.out;rw [if_neg h2] at this;omega,by go_num,by go_num,by go_num,HQ.out⟩
     case measure=>simp [intOf];omega
  ·obtain rfl:i=n:=by omega
   have j1:¬ (i:Int)<(i:Int):=by omega
   have hf2:f=sumT newN xs:=by rw [HF.out,List.take_of_length_le (by omega)]
   subst hf2;go_wp2
   go_ret2
   exact ⟨⟨_,rfl⟩,HQ.out⟩
theorem results_node_tmp {fn:Func}{p u:Tmp}(h:fn.results=#[.cell p 54,.tmp u])(tmps:Array Value)(w:World)(g:Nat)(x0 x1 x2 x3 x4 x5:Value)(hp:tmps.getD p undef=.pointer (some ⟨g,0,none⟩))(hr:w.heap[g]?=some (.cells #[x0,x1,x2,x3,x4,x5] 54 (0,0))) :
  (results fn tmps).run Tryz.prog w=.ok (.tuple #[.agg #[x0,x1,x2,x3,x4,x5],tmps.getD u undef]) w:=by
 have hp':tmps[p]?.getD undef=.pointer (some ⟨g,0,none⟩):=by simpa using hp
 simp [results,h,hp',asAddr,run_loadVar_row w g 54 54 #[x0,x1,x2,x3,x4,x5] (0,0) _ hr Tryz.underlying54 rfl (by rw [size_anode10];rfl)]
def FndP (w:World)(xs:List NoT)(no:Int)(en:Ending)(w':World):Prop:=∃ (i:Nat) (y:NoT) (pa:Option Addr) (pc:Nat) (ca:Option Addr) (cc:Nat) (sa:Option Addr) (sc:Nat) (ka:Option Addr) (kc:Nat),xs[i]?=some y/\y.no=no /\
 en=.returned (.tuple #[.agg #[.int .i64 y.no,.int .i64 (y.lv:Int),.slice pa y.ps.length pc,.slice ca y.ps.length cc,.slice sa y.ss.length sc,.slice ka y.ks.length kc],.bool true])/\NoW w pa pc ca sa ka y/\w.grownBy w' none
theorem find10 (a:Option Addr)(n c:Nat)(no:Int)(xs:List NoT)(w:World)(h:NlW w a xs)(hn:xs.length=n)(hm:n<=100000000)(hex:∃ (i:Nat) (y:NoT),xs[i]?=some y/\y.no=no) :
  Calls Tryz.prog 21 #[.slice a n c,.int .i64 no] w fun en w'=>FndP w xs no en w':=by
 have HL:=hZq h;have HE:=hZq hex;clear h hex;have X1:=hZq (heap_at0 w #[.int .i64 0,.int .i64 0,.slice none 0 0,.slice none 0 0,.slice none 0 0,.slice none 0 0] 54);have G1:=hZq (World.grownBy_alloc w (.cells #[.int .i64 0,.int .i64 0,.slice none 0 0,.slice none 0 0,.slice none 0 0,.slice none 0 0] 54) none);go_enter Tryz.func21,Tryz.ntmps21
 go_upto_block 0 with fail
 generalize w.alloc (.cells #[.int .i64 0,.int .i64 0,.slice none 0 0,.slice none 0 0,.slice none 0 0,.slice none 0 0] 54)=w1 at *;obtain ⟨U,hU⟩:∃ U,w.heap.size=U:=⟨_,rfl⟩;rw [hU] at X1 ⊢;have HU:=hZq hU;clear hU
 go_wp2_with fail
 go_loopw [5,6] (fun _ s6 wr=>∃ i:Nat,i<=n/\s6=.int .i64 (i:Nat)/\wr=w1/\∀ (j:Nat) (y:NoT),j<i->xs[j]?=some y->y.no≠no) (fun _ s6 _=>n - (intOf s6).toNat)
 case atStart=>exact ⟨0,Nat.zero_le _,rfl,rfl,fun j y h=>by omega⟩
 case round =>
  obtain ⟨i,hi,rfl,rfl,hall⟩:=hrel;have HA:=hZq hall;clear hall
  by_cases hlt:i<n
  ·obtain ⟨x,hx⟩:∃ x,xs[i]?=some x:=⟨_,List.getElem?_eq_getElem (by omega)⟩
   obtain ⟨b,off,pa,pc,ca,cc,sa,sc,ka,kc,rfl,e⟩:=HL.out i x hx;have HX:=hZq hx;have f1:=e.kept G1.out;have RW:=hZq e.r;have x0:=f1.c0;have x1:=f1.c1;have x2:=f1.c2;have x3:=f1.c3;have x4:=f1.c4;have x5:=f1.c5;have g1:(0:Int)<=(i:Int):=by omega
   have g2:(i:Int)<(n:Int):=by omega
   clear e f1 hx
   by_cases hno:x.no=no
   ·have HNO:=hZq hno
    obtain ⟨pn,hpn⟩:∃ pn,x.ps.length=pn:=⟨_,rfl⟩;obtain ⟨sn,hsn⟩:∃ sn,x.ss.length=sn:=⟨_,rfl⟩;obtain ⟨kn,hkn⟩:∃ kn,x.ks.length=kn:=⟨_,rfl⟩;obtain ⟨lv,hlv⟩:∃ lv:Int,(x.lv:Int)=lv:=⟨_,rfl⟩;rw [hno] at x0;rw [hlv] at x1;rw [hpn] at x2 x3;rw [hsn] at x4;rw [hkn] at x5;have HPN:=hZq hpn;have HSN:=hZq hsn;have HKN:=hZq hkn;have HLV:=hZq hlv;clear hno hpn hsn hkn hlv;have hb:(no==no)=true:=by simp
    obtain ⟨u0,u1,u2,u3,u4,u5⟩:=C6.of X1.out;have z0:=frozen_of_row wr U 0 _ _ X1.out;have z1:=frozen_of_row wr U 1 _ _ X1.out;have z2:=frozen_of_row wr U 2 _ _ X1.out;have z3:=frozen_of_row wr U 3 _ _ X1.out;have z4:=frozen_of_row wr U 4 _ _ X1.out;have z5:=frozen_of_row wr U 5 _ _ X1.out;have XX:=hZq (node_put10 X1.out (.int .i64 no) (.int .i64 lv) (.slice pa pn pc) (.slice ca pn cc) (.slice sa sn sc) (.slice ka kn kc));have GG:=hZq (grown_new G1.out (node_grown10 wr U (.int .i64 no) (.int .i64 lv) (.slice pa pn pc) (.slice ca pn cc) (.slice sa sn sc) (.slice ka kn kc)) (by have:=HU.out;omega));go_wp2;refine bodyPost_ret (results_node_tmp rfl _ _ U _ _ _ _ _ _ rfl XX.out) rfl ?_;refine ⟨i,x,pa,pc,ca,cc,sa,sc,ka,kc,HX.out,HNO.out,?_,RW.out,GG.out⟩;rw [HNO.out,HLV.out,HPN.out,HSN.out,HKN.out]
    rfl
   ·have hb:(x.no==no)=false:=by simp [hno]
    have HNO:=hZq hno;clear hno;go_wp2;go_roundw
    case rel=>exact ⟨i+1,by omega,by go_num,trivial,fun j y h1 h2=>by
     by_cases hj:j=i
     ·subst hj
      rw [HX.out] at h2;cases h2;exact HNO.out
     ·exact HA.out j y (by omega) h2⟩
    case measure=>simp [intOf];omega
  ·exfalso
   obtain ⟨j,y,h1,h2⟩:=HE.out;exact HA.out j y (by have:=(List.getElem?_eq_some_iff.1 h1).1;omega) h1 h2
theorem samePairB (a1 b1 a2 b2:Option Addr)(n1 m1 c1 d1 n2 m2 c2 d2:Nat)(k1 v1 k2 v2:List Int)(w:World)(h1:Byt w a1 n1 c1 k1)(h2:Byt w b1 m1 d1 v1)(h3:Byt w a2 n2 c2 k2)(h4:Byt w b2 m2 d2 v2)(t1:Bt k1)(t2:Bt v1)(t3:Bt k2)(t4:Bt v2) :
  Calls Tryz.prog 40 #[.agg #[.slice a1 n1 c1,.slice b1 m1 d1],.agg #[.slice a2 n2 c2,.slice b2 m2 d2]] w fun en w'=>en=.returned (.bool (decide (k1=k2) && decide (v1=v2)))/\w.grownBy w' none:=by
 have ga:=World.grownBy_alloc w (.cells #[.slice a1 n1 c1,.slice b1 m1 d1] 40) none;have gb:=gZq ga (World.grownBy_alloc (w.alloc (.cells #[.slice a1 n1 c1,.slice b1 m1 d1] 40)) (.cells #[.slice a2 n2 c2,.slice b2 m2 d2] 40) none);have HG:=hZq gb;have HC1:=hZq (sameW a1 a2 n1 n2 c1 c2 k1 k2 _ (h1.keptN gb) (h3.keptN gb) t1 t3);have HC2:=hZq (sameW b1 b2 m1 m2 d1 d2 v1 v2 _ (h2.keptN gb) (h4.keptN gb) t2 t4);clear h1 h2 h3 h4 ga gb t1 t2 t3 t4;obtain ⟨e1,he1⟩:∃ e,decide (k1=k2)=e:=⟨_,rfl⟩;obtain ⟨e2,he2⟩:∃ e,decide (v1=v2)=e:=⟨_,rfl⟩;rw [he1] at HC1;rw [he2] at HC2;rw [he1,he2];clear he1 he2;go_enter Tryz.func40,Tryz.ntmps40
 go_wp2_with fail
 refine HC1.out.mono ?_;rintro en w2 ⟨rfl,hw2⟩;subst hw2
 go_wp2_with fail
 refine HC2.out.mono ?_;rintro en w3 ⟨rfl,hw3⟩;subst hw3;cases e1 with
 | true =>
  go_wp2;go_ret;exact ⟨by simp,HG.out⟩
 | false =>
  go_wp2;go_ret;exact ⟨by simp,HG.out⟩
def SbP (L M:List PrT)(en:Ending):Prop:=∃ f:Bool,en=.returned (.bool f)/\(f=true->L.map strP=M.map strP)
theorem str_eq {p q:PrT}(h1:p.key=q.key)(h2:p.val=q.val):strP p=strP q:=by
 unfold strP;rw [h1,h2]
theorem samePairsB (a b:Option Addr)(n m c d:Nat)(L M:List PrT)(w:World)(h1:MpW w a n c L)(h2:MpW w b m d M)(h0:n<=100000000)(b1:∀ p∈L,Bt p.key/\Bt p.val)(b2:∀ p∈M,Bt p.key/\Bt p.val) :
  Calls Tryz.prog 15 #[.slice a n c,.slice b m d] w fun en w'=>SbP L M en/\w.grownBy w' none:=by
 have HL:=hZq h1;have HK:=hZq h2;have HN:=hZq h1.1;have HM:=hZq h2.1;have B1:=hZq b1;have B2:=hZq b2;clear h1 h2 b1 b2
 by_cases hnm:n=m
 ·have g0:((n:Int) != (m:Int))=false:=by simp [hnm]
  have HNM:=hZq hnm;clear hnm;go_enter Tryz.func15,Tryz.ntmps15;go_wp2;go_loopw [5,6] (fun si _ wr=>∃ i:Nat,i<=n/\si=.int .i64 (i:Nat)/\(L.take i).map strP=(M.take i).map strP/\w.grownBy wr none) (fun si _ _=>n - (intOf si).toNat)
  case atStart=>exact ⟨0,Nat.zero_le _,rfl,rfl,World.grownBy.refl _ _⟩
  case round =>
   obtain ⟨i,hi,rfl,he,hg⟩:=hrel;have HG:=hZq hg;have HE:=hZq he;clear hg he
   by_cases hlt:i<n
   ·obtain ⟨p,hp⟩:∃ p,L[i]?=some p:=⟨_,List.getElem?_eq_getElem (by have:=HN.out;omega)⟩
    obtain ⟨q,hq⟩:∃ p,M[i]?=some p:=⟨_,List.getElem?_eq_getElem (by have:=HM.out;have:=HNM.out;omega)⟩;obtain ⟨b1,off1,ao1,c1,bo1,d1,rfl,q1,q2,q3,q5⟩:=HL.out.get hp;obtain ⟨b2,off2,ao2,c2,bo2,d2,rfl,r1,r2,r3,r5⟩:=HK.out.get hq;have t1:=B1.out p (List.mem_of_getElem? hp);have t2:=B2.out q (List.mem_of_getElem? hq);have HSP:=hZq (fun (W:World) (hW:W.heap=wr.heap)=>samePairB ao1 bo1 ao2 bo2 _ _ c1 d1 _ _ c2 d2 p.key p.val q.key q.val W ((q3.keptN HG.out).heap hW) ((q5.keptN HG.out).heap hW) ((r3.keptN HG.out).heap hW) ((r5.keptN HG.out).heap hW) t1.1 t1.2 t2.1 t2.2);have x1:=HG.out.cell q1 (by simp);have x2:=HG.out.cell q2 (by simp);have y1:=HG.out.cell r1 (by simp);have y2:=HG.out.cell r2 (by simp);have HP:=hZq hp;have HQ:=hZq hq;clear q1 q2 q3 q5 r1 r2 r3 r5 hp hq t1 t2;obtain ⟨e,hee⟩:∃ e,(decide (p.key=q.key) && decide (p.val=q.val))=e:=⟨_,rfl⟩;rw [hee] at HSP;have HEE:=hZq hee;clear hee;generalize p.key.length=n1 at *;generalize p.val.length=m1 at *;generalize q.key.length=n2 at *;generalize q.val.length=m2 at *;have g1:(0:Int)<=(i:Int):=by omega
    have g2:(i:Int)<(n:Int):=by omega
    have g3:(i:Int)<(m:Int):=by have:=HNM.out;omega
    go_upto_region 6 with fail
    go_region_with ((go_at_call 40;refine (HSP.out wr.drew rfl).mono ?_;rintro en w3 ⟨rfl,hg3⟩;have G3:=hZq (gZq HG.out (undrewW hg3));clear hg3))
    all_goals
     cases e with
     | true =>
      go_wp2;go_roundw
      case rel=>exact ⟨i+1,by omega,by go_num,by
       have h:=HEE.out;rw [Bool.and_eq_true,decide_eq_true_eq,decide_eq_true_eq] at h;rw [takeS HP.out,takeS HQ.out,List.map_append,List.map_append,HE.out];simp only [List.map_cons,List.map_nil,str_eq h.1 h.2],G3.out⟩
      case measure=>simp [intOf];omega
     | false =>
      go_wp2;go_ret;exact ⟨⟨false,rfl,fun h=>by cases h⟩,G3.out⟩
   ·obtain rfl:i=n:=by omega
    have j1:¬ (i:Int)<(i:Int):=by omega
    go_wp2;go_ret;refine ⟨⟨true,rfl,fun _=>?_⟩,HG.out⟩;have h:=HE.out;rw [List.take_of_length_le (by have:=HN.out;omega),List.take_of_length_le (by have:=HM.out;have:=HNM.out;omega)] at h;exact h
 ·have g0:((n:Int) != (m:Int))=true:=by simp;omega
  clear hnm;go_enter Tryz.func15,Tryz.ntmps15;go_wp2;go_ret;exact ⟨⟨false,rfl,fun h=>by cases h⟩,World.grownBy.refl _ _⟩
def noK (x:NoT):NoT:=⟨x.no,x.lv,x.ps,x.ss,[]⟩
theorem alike10 (pa ca sa ka pb cb sb kb la lb:Option Addr)(pc cc sc kc pd cd sd kd n c m d:Nat)(x y:NoT)(xs ys:List NoT)(w:World)(h1:NoW w pa pc ca sa ka x)(h2:NoW w pb pd cb sb kb y)(hx:NlW w la xs)(hy:NlW w lb ys)
  (hn:xs.length=n) (hm:ys.length=m) (_:n<=100000) (_:m<=100000) (he:noK x=noK y) (hkl:x.ks.length=y.ks.length) (l1:x.ps.length<=100000000) (l2:x.ss.length<=100000000) (l3:x.ks.length<=100000000) (l4:∀ p∈x.ps,p.chain.length<=100000000)
  (hk:∀ (i k1 k2:Nat),x.ks[i]?=some k1->y.ks[i]?=some k2->∃ u v,xs[k1]?=some u/\ys[k2]?=some v/\u.no=v.no) :
  Calls Tryz.prog 22 #[.agg #[.int .i64 x.no,.int .i64 (x.lv:Int),.slice pa x.ps.length pc,.slice ca x.ps.length cc,.slice sa x.ss.length sc,.slice ka x.ks.length kc],.agg #[.int .i64 y.no,.int .i64 (y.lv:Int),.slice pb y.ps.length pd,.slice cb y.ps.length cd,.slice sb y.ss.length sd,.slice kb y.ks.length kd],.slice la n c,.slice lb m d] w fun en w'=>en=.returned (.bool true)/\w.grownBy w' none:=by
 have eno:y.no=x.no:=(congrArg NoT.no he).symm;have elv:y.lv=x.lv:=(congrArg NoT.lv he).symm;have eps:y.ps=x.ps:=(congrArg NoT.ps he).symm;have ess:y.ss=x.ss:=(congrArg NoT.ss he).symm
 have h2':NoW w pb pd cb sb none (noK x):=by
  have:=h2;exact ⟨by show MpW w pb x.ps.length pd x.ps;rw [<- eps];exact h2.p,by show ZlW w cb (x.ps.map PrT.chain);rw [<- eps];exact h2.c,by show BlW w sb x.ss;rw [<- ess];exact h2.s,fun i z hz=>by simp [noK] at hz⟩
 have h1':NoW w pa pc ca sa none (noK x):=⟨h1.p,h1.c,h1.s,fun i z hz=>by simp [noK] at hz⟩;have K1:=hZq h1.k;have K2:=hZq h2.k;have SN:=hZq (fun (W:World) (hW:w.grownBy W none)=>sameNode10 pa ca sa none pb cb sb none pc cc sc 0 pd cd sd 0 (noK x) x.ps.length x.ss.length 0 W (h1'.kept hW) (h2'.kept hW) (by rw [List.length_map];rfl) rfl rfl l1 (by omega) (by omega) (fun p hp=>by have:=l4 p hp;omega));rw [eno,elv,eps,ess,<- hkl];have HX:=hZq hx;have HY:=hZq hy;have HN:=hZq hn;have HM:=hZq hm;have HK:=hZq hk;have HKL:=hZq hkl;clear h1 h2 h1' h2' hx hy hn hm hk hkl eno elv eps ess he l1 l2 l4;have e1:(noK x).ps.length=x.ps.length:=rfl;have e2:(noK x).no=x.no:=rfl;have e3:(noK x).lv=x.lv:=rfl;rw [e1,e2,e3] at SN;clear e1 e2 e3;obtain ⟨pn,hpn⟩:∃ pn,x.ps.length=pn:=⟨_,rfl⟩;obtain ⟨sn,hsn⟩:∃ sn,x.ss.length=sn:=⟨_,rfl⟩;obtain ⟨kn,hkn⟩:∃ kn,x.ks.length=kn:=⟨_,rfl⟩;obtain ⟨no,hno⟩:∃ no,x.no=no:=⟨_,rfl⟩;obtain ⟨lv,hlv⟩:∃ lv:Int,(x.lv:Int)=lv:=⟨_,rfl⟩;rw [hkn] at l3;rw [hpn,hsn,hno,hlv] at SN;rw [hpn,hsn,hkn,hno,hlv];have HKN:=hZq hkn;clear hpn hsn hkn hno hlv;have ga:=World.grownBy_alloc w (.cells #[.int .i64 no,.int .i64 lv,.slice pa pn pc,.slice ca pn cc,.slice sa sn sc,.slice ka kn kc] 54) none;have gb:=World.grownBy_alloc (w.alloc (.cells #[.int .i64 no,.int .i64 lv,.slice pa pn pc,.slice ca pn cc,.slice sa sn sc,.slice ka kn kc] 54)) (.cells #[.int .i64 no,.int .i64 lv,.slice pb pn pd,.slice cb pn cd,.slice sb sn sd,.slice kb kn kd] 54) none;have X1:=hZq (heap_kept (heap_at0 w #[.int .i64 no,.int .i64 lv,.slice pa pn pc,.slice ca pn cc,.slice sa sn sc,.slice ka kn kc] 54) gb);have Y1:=hZq (heap_at0 (w.alloc (.cells #[.int .i64 no,.int .i64 lv,.slice pa pn pc,.slice ca pn cc,.slice sa sn sc,.slice ka kn kc] 54)) #[.int .i64 no,.int .i64 lv,.slice pb pn pd,.slice cb pn cd,.slice sb sn sd,.slice kb kn kd] 54);have hs1:(w.alloc (.cells #[.int .i64 no,.int .i64 lv,.slice pa pn pc,.slice ca pn cc,.slice sa sn sc,.slice ka kn kc] 54)).heap.size=w.heap.size+1:=by simp
 rw [hs1] at Y1;have HG:=hZq (gZq ga gb);clear ga gb hs1;go_enter Tryz.func22,Tryz.ntmps22;go_upto_region 1 with fail
 generalize (w.alloc (.cells #[.int .i64 no,.int .i64 lv,.slice pa pn pc,.slice ca pn cc,.slice sa sn sc,.slice ka kn kc] 54)).alloc (.cells #[.int .i64 no,.int .i64 lv,.slice pb pn pd,.slice cb pn cd,.slice sb sn sd,.slice kb kn kd] 54)=w1 at *;obtain ⟨B,hB⟩:∃ B,w.heap.size=B:=⟨_,rfl⟩;rw [hB] at X1 Y1 ⊢;have HBB:=hZq hB;clear hB;have x5:w1.cell? ⟨B,5,none⟩=some (.slice ka kn kc):=(C6.of X1.out).2.2.2.2.2;have y5:w1.cell? ⟨B+1,5,none⟩=some (.slice kb kn kd):=(C6.of Y1.out).2.2.2.2.2;have hb:((kn:Int) != (kn:Int))=false:=by simp
 go_upto_block 0 with fail
 go_wp2_with fail
 go_loopw [9,10,11] (fun s9 _ _ wr=>∃ i:Nat,i<=kn/\s9=.int .i64 (i:Nat)/\Qt w1 wr) (fun s9 _ _ _=>kn - (intOf s9).toNat)
 case atStart=>exact ⟨0,Nat.zero_le _,rfl,Qt.refl _⟩
 case round =>
  obtain ⟨i,hi,rfl,hq⟩:=hrel;have HQ:=hZq hq;clear hq;have e5:=(HQ.out.cell _).trans x5;have f5:=(HQ.out.cell _).trans y5
  by_cases hlt:i<kn
  ·obtain ⟨k1,hk1⟩:∃ k,x.ks[i]?=some k:=⟨_,List.getElem?_eq_getElem (by have:=HKN.out;omega)⟩
   obtain ⟨k2,hk2⟩:∃ k,y.ks[i]?=some k:=⟨_,List.getElem?_eq_getElem (by have:=HKN.out;have:=HKL.out;omega)⟩;obtain ⟨u,v,hu,hv,huv⟩:=HK.out i k1 k2 hk1 hk2;obtain ⟨b1,o1,rfl,q1⟩:=K1.out i (k1:Int) (by rw [List.getElem?_map,hk1];rfl);obtain ⟨b2,o2,rfl,q2⟩:=K2.out i (k2:Int) (by rw [List.getElem?_map,hk2];rfl);obtain ⟨b3,o3,_,_,_,_,_,_,_,_,rfl,n3⟩:=HX.out k1 u hu;obtain ⟨b4,o4,_,_,_,_,_,_,_,_,rfl,n4⟩:=HY.out k2 v hv;have g1:=(HQ.out.cell _).trans (keep1 q1 HG.out);have g2:=(HQ.out.cell _).trans (keep1 q2 HG.out);have g3:=(HQ.out.cell _).trans (keep1 n3.c0 HG.out);have g4:=(HQ.out.cell _).trans (keep1 n4.c0 HG.out);rw [<- huv] at g4;have r1:=(List.getElem?_eq_some_iff.1 hu).1;have r2:=(List.getElem?_eq_some_iff.1 hv).1;have hnn:=HN.out;have hmm:=HM.out;have j0:(0:Int)<=(i:Int):=by omega
   have j1:(i:Int)<(kn:Int):=by omega
   have j2:(0:Int)<=(k1:Int):=by omega
   have j3:(0:Int)<=(k2:Int):=by omega
   have j4:(k1:Int)<(n:Int):=by omega
   have j5:(k2:Int)<(m:Int):=by omega
   have d1:decide ((k1:Int)<0)=false:=by simp
   have d2:decide ((k2:Int)<0)=false:=by simp
   have d3:decide ((n:Int)<=(k1:Int))=false:=by simp;omega
   have d4:decide ((m:Int)<=(k2:Int))=false:=by simp;omega
   have d5:decide (n<=k1)=false:=by simp;omega
   have d6:decide (m<=k2)=false:=by simp;omega
   have d7:(u.no != u.no)=false:=by simp
   generalize u.no=un at *;clear hk1 hk2 hu hv huv q1 q2 n3 n4 r1 r2 hnn hmm;go_wp2
   go_quiet (fail)
   generalize hwd:wr.drewN _=w9 at *;have q9:Qt wr w9:=by rw [<- hwd];exact Qt.drewN _ _
   have Q9:=hZq (HQ.out.trans q9);clear hwd q9;go_wp2;go_roundw
   case rel=>exact ⟨i+1,by omega,by go_num,Q9.out⟩
   case measure=>simp [intOf];omega
  ·obtain rfl:i=kn:=by omega
   have j1:¬ (i:Int)<(i:Int):=by omega
   have XR:=hZq (show wr.heap[B]?=some (.cells #[.int .i64 no,.int .i64 lv,.slice pa pn pc,.slice ca pn cc,.slice sa sn sc,.slice ka i kc] 54 (0,0)) by rw [HQ.out.heap];exact X1.out);have YR:=hZq (show wr.heap[B+1]?=some (.cells #[.int .i64 no,.int .i64 lv,.slice pb pn pd,.slice cb pn cd,.slice sb sn sd,.slice kb i kd] 54 (0,0)) by rw [HQ.out.heap];exact Y1.out);have GR:=hZq (gZq HG.out (HQ.out.grown none));have z5:=frozen_of_row wr B 5 _ _ XR.out;have X2:Hid ((wr.setCell ⟨B,5,none⟩ (.slice none 0 0)).heap[B]?=some (.cells #[.int .i64 no,.int .i64 lv,.slice pa pn pc,.slice ca pn cc,.slice sa sn sc,.slice none 0 0] 54 (0,0))):=heap_setCell_same wr B 5 _ _ (.slice none 0 0) XR.out
   have Y2:Hid ((wr.setCell ⟨B,5,none⟩ (.slice none 0 0)).heap[B+1]?=some (.cells #[.int .i64 no,.int .i64 lv,.slice pb pn pd,.slice cb pn cd,.slice sb sn sd,.slice kb i kd] 54 (0,0))):=by
    show _=_
    rw [heap_setCell_other wr ⟨B,5,none⟩ (B+1) _ (by show ¬ B+1=B;omega)];exact YR.out
   have G2:=hZq (grown_new GR.out (grown_cell wr B 5 (.slice none 0 0)) (by have:=HBB.out;omega));go_upto_region 11 with fail
   generalize wr.setCell ⟨B,5,none⟩ (.slice none 0 0)=w2 at *;clear e5 f5 z5 x5 y5;have y6:w2.cell? ⟨B+1,5,none⟩=some (.slice kb i kd):=(C6.of Y2.out).2.2.2.2.2;have z6:=frozen_of_row w2 (B+1) 5 _ _ Y2.out;have Y3:Hid ((w2.setCell ⟨B+1,5,none⟩ (.slice none 0 0)).heap[B+1]?=some (.cells #[.int .i64 no,.int .i64 lv,.slice pb pn pd,.slice cb pn cd,.slice sb sn sd,.slice none 0 0] 54 (0,0))):=heap_setCell_same w2 (B+1) 5 _ _ (.slice none 0 0) Y2.out
   have X3:Hid ((w2.setCell ⟨B+1,5,none⟩ (.slice none 0 0)).heap[B]?=some (.cells #[.int .i64 no,.int .i64 lv,.slice pa pn pc,.slice ca pn cc,.slice sa sn sc,.slice none 0 0] 54 (0,0))):=by
    show _=_
    rw [heap_setCell_other w2 ⟨B+1,5,none⟩ B _ (by show ¬ B=B+1;omega)];exact X2.out
   have G3:=hZq (grown_new G2.out (grown_cell w2 (B+1) 5 (.slice none 0 0)) (by have:=HBB.out;omega));go_upto_region 12 with fail
   generalize w2.setCell ⟨B+1,5,none⟩ (.slice none 0 0)=w3 at *;clear y6 z6;obtain ⟨a0,a1,a2,a3,a4,a5⟩:=C6.of X3.out;obtain ⟨b0,b1,b2,b3,b4,b5⟩:=C6.of Y3.out
   go_wp2_with fail
   refine (SN.out w3 G3.out).mono ?_;rintro en w4 ⟨rfl,hg4⟩;have G4:=hZq (gZq G3.out hg4);clear hg4;go_wp2;go_ret;exact ⟨rfl,G4.out⟩
def CofP (w:World)(s:List Int)(en:Ending):Prop:=∃ ao c,en=.returned (.tuple #[.slice ao s.length c,.bool true])/\ZrW w ao s
theorem chainOf10 (a:Option Addr)(n c:Nat)(ka:Option Addr)(kn kc:Nat)(key:List Int)(q:PrT)(xs:List NoT)(w:World)(h:NlW w a xs)(hn:xs.length=n)(hm:n<=100000)(hl:∀ v∈xs,v.ps.length<=100000)(hk:Byt w ka kn kc key)(bk:Bt key)(hb:∀ v∈xs,∀ p∈v.ps,Bt p.key)
  (hin:∃ v∈xs,∃ p∈v.ps,p.key=key) (huq:∀ v∈xs,∀ p∈v.ps,p.key=key->p=q) :
  Calls Tryz.prog 43 #[.slice a n c,.slice ka kn kc] w fun en w'=>CofP w q.chain en/\Qt w w':=by
 have HX:=hZq h;have HN:=hZq hn;have HL:=hZq hl;have HK:=hZq hk;have BK:=hZq bk;have HB:=hZq hb;have HI:=hZq hin;have HU:=hZq huq;clear h hn hl hk bk hb hin huq;go_enter Tryz.func43,Tryz.ntmps43
 go_wp2_with fail
 go_loopw [4,5,6,7,8] (fun _ _ s6 _ _ wr=>∃ i:Nat,i<=n/\s6=.int .i64 (i:Nat)/\Qt w wr/\∀ (j:Nat) (v:NoT),j<i->xs[j]?=some v->∀ p∈v.ps,p.key≠key) (fun _ _ s6 _ _ _=>n - (intOf s6).toNat)
 case atStart=>exact ⟨0,Nat.zero_le _,rfl,Qt.refl _,fun j v h=>by omega⟩
 case round =>
  obtain ⟨i,hi,rfl,hq,hall⟩:=hrel;have HQ:=hZq hq;have HA:=hZq hall;clear hq hall
  by_cases hlt:i<n
  ·obtain ⟨v,hv⟩:∃ v,xs[i]?=some v:=⟨_,List.getElem?_eq_getElem (by have:=HN.out;omega)⟩
   obtain ⟨b,off,pa,pc,ca,cc,sa,sc,na,nc,rfl,e⟩:=HX.out i v hv;have hvm:=List.mem_of_getElem? hv;have HV:=hZq hv;have EX:=hZq e;have i0:(0:Int)<=(i:Int):=by omega
   have i1:(i:Int)<(n:Int):=by omega
   have hpl:=HL.out v hvm;obtain ⟨pn,hpn⟩:∃ pn,v.ps.length=pn:=⟨_,rfl⟩;have HPN:=hZq hpn;have BV:=hZq (HB.out v hvm);have UV:=hZq (HU.out v hvm);rw [hpn] at hpl;clear hv e hvm hpn
   go_wp2_with fail
   go_loopw [4,5,7,8] (fun _ _ s7 _ wz=>∃ k:Nat,k<=pn/\s7=.int .i64 (k:Nat)/\Qt w wz/\∀ p∈v.ps.take k,p.key≠key) (fun _ _ s7 _ _=>pn - (intOf s7).toNat)
   case atStart=>exact ⟨0,Nat.zero_le _,rfl,HQ.out,fun p h=>by simp at h⟩
   case round =>
    obtain ⟨k,hk,rfl,hq2,hall2⟩:=hrel;have HQ2:=hZq hq2;have HA2:=hZq hall2;have c2:=(hq2.cell _).trans EX.out.c2;have c3:=(hq2.cell _).trans EX.out.c3;rw [HPN.out] at c2 c3;clear hq2 hall2
    by_cases hkl:k<pn
    ·obtain ⟨p,hp⟩:∃ p,v.ps[k]?=some p:=⟨_,List.getElem?_eq_getElem (by have:=HPN.out;omega)⟩
     have hpm:=List.mem_of_getElem? hp;obtain ⟨pb,po,pka,pkc,pva,pvc,hpa,d0,d1,b0,b1⟩:=EX.out.r.p.get hp;obtain ⟨cb,co,cao,ccc,hca,q2,q3⟩:=EX.out.r.c k p.chain (by rw [List.getElem?_map,hp];rfl);subst hpa hca;have e0:=(HQ2.out.cell _).trans d0;have e2:=(HQ2.out.cell _).trans q2;have SC:=hZq (sameW pka ka p.key.length kn pkc kc p.key key wr (b0.heap HQ2.out.heap) (HK.out.heap HQ2.out.heap) (BV.out p hpm) BK.out);have Q3:=hZq q3;have HPM:=hZq hpm;have HP:=hZq hp;obtain ⟨pl,hpl2⟩:∃ pl,p.key.length=pl:=⟨_,rfl⟩;rw [hpl2] at e0 SC;have j0:(0:Int)<=(k:Int):=by omega
     have j1:(k:Int)<(pn:Int):=by omega
     clear d0 d1 b0 b1 q2 q3 hp hpm hpl2
     by_cases hc:p.key=key
     ·rw [decide_eq_true hc] at SC
      have hpq:=UV.out p HPM.out hc;subst hpq;obtain ⟨cl,hcl⟩:∃ cl,p.chain.length=cl:=⟨_,rfl⟩;rw [hcl] at e2;have HCL:=hZq hcl;clear hcl hc
      go_wp2_with fail
      refine SC.out.mono ?_;rintro en wz ⟨rfl,hwz⟩;rw [hwz];clear hwz SC;go_wp2
      go_ret2
      exact ⟨⟨cao,ccc,by rw [HCL.out];rfl,Q3.out⟩,HQ2.out⟩
     ·rw [decide_eq_false hc] at SC
      have HC:=hZq hc;clear hc
      go_wp2_with fail
      refine SC.out.mono ?_;rintro en wz ⟨rfl,hwz⟩;rw [hwz];clear hwz SC;go_wp2;go_roundw
      case rel=>exact ⟨k+1,by omega,by go_num,HQ2.out,by
       rw [takeS HP.out];intro p' hp';rcases List.mem_append.1 hp' with h | h
       ·exact HA2.out p' h
       ·rw [List.mem_singleton.1 h]
        exact HC.out⟩
      case measure=>simp [intOf];omega
    ·obtain rfl:k=pn:=by omega
     have j1:¬ (k:Int)<(k:Int):=by omega
     have HT:Hid (∀ p∈v.ps,p.key≠key):=by
      have h:=HA2.out;rw [List.take_of_length_le (by have:=HPN.out;omega)] at h;exact h
     go_wp2;go_roundw
     case rel=>exact ⟨i+1,by omega,by go_num,HQ2.out,fun j y h1 h2=>by
      by_cases hj:j=i
      ·subst hj
       rw [HV.out] at h2;cases h2;exact HT.out
      ·exact HA.out j y (by omega) h2⟩
     case measure=>simp [intOf];omega
  ·exfalso
   obtain ⟨v,hv,p,hp,hpk⟩:=HI.out;obtain ⟨j,hj⟩:=List.getElem?_of_mem hv;exact HA.out j v (by have:=(List.getElem?_eq_some_iff.1 hj).1;have:=HN.out;omega) hj p hp hpk
theorem chains10 (a b:Option Addr)(n m c d:Nat)(ka:Option Addr)(kn kc:Nat)(key:List Int)(xs ys:List NoT)(w:World)(h:NlW w a xs)(h2:NlW w b ys)(hn:xs.length=n)(hm:ys.length=m)(hn0:n<=100000)(hm0:m<=100000)(hl:∀ v∈xs,v.ps.length<=100000)(hl2:∀ v∈ys,v.ps.length<=100000)(hk:Byt w ka kn kc key)(bk:Bt key)(hb:∀ v∈xs,∀ p∈v.ps,Bt p.key)(hb2:∀ v∈ys,∀ p∈v.ps,Bt p.key/\p.val.length<=100000000/\p.chain.length<=100000000)
  (hch:∀ v∈ys,∀ p∈v.ps,p.key≠key->(∃ u∈xs,∃ p'∈u.ps,p'.key=p.key)/\∀ u∈xs,∀ p'∈u.ps,p'.key=p.key->p'=p) :
  Calls Tryz.prog 23 #[.slice a n c,.slice b m d,.slice ka kn kc] w fun en w'=>en=.returned (.bool true)/\Qt w w':=by
 have HX:=hZq h;have HY:=hZq h2;have HN:=hZq hn;have HM:=hZq hm;have HL:=hZq hl;have HL2:=hZq hl2;have HK:=hZq hk;have BK:=hZq bk;have HB:=hZq hb;have HB2:=hZq hb2;have HC:=hZq hch;clear h h2 hn hm hl hl2 hk bk hb hb2 hch;go_enter Tryz.func23,Tryz.ntmps23
 go_wp2_with fail
 go_loopw [7,8,9,10,11] (fun s7 _ _ _ _ wr=>∃ i:Nat,i<=m/\s7=.int .i64 (i:Nat)/\Qt w wr) (fun s7 _ _ _ _ _=>m - (intOf s7).toNat)
 case atStart=>exact ⟨0,Nat.zero_le _,rfl,Qt.refl _⟩
 case round =>
  obtain ⟨i,hi,rfl,hq⟩:=hrel;have HQ:=hZq hq;clear hq
  by_cases hlt:i<m
  ·obtain ⟨v,hv⟩:∃ v,ys[i]?=some v:=⟨_,List.getElem?_eq_getElem (by have:=HM.out;omega)⟩
   obtain ⟨vb,off,pa,pc,ca,cc,sa,sc,na,nc,rfl,e⟩:=HY.out i v hv;have hvm:=List.mem_of_getElem? hv;have EX:=hZq e;have i0:(0:Int)<=(i:Int):=by omega
   have i1:(i:Int)<(m:Int):=by omega
   have hpl:=HL2.out v hvm;obtain ⟨pn,hpn⟩:∃ pn,v.ps.length=pn:=⟨_,rfl⟩;have HPN:=hZq hpn;have BV:=hZq (HB2.out v hvm);have CV:=hZq (HC.out v hvm);rw [hpn] at hpl;clear hv e hvm hpn
   go_wp2_with fail
   go_loopw [8,9,10,11] (fun s8 _ _ _ wz=>∃ k:Nat,k<=pn/\s8=.int .i64 (k:Nat)/\Qt w wz) (fun s8 _ _ _ _=>pn - (intOf s8).toNat)
   case atStart=>exact ⟨0,Nat.zero_le _,rfl,HQ.out⟩
   case round =>
    obtain ⟨k,hk,rfl,hq2⟩:=hrel;have HQ2:=hZq hq2;have c2:=(hq2.cell _).trans EX.out.c2;have c3:=(hq2.cell _).trans EX.out.c3;rw [HPN.out] at c2 c3;clear hq2
    by_cases hkl:k<pn
    ·obtain ⟨p,hp⟩:∃ p,v.ps[k]?=some p:=⟨_,List.getElem?_eq_getElem (by have:=HPN.out;omega)⟩
     have hpm:=List.mem_of_getElem? hp;obtain ⟨pb,po,pka,pkc,pva,pvc,hpa,d0,d1,b0,b1⟩:=EX.out.r.p.get hp;obtain ⟨cb,co,cao,ccc,hca,q2,q3⟩:=EX.out.r.c k p.chain (by rw [List.getElem?_map,hp];rfl);subst hpa hca;have e0:=(HQ2.out.cell _).trans d0;have e1:=(HQ2.out.cell _).trans d1;have e2:=(HQ2.out.cell _).trans q2;have SC:=hZq (sameW pka ka p.key.length kn pkc kc p.key key wr (b0.heap HQ2.out.heap) (HK.out.heap HQ2.out.heap) (BV.out p hpm).1 BK.out);have Q3:=hZq q3;have B0:=hZq b0;have HPM:=hZq hpm;have PV:=hZq (BV.out p hpm);obtain ⟨pl,hpl2⟩:∃ pl,p.key.length=pl:=⟨_,rfl⟩;obtain ⟨vl,hvl⟩:∃ vl,p.val.length=vl:=⟨_,rfl⟩;rw [hpl2] at e0 SC B0;rw [hvl] at e1;have j0:(0:Int)<=(k:Int):=by omega
     have j1:(k:Int)<(pn:Int):=by omega
     have hvlb:vl<=100000000:=by have:=PV.out.2.1;omega
     clear d0 d1 b0 b1 q2 q3 hp hpm hpl2 hvl
     by_cases hc:p.key=key
     ·rw [decide_eq_true hc] at SC
      clear hc
      go_wp2_with fail
      refine SC.out.mono ?_;rintro en wz ⟨rfl,hwz⟩;rw [hwz];clear hwz SC;go_wp2;go_roundw
      case rel=>exact ⟨k+1,by omega,by go_num,HQ2.out⟩
      case measure=>simp [intOf];omega
     ·rw [decide_eq_false hc] at SC
      have HNC:=hZq hc;clear hc
      by_cases h5:vl<=512
      ·have v1:(vl:Int)<=512:=by omega
       go_wp2_with fail
       refine SC.out.mono ?_;rintro en wz ⟨rfl,hwz⟩;rw [hwz];clear hwz SC;go_wp2;go_roundw
       case rel=>exact ⟨k+1,by omega,by go_num,HQ2.out⟩
       case measure=>simp [intOf];omega
      ·have v1:¬ (vl:Int)<=512:=by omega
       have v2:decide ((vl:Int)<=512)=false:=decide_eq_false v1;have v3:decide (vl<=512)=false:=decide_eq_false h5;have CW:=hZq (fun (W:World) (hW:Qt w W)=>chainOf10 a n c pka pl pkc p.key p xs W (HX.out.kept (hW.grown none)) HN.out hn0 HL.out (B0.out.heap hW.heap) PV.out.1 HB.out (CV.out p HPM.out HNC.out).1 (CV.out p HPM.out HNC.out).2);obtain ⟨cl,hcl⟩:∃ cl,p.chain.length=cl:=⟨_,rfl⟩;rw [hcl] at e2;have HCL:=hZq hcl;have hclb:cl<=100000000:=by have:=PV.out.2.2;omega
       have k1:¬ (pn:Int)<=(k:Int):=by omega
       have k2:decide ((pn:Int)<=(k:Int))=false:=decide_eq_false k1;have k3:decide (pn<=k)=false:=decide_eq_false (by omega);clear hcl
       go_wp2_with fail
       refine SC.out.mono ?_;rintro en wz ⟨rfl,hwz⟩;rw [hwz];clear hwz SC
       go_wp2_with fail
       refine (CW.out wr HQ2.out).mono ?_;rintro en w5 ⟨⟨oa,oc,rfl,hz5⟩,hq5⟩;rw [HCL.out];have Q5:=hZq (HQ2.out.trans hq5);have SI:=hZq (sameInts10 cao oa cl ccc oc p.chain w5 (Q3.out.heap Q5.out.heap) (hz5.heap hq5.heap) HCL.out (by omega));have c3':=(hq5.cell _).trans c3;have e2':=(hq5.cell _).trans e2;clear hz5 hq5 CW c2 c3 e0 e1 e2
       go_wp2_with fail
       refine SI.out.mono ?_;rintro en w6 ⟨rfl,hq6⟩;have Q6:=hZq (Q5.out.trans hq6);clear hq6 SI;go_wp2;go_roundw
       case rel=>exact ⟨k+1,by omega,by go_num,Q6.out⟩
       case measure=>simp [intOf];omega
    ·obtain rfl:k=pn:=by omega
     have j1:¬ (k:Int)<(k:Int):=by omega
     go_wp2;go_roundw
     case rel=>exact ⟨i+1,by omega,by go_num,HQ2.out⟩
     case measure=>simp [intOf];omega
  ·obtain rfl:i=m:=by omega
   have j1:¬ (i:Int)<(i:Int):=by omega
   go_wp2;go_ret;exact ⟨rfl,HQ.out⟩
theorem srt_uniq {L:List PrT}(h:Srt L){p q:PrT}(hp:p∈L)(hq:q∈L)(e:p.key=q.key):p=q:=by
 induction L with
 | nil=>cases hp
 | cons x L ih =>
  obtain ⟨h1,h2⟩:=List.pairwise_cons.1 h;have hz:∀ (a:List Int),¬ cmpZ a a<0:=fun a=>by rw [cmp_self];omega
  rcases List.mem_cons.1 hp with hp1 | hp1
  ·rcases List.mem_cons.1 hq with hq1 | hq1
   ·rw [hp1,hq1]
   ·exact absurd (by have:=h1 q hq1;rw [<- hp1,e] at this;exact this) (hz _)
  ·rcases List.mem_cons.1 hq with hq1 | hq1
   ·exact absurd (by have:=h1 p hp1;rw [<- hq1,e] at this;exact this) (hz _)
   ·exact ih h2 hp1 hq1
theorem told_mem {t:Option TrT}{v:NoT}(hv:v∈tellO t){p:PrT}(hp:p∈v.ps):p∈flatO t:=by
 rw [<- tellO_ps t];exact List.mem_flatMap.2 ⟨v,hv,hp⟩
theorem told_has {t:Option TrT}{p:PrT}(hp:p∈flatO t):∃ u∈tellO t,p∈u.ps:=by
 rw [<- tellO_ps t] at hp;exact List.mem_flatMap.1 hp
theorem sd_srt2 {t:Option TrT}(h:SdT t):Srt (flatO t):=by
 match t,h.ok with
 | none,_=>exact List.Pairwise.nil
 | some t,ho=>exact flat_srt t.lv t.root ho
theorem sd_vp2 {t:Option TrT}(h:SdT t):∀ p∈flatO t,Bt p.key/\Bt p.val:=fun p hp=>by
 match t,h.ok,hp with
 | some t,ho,hp =>
  have hv:=flat_vp t.lv t.root ho p hp;exact ⟨hv.kb,hv.vb⟩
 | none,_,hp=>simp [flatO] at hp
theorem alike_of {l m:List NoT}{p:TrT}{x y:NoT}(hx:TeT l 0 p x)(hy:TeT m 0 p y):noK x=noK y/\x.ks.length=y.ks.length/\∀ (i k1 k2:Nat),x.ks[i]?=some k1->y.ks[i]?=some k2->∃ u v,l[k1]?=some u/\m[k2]?=some v/\u.no=v.no:=by
 refine ⟨?_,by rw [hx.kl,hy.kl],fun i k1 k2 h1 h2=>?_⟩
 ·unfold noK
  rw [hx.no,hx.lv,hx.ps,hx.ss,hy.no,hy.lv,hy.ps,hy.ss]
 ·have hi:=(List.getElem?_eq_some_iff.1 h1).1
  obtain ⟨q,hq⟩:∃ q,(kidsT p)[i]?=some q:=⟨_,List.getElem?_eq_getElem (by rw [<- hx.kl];exact hi)⟩;obtain ⟨a1,u,b1,_,b3,b4⟩:=hx.kd i q hq;obtain ⟨a2,v,c1,_,c3,c4⟩:=hy.kd i q hq;rw [h1] at b1;rw [h2] at c1;cases b1;cases c1;exact ⟨u,v,b3,c3,by rw [b4,c4]⟩
structure ShP (t u:Option TrT)(key:List Int):Prop where
 fr:frO t=0
 sdt:SdT t
 sdu:SdT u
 lt:(flatO t).length<=2000
 lu:(flatO u).length<=2001
 new:neO u<=highO t*highO t+highO t+1
 sh:∀ (i:Nat) (v:NoT),(tellO u)[i]?=some v->v.no≠0->∃ p,TeT (tellO u) 0 p v/\(∃ (i':Nat) (v':NoT),(tellO t)[i']?=some v'/\v'.no=v.no)/\∀ (i':Nat) (v':NoT),(tellO t)[i']?=some v'->v'.no=v.no->TeT (tellO t) 0 p v'
 ch:∀ v∈tellO u,∀ p∈v.ps,p.key≠key->(∃ u∈tellO t,∃ p'∈u.ps,p'.key=p.key)/\∀ u∈tellO t,∀ p'∈u.ps,p'.key=p.key->p'=p
 same:(flatO t).map strP=(flatO u).map strP->neO u=0/\(tellO u).length=(tellO t).length
theorem sh_of {t:Option TrT}{key val:List Int}{gone:Bool}(sd:SdT t)(hn:HnO t)(fn:FnO t)(hf:frO t=0)(hl:(flatO t).length<=2000)(bk:Bt key)(bv:Bt val):ShP t (stO t key val gone) key:=by
 obtain ⟨su,fu⟩:=st_sd (gone:=gone) sd bk bv;refine ⟨hf,sd,su,hl,?_,ne_st sd hn hf bk bv,fun i v hv h0=>shares fn (fun P hP h=>st_her hP h) i v hv h0,fun v hv p hp hk=>?_,fun e=>?_⟩
 ·have h1:=congrArg List.length fu
  have h2:=dos_len (L:=(flatO t).map strP) (key:=key) (val:=val) (gone:=gone);rw [List.length_map] at h1 h2
  split at h2 <;> omega
 ·have h1:=st_chain sd bk bv (told_mem hv hp) hk
  obtain ⟨u,h2,h3⟩:=told_has h1;exact ⟨⟨u,h2,p,h3,rfl⟩,fun u' hu' p' hp' e=>srt_uniq (sd_srt2 sd) (told_mem hu' hp') h1 e⟩
 ·have h1:=st_same sd bk bv e
  rw [h1];exact ⟨(ne_fresh hn hf).1,rfl⟩
theorem low_tree2 {t:Option TrT}(ho:OkO t)(hj:NjO t)(hr:RkO t)(hf:(flatO t).length<=2500):lvO t<=6:=by
 match t,ho,hj,hr,hf with
 | none,_,_,_,_=>exact Nat.zero_le _
 | some ⟨0,_⟩,_,_,_,_=>exact Nat.zero_le _
 | some ⟨n+1,x⟩,ho,hj,hr,hf =>
  have h1:=root_low ho hj hr;have h2:=lvs_le (n+1) x ho;have h3:(flatT (n+1) x).length<=2500:=hf
  show n+1<=6
  have h0:lowT n<=2500:=Nat.le_trans h1 (Nat.le_trans h2 h3)
  match n,h0 with
  | 0,_=>omega
  | m+1,h0 =>
   have h4:12*3 ^ m<=2500:=h0
   by_cases hm:m<=4
   ·omega
   ·have h5:3 ^ 5<=3 ^ m:=Nat.pow_le_pow_right (by omega) (by omega)
    omega
theorem size_tree2 {t:Option TrT}(ho:OkO t)(hj:NjO t)(hr:RkO t)(hf:(flatO t).length<=2500):sizeO t<=17500:=by
 have h1:=low_tree2 ho hj hr hf
 match t,ho,h1,hf with
 | none,_,_,_=>exact Nat.zero_le _
 | some ⟨n,x⟩,ho,h1,hf =>
  have h2:=size_le n x ho;have h3:(flatT n x).length<=2500:=hf;have h4:n<=6:=h1;have h5:=Nat.mul_le_mul (show n+1<=7 by omega) h3
  show sizeT n x<=17500
  omega
structure TzQ (t:Option TrT):Prop where
 len:(tellO t).length<=17500
 high:highO t<=7
 ps:∀ v∈tellO t,v.ps.length<=2500
 pv:∀ v∈tellO t,∀ p∈v.ps,p.key.length<=255/\p.val.length<=262144/\p.chain.length<=65/\Bt p.key
 ks:∀ v∈tellO t,v.ks.length<=17500/\v.ss.length<=17500/\(∀ s∈v.ss,s.length<=255)/\v.lv<=6
theorem tz_of2 {t:Option TrT}(sd:SdT t)(hf:(flatO t).length<=2500):TzQ t:=by
 have hlow:=low_tree2 sd.ok sd.nj sd.rk hf;have hsz:=size_tree2 sd.ok sd.nj sd.rk hf
 have hps:∀ v∈tellO t,∀ p∈v.ps,p∈flatO t:=fun v hv p hp=>by
  rw [<- tellO_ps t];exact List.mem_flatMap.2 ⟨v,hv,hp⟩
 refine ⟨?_,?_,fun v hv=>?_,fun v hv p hp=>?_,fun v hv=>?_⟩
 ·match t,hsz with
  | none,_=>exact Nat.zero_le _
  | some ⟨n,x⟩,h =>
   show (tellT n 0 x).length<=_
   rw [tell_len];exact h
 ·match t,hlow with
  | none,_=>exact Nat.zero_le _
  | some ⟨n,x⟩,h =>
   have h':n<=6:=h
   show n+1<=7
   omega
 ·rw [<- tellO_ps t] at hf
  rw [flatMap_len] at hf;have h1:v.ps.length<=sumT (fun x:NoT=>x.ps.length) (tellO t):=sumT_mem (fun x:NoT=>x.ps.length) hv;omega
 ·have hm:=hps v hv p hp
  have hc:=sd.ch p hm
  match t,sd.ok,hm with
  | some t,ho,hm =>
   have hv:=flat_vp t.lv t.root ho p hm;exact ⟨hv.k2,hv.v1,hc,hv.kb⟩
  | none,_,hm=>simp [flatO] at hm
 ·match t,sd.ok,hsz,hlow,hv with
  | some ⟨n,x⟩,ho,hsz,hlow,hv =>
   obtain ⟨h1,h2,h3,h4⟩:=told_ok n 0 x ho v hv;have hs:sizeT n x<=17500:=hsz;have hl:n<=6:=hlow;exact ⟨by omega,by omega,h3,by omega⟩
  | none,_,_,_,hv=>simp [tellO] at hv
def ScB (t:TypeId):Bool:=t==32
theorem FrX.box10 {w w':World}{q:Nat}{cs:Array Value}{y:Nat × Nat}(hq:w.heap[q]?=some (.cells cs 32 y))(hg:w.grownBy w' (some q)):FrX ScB w w':=(FrX.refl ScB w).row hg (fun g e=>.inr ⟨32,by cases e;exact ⟨_,_,hq⟩,by decide⟩)
theorem IbT.keptB {w w':World}{e:List Value}{s:List Int}(h:IbT w e s)(hg:FrX ScB w w'):IbT w' e s:=by
 obtain ⟨ao,n,c,h1,h2⟩:=h;exact ⟨ao,n,c,h1,h2.keptX (by decide) hg⟩
theorem PsT.keptB {w w':World}{a:Option Addr}{n c:Nat}{L:List PrT}(h:PsT w a n c L)(hg:FrX ScB w w'):PsT w' a n c L:=SlT.monoX h (by decide) hg (fun _ _ k=>k.keptX (by decide) (by decide) hg)
theorem SsT.keptB {w w':World}{a:Option Addr}{n c:Nat}{L:List (List Int)}(h:SsT w a n c L)(hg:FrX ScB w w'):SsT w' a n c L:=SlT.monoX h (by decide) hg (fun _ _ k=>k.keptB hg)
theorem NodeT.keptB:∀ (n:Nat) {w w':World} {v:Value} {x:NdT n},NodeT n w v x->FrX ScB w w'->NodeT n w' v x
 | 0,w,w',v,x,h,hg=>by
  obtain ⟨b,a,m,c,h1,h2,h3⟩:=h;exact ⟨b,a,m,c,h1,hg.keep _ _ _ _ (by decide) h2,h3.keptB hg⟩
 | n+1,w,w',v,x,h,hg=>by
  obtain ⟨b,a,m,c,sa,sm,sc,h1,h2,h3,h4⟩:=h;exact ⟨b,a,m,c,sa,sm,sc,h1,hg.keep _ _ _ _ (by decide) h2,h3.monoX (by decide) hg (fun _ _ ⟨u,k1,k2⟩=>⟨u,k1,NodeT.keptB n k2 hg⟩),h4.keptB hg⟩
theorem InT.keptB {n:Nat}{w w':World}{e:List Value}{x:NdT n}(h:InT n w e x)(hg:FrX ScB w w'):InT n w' e x:=by
 obtain ⟨u,h1,h2⟩:=h;exact ⟨u,h1,NodeT.keptB n h2 hg⟩
theorem TreeT.keptB {w w':World}{p:Nat}{t:Option TrT}(h:TreeT w p t)(hg:FrX ScB w w'):TreeT w' p t:=by
 obtain ⟨a,m,c,sa,sm,sc,h1,h2⟩:=h;refine ⟨a,m,c,sa,sm,sc,hg.keep _ _ _ _ (by decide) h1,?_⟩;cases t with
 | none=>exact h2
 | some t =>
  have h3:NsT t.lv w a m c [t.root]:=h2;exact SlT.monoX h3 (by decide) hg (fun _ _ k=>k.keptB hg)
theorem own_keptB {w w':World}{base n k:Nat}{t:TypeId}{v:Value}{xs:List Value}(h:w.ownsRow base t k v n xs)(ht:ScB t=false)(hg:FrX ScB w w'):w'.ownsRow base t k v n xs :=
 own_blk h fun i _ ⟨cur,z,e⟩=>by rw [hg.keep i t cur z ht e,e]
theorem IcT.keptB {w w':World}{lo:Nat}{e:List Value}{c:List Int}(h:IcT w lo e c)(hg:FrX ScB w w'):IcT w' lo e c:=by
 obtain ⟨a,n,k,h1,h2,h3⟩:=h;exact ⟨a,n,k,h1,EsT.keptX h2 (by decide) hg,h3⟩
theorem NoM.keptB {w w':World}{Lb lo hi:Nat}{e:List Value}{x:NoT}(h:NoM w Lb lo hi e x)(hg:FrX ScB w w'):NoM w' Lb lo hi e x:=by
 obtain ⟨vp,es,ca,cn,cc,sa,sn,sc,ka,kn,kc,h1,h2,h3,h4,h5,h6,h7,h8⟩:=h;exact ⟨vp,es,ca,cn,cc,sa,sn,sc,ka,kn,kc,h1,own_keptB h2 (by decide) hg,h3,h4.same (fun g _ _ ⟨cur,z,e⟩=>by rw [hg.keep g _ cur z (by decide) e,e]),h5.monoX (by decide) hg (fun _ _ k=>k.keptB hg),h6.keptB hg,EsT.keptX h7 (by decide) hg,h8⟩
theorem ToM.keptB {w w':World}{Lb:Nat}(hg:FrX ScB w w'):∀ {es:List (List Value)} {xs:List NoT} {lo hi:Nat},ToM w Lb es xs lo hi->ToM w' Lb es xs lo hi
 | [],[],_,_,h=>h
 | _::es,_::xs,lo,hi,h=>by
  obtain ⟨m,h1,h2,h3,h4⟩:=h;exact ⟨m,h1,h2,h3.keptB hg,ToM.keptB hg h4⟩
 | [],_::_,_,_,h=>h.elim
 | _::_,[],_,_,h=>h.elim
end Go.Proofs.YtepcgckapoljpaaGreat
