import Derived.Test.YtepcgckapoljpaaGreatQ28
import Derived.Test.YtepcgckapoljpaaGreatQ39
import Derived.Deep.CutBlock
import Derived.Deep.RegionHeld3
set_option maxRecDepth 100000
set_option maxHeartbeats 4000000
namespace Go.Proofs.YtepcgckapoljpaaGreat
open Go.RowKit
def badB (kn vn:Nat)(gone:Bool):Bool:=!gone && (decide (kn<1) || decide (255<kn) || decide (262144<vn))
def nowB (key val:List Int)(gone:Bool):List PrT:=if gone then [] else [⟨key,val,[]⟩]
def dosB (L:List PrT)(key val:List Int)(gone:Bool):List PrT:=if badB key.length val.length gone=true then L else updT L key (nowB key val gone)
theorem NmT.zr {w:World}{a:Option Addr}{n c:Nat}{zs:List Int}(h:NmT w a n c zs):ZrW w a zs:=fun i z hz=>by
 obtain ⟨b,off,h1,_,h3⟩:=h.cell i [.int .i64 z] (by rw [List.getElem?_map,hz];rfl);have:=h3 0 _ rfl;rw [Nat.mul_one,Nat.add_zero] at this;exact ⟨b,off,h1,this⟩
theorem zl_of {w:World}{lb:Nat}{a:Option Addr}{n c:Nat}{C:List (List Int)}(h:SlT w 52 1 (IcT w lb) a n c C):ZlW w a C:=fun i s hs=>by
 obtain ⟨es,h1,h2⟩:=h.ex;obtain ⟨e,e1,ao,m,d,rfl,k1,_⟩:=h2.get hs;obtain ⟨b,off,rfl,_,e2⟩:=h1.cell i _ e1;have:=e2 0 _ rfl;rw [Nat.mul_one,Nat.add_zero] at this;have hl:=k1.num;subst hl;exact ⟨b,off,ao,d,rfl,this,k1.zr⟩
theorem zl_le {w:World}{lb:Nat}{a:Option Addr}{n c:Nat}{C:List (List Int)}(h:SlT w 52 1 (IcT w lb) a n c C):∀ s∈C,s.length<=9223372036854775807:=fun s hs=>by
 obtain ⟨i,hi,rfl⟩:=List.getElem_of_mem hs;obtain ⟨es,h1,h2⟩:=h.ex;obtain ⟨e,e1,ao,m,d,_,k1,_⟩:=h2.get (List.getElem?_eq_getElem hi);have:=k1.num;have h3:=k1.cap;have h4:=k1.c2;omega
theorem SsT.bl {w:World}{a:Option Addr}{n c:Nat}{L:List (List Int)}(h:SsT w a n c L):BlW w a L:=fun i s hs=>by
 obtain ⟨b,off,ao,m,d,h1,h2,h3⟩:=h.str hs;have hl:=h3.b.len;subst hl;exact ⟨b,off,ao,d,h1,h2,h3.b⟩
structure NeX (w:World)(b o:Nat)(pa:Option Addr)(pc:Nat)(ca:Option Addr)(cc:Nat)(sa:Option Addr)(sc:Nat)(ka:Option Addr)(kc:Nat)(x:NoT):Prop where
 c0:w.cell? ⟨b,o,none⟩=some (.int .i64 x.no)
 c1:w.cell? ⟨b,o+1,none⟩=some (.int .i64 (x.lv:Int))
 c2:w.cell? ⟨b,o+2,none⟩=some (.slice pa x.ps.length pc)
 c3:w.cell? ⟨b,o+3,none⟩=some (.slice ca x.ps.length cc)
 c4:w.cell? ⟨b,o+4,none⟩=some (.slice sa x.ss.length sc)
 c5:w.cell? ⟨b,o+5,none⟩=some (.slice ka x.ks.length kc)
 r:NoW w pa pc ca sa ka x
 l1:x.ss.length<=9223372036854775807
 l2:x.ks.length<=9223372036854775807
 l3:∀ p∈x.ps,p.chain.length<=9223372036854775807
 l4:x.ps.length<=9223372036854775807
theorem NeX.kept {w w':World}{b o:Nat}{pa:Option Addr}{pc:Nat}{ca:Option Addr}{cc:Nat}{sa:Option Addr}{sc:Nat}{ka:Option Addr}{kc:Nat}{x:NoT}(h:NeX w b o pa pc ca cc sa sc ka kc x)(hg:w.grownBy w' none):NeX w' b o pa pc ca cc sa sc ka kc x :=
 ⟨hg.cell h.c0 (by simp),hg.cell h.c1 (by simp),hg.cell h.c2 (by simp),hg.cell h.c3 (by simp),hg.cell h.c4 (by simp),hg.cell h.c5 (by simp),h.r.kept hg,h.l1,h.l2,h.l3,h.l4⟩
def NlW (w:World)(a:Option Addr)(xs:List NoT):Prop:=∀ i x,xs[i]?=some x->∃ b off pa pc ca cc sa sc ka kc,a=some ⟨b,off,none⟩/\NeX w b (off+i*6) pa pc ca cc sa sc ka kc x
theorem NlW.kept {w w':World}{a:Option Addr}{xs:List NoT}(h:NlW w a xs)(hg:w.grownBy w' none):NlW w' a xs:=fun i x hx=>by
 obtain ⟨b,off,pa,pc,ca,cc,sa,sc,ka,kc,h1,h2⟩:=h i x hx;exact ⟨b,off,pa,pc,ca,cc,sa,sc,ka,kc,h1,h2.kept hg⟩
theorem ToM.at {w:World}{lb:Nat}:∀ {es:List (List Value)} {xs:List NoT} {lo hi i:Nat} {x:NoT},ToM w lb es xs lo hi->xs[i]?=some x->∃ e lo' hi',es[i]?=some e/\NoM w lb lo' hi' e x
 | [],[],_,_,i,_,_,hx=>by simp at hx
 | e::es,y::xs,_,_,0,x,h,hx=>by
  obtain ⟨m,_,_,h3,_⟩:=h;have:y=x:=by simpa using hx
  subst this;exact ⟨e,_,_,rfl,h3⟩
 | e::es,y::xs,_,_,i+1,x,h,hx=>by
  obtain ⟨m,_,_,_,h4⟩:=h;obtain ⟨e',lo',hi',k1,k2⟩:=h4.at (i:=i) (x:=x) (by simpa using hx);exact ⟨e',lo',hi',by simpa using k1,k2⟩
 | [],_::_,_,_,_,_,h,_=>h.elim
 | _::_,[],_,_,_,_,h,_=>h.elim
theorem nl_of {w:World}{a:Option Addr}{N c lb lo hi:Nat}{es:List (List Value)}{xs:List NoT}(ho:w.ownsRow lb 54 6 (.slice a N c) N es.flatten)(ht:ToM w lb es xs lo hi):NlW w a xs:=fun i x hx=>by
 obtain ⟨e,lo',hi',he,⟨vp,qs,ca,cn,cc,sa,sn,sc,ka,kn,kc,rfl,o1,o2,o3,o4,o5,o6,o7⟩⟩:=ht.at hx;obtain ⟨pa,pc,rfl⟩:=own_shape10 o1;have hk6:=(List.getElem?_eq_some_iff.1 he).1
 have hNl:es.length*6=es.flatten.length:=by
  have hz:=ht.sz;clear ho ht hx he hk6
  induction es with
  | nil=>rfl
  | cons y es ih =>
   rw [List.flatten_cons,List.length_append,<- ih (fun e he=>hz e (List.mem_cons_of_mem _ he)),List.length_cons,hz y List.mem_cons_self];omega
 have hon:=ho.1
 have hva:∃ g,a=some ⟨g,0,none⟩:=by
  rcases ho.2 with ⟨_,h0⟩ | ⟨g,cap,cur,hv,_⟩
  ·rw [h0] at hon
   omega
  ·exact ⟨g,by injection hv⟩
 obtain ⟨g,rfl⟩:=hva;have hcn:x.ps.length=cn:=by rw [<- o4.len,List.length_map]
 have hsn:x.ss.length=sn:=SlT.len o5;have hkn:x.ks.length=kn:=by rw [<- o6.num,List.length_map]
 have cel:∀ f u,[Value.int .i64 x.no,.int .i64 (x.lv:Int),.slice pa x.ps.length pc,.slice ca cn cc,.slice sa sn sc,.slice ka kn kc][f]?=some u->w.cell? ⟨g,0+i*6+f,none⟩=some u:=fun f u hu=>by
  have h6:f<6:=(List.getElem?_eq_some_iff.1 hu).1;have:=ho.cellAt (i*6+f) (by omega);rw [flat_at ht.sz he hu] at this;rw [Nat.zero_add];exact this
 refine ⟨g,0,pa,pc,ca,cc,sa,sc,ka,kc,rfl,?_⟩
 have hmp:MpW w pa x.ps.length pc x.ps:=by
  obtain ⟨a',c',e1,e2⟩:=MpW.of o1 (pvl_ps o3) rfl;injection e1 with e3 e4 e5
  subst e3;subst e5;exact e2
 have hs5:=SlT.cap o5;have hs4:=o4.cap;have hs6:=And.intro o6.cap o6.c2;refine ⟨cel 0 _ rfl,cel 1 _ rfl,cel 2 _ rfl,?_,?_,?_,⟨hmp,zl_of o4,SsT.bl o5,o6.zr⟩,by omega,by omega,fun p hp=>zl_le o4 _ (List.mem_map.2 ⟨p,hp,rfl⟩),by omega⟩
 ·rw [hcn];exact cel 3 _ rfl
 ·rw [hsn];exact cel 4 _ rfl
 ·rw [hkn];exact cel 5 _ rfl
theorem sameNodes10 (a b:Option Addr)(n c d:Nat)(xs:List NoT)(w:World)(h1:NlW w a xs)(h2:NlW w b xs)(hn:xs.length=n)(h0:n<=100000000)(hp:∀ x∈xs,x.ps.length<=100000000) :
  Calls Tryz.prog 19 #[.slice a n c,.slice b n d] w fun en w'=>en=.returned (.bool true)/\w.grownBy w' none:=by
 have HL:=hZq h1;have HK:=hZq h2;have HP:=hZq hp;clear h1 h2 hp;have g0:((n:Int)==(n:Int))=true:=by simp
 go_enter Tryz.func19,Tryz.ntmps19;go_wp2;go_loopw [5,6] (fun si _ wr=>∃ i:Nat,i<=n/\si=.int .i64 (i:Nat)/\w.grownBy wr none) (fun si _ _=>n - (intOf si).toNat)
 case atStart=>exact ⟨0,Nat.zero_le _,rfl,World.grownBy.refl _ _⟩
 case round =>
  obtain ⟨i,hi,rfl,hg⟩:=hrel;have HG:=hZq hg;clear hg
  by_cases hlt:i<n
  ·obtain ⟨x,hx⟩:∃ x,xs[i]?=some x:=⟨_,List.getElem?_eq_getElem (by omega)⟩
   obtain ⟨b1,off1,pa1,pc1,ca1,cc1,sa1,sc1,ka1,kc1,rfl,e1⟩:=HL.out i x hx;obtain ⟨b2,off2,pa2,pc2,ca2,cc2,sa2,sc2,ka2,kc2,rfl,e2⟩:=HK.out i x hx;have f1:=e1.kept HG.out;have f2:=e2.kept HG.out;have HSP:=hZq (fun (W:World) (hW:wr.grownBy W none)=>sameNode10 pa1 ca1 sa1 ka1 pa2 ca2 sa2 ka2 pc1 cc1 sc1 kc1 pc2 cc2 sc2 kc2 x x.ps.length x.ss.length x.ks.length W (f1.r.kept hW) (f2.r.kept hW) (by rw [List.length_map]) rfl (by rw [List.length_map]) (HP.out x (List.mem_of_getElem? hx)) f1.l1 f1.l2 f1.l3);have x0:=f1.c0;have x1:=f1.c1;have x2:=f1.c2;have x3:=f1.c3;have x4:=f1.c4;have x5:=f1.c5;have y0:=f2.c0;have y1:=f2.c1;have y2:=f2.c2;have y3:=f2.c3;have y4:=f2.c4;have y5:=f2.c5;clear e1 e2 f1 f2 hx;generalize x.ps.length=pn at *;generalize x.ss.length=sn at *;generalize x.ks.length=kn at *;generalize (x.lv:Int)=lv at *;generalize x.no=no at *;have g1:(0:Int)<=(i:Int):=by omega
   have g2:(i:Int)<(n:Int):=by omega
   go_upto_region 6 with fail
   go_region_with ((go_at_call 30;refine (HSP.out wr.drew ((Qt.refl _).drew.grown none)).mono ?_;rintro en w3 ⟨rfl,hg3⟩;have G3:=hZq (gZq HG.out (undrewW hg3));clear hg3))
   all_goals
    go_wp2;go_roundw
    case rel=>exact ⟨i+1,by omega,by go_num,G3.out⟩
    case measure=>simp [intOf];omega
  ·obtain rfl:i=n:=by omega
   go_wp2;go_ret;exact ⟨rfl,HG.out⟩
theorem cell_one10 (w:World)(t:TypeId)(a:Value):∀ j u,[a][j]?=some u->(w.alloc (.cells #[a] t)).cell? ((⟨w.heap.size,0,none⟩:Addr).add j)=some u:=by
 intro j u hu
 match j,hu with
 | 0,hu =>
  have:a=u:=by simpa using hu
  subst this;rw [Addr.add_lit];rw [Lib.cell_of_heap (heap_at0 w #[a] t)]
  rfl
 | j+1,hu=>simp at hu
theorem grown_app10 {w wr w':World}{o:Obj}{base n:Nat}{v:Value}{xs:List Value}{t:TypeId}{sz:Nat}(hg:w.grownBy wr none)(ho:wr.ownsRow base t sz v n xs)(hb:w.heap.size<=base)(h:(wr.alloc o).grownBy w' v.ownBlock):w.grownBy w' none:=by
 have g1:=gZq hg (World.grownBy_alloc wr o none);cases hv:v.ownBlock with
 | none=>rw [hv] at h;exact gZq g1 h
 | some d=>rw [hv] at h;exact grown_new g1 h (Nat.le_trans hb (own_lt10 ho hv).1)
theorem frx_app {w w':World}{o:Obj}{base n:Nat}{v:Value}{xs:List Value}{t:TypeId}{sz:Nat}(ho:w.ownsRow base t sz v n xs)(h:(w.alloc o).grownBy w' v.ownBlock):FrX (fun x=>x==t) w w' :=
 (FrX.of (World.grownBy_alloc w o none)).row h (fun g e=>.inr ⟨t,by
  obtain ⟨cur,z,k⟩:=(own_lt10 ho e).2.2;exact ⟨cur,z,heap_kept k (World.grownBy_alloc w o none)⟩,by simp⟩)
theorem copyInts10 (a:Option Addr)(n cap:Nat)(K:List Int)(w:World)(hl:ZrW w a K)(hn:K.length=n)(hm:n<=100000000) :
  Calls Tryz.prog 54 #[.slice a n cap] w fun en w'=>(∃ v,en=.returned v/\w'.ownsRow w.heap.size 3 1 v n (K.map (Value.int .i64)))/\w.grownBy w' none:=by
 obtain ⟨i1,hi1,hy0,hy1,hy2⟩:=info_parts info_i10;have HL:=hZq hl;clear hl;go_enter Tryz.func54,Tryz.ntmps54
 go_wp2_with (at_make;refine wpList_make_own _ rfl _ _ 52 rfl w.heap.size 3 i1 (.int .i64 0) 1 Tryz.underlying52 hi1 hy0 hy1 _ _ _ n rfl rfl rfl ?b2 ?b3 (Nat.le_refl _) ?_)
 case b2=>rw [hy2];omega
 case b3=>unfold maxLen;omega
 intro w0 hown0 hg0;have O0:=hZq hown0;have G0:=hZq hg0;clear hown0 hg0;go_wp2;go_loopw [3,4] (fun sl si wr=>∃ i:Nat,i<=n/\si=.int .i64 (i:Nat)/\wr.ownsRow w.heap.size 3 1 sl i ((K.map (Value.int .i64)).take i)/\w.grownBy wr none) (fun _ si _=>n - (intOf si).toNat)
 case atStart=>exact ⟨0,Nat.zero_le _,rfl,O0.out,G0.out⟩
 case round =>
  obtain ⟨i,hi',rfl,hown,hg⟩:=hrel;have HO:=hZq hown;have HG:=hZq hg;clear hown hg O0 G0
  by_cases hlt:i<n
  ·obtain ⟨no,hz⟩:∃ z,K[i]?=some z:=⟨_,List.getElem?_eq_getElem (by omega)⟩
   obtain ⟨b1,off,rfl,q2⟩:=HL.out i no hz;have c0:=HG.out.cell q2 (by simp)
   have HTK:Hid ((K.map (Value.int .i64)).take (i+1)=(K.map (Value.int .i64)).take i++[.int .i64 no]):=by
    show _=_
    rw [List.take_add_one,List.getElem?_map,hz]
    rfl
   have g1:(0:Int)<=(i:Int):=by omega
   have g2:(i:Int)<(n:Int):=by omega
   clear q2 hz
   go_wp2_with (at_builtin;refine wpList_append_own _ rfl _ _ 52 rfl w.heap.size 3 i1 (.int .i64 0) 1 8 Tryz.underlying52 hi1 hy0 hy1 hy2 rfl (by decide) _ i ((K.map (Value.int .i64)).take i) rfl (HO.out.alloc _) ⟨wr.heap.size,0,none⟩ 1 1 [.int .i64 no] rfl rfl (cell_one10 _ _ _) (by intro u hu;simp at hu;subst hu;rfl) (by unfold maxLen;omega) (by omega) (by have:=HG.out.size;simp;omega) ?_)
   intro v' w10 ho hg10 _;have HO1:=hZq ho;have HG1:=hZq (grown_app10 HG.out HO.out (Nat.le_refl _) hg10);clear ho hg10 HO HG c0;go_wp2;go_roundw
   case rel=>exact ⟨i+1,by omega,by go_num,by rw [HTK.out];exact HO1.out,HG1.out⟩
   case measure=>simp [intOf];omega
  ·have hin:i=n:=by omega
   subst hin;have e:(K.map (Value.int .i64)).take i=K.map (Value.int .i64):=List.take_of_length_le (by rw [List.length_map];omega);rw [e] at HO;go_wp2;go_ret;exact ⟨⟨_,rfl,HO.out⟩,HG.out⟩
theorem copyLists10 (a:Option Addr)(n cap:Nat)(L:List (List Int))(w:World)(hl:BlW w a L)(hn:L.length=n)(hm:n<=100000000)(hs:∀ s∈L,s.length<=100000000) :
  Calls Tryz.prog 53 #[.slice a n cap] w fun en w'=>(∃ b c,en=.returned (.slice b n c)/\SsT w' b n c L)/\w.grownBy w' none:=by
 obtain ⟨i0,hi,hz0,hz1,hz2⟩:=info_parts info_bytes10;have HL:=hZq hl;have HS:=hZq hs;clear hl hs;go_enter Tryz.func53,Tryz.ntmps53
 go_wp2_with (at_make;refine wpList_make_own _ rfl _ _ 51 rfl w.heap.size 30 i0 (.slice none 0 0) 1 Tryz.underlying51 hi hz0 hz1 _ _ _ n rfl rfl rfl ?b2 ?b3 (Nat.le_refl _) ?_)
 case b2=>rw [hz2];omega
 case b3=>unfold maxLen;omega
 intro w0 hown0 hg0;have O0:=hZq hown0;have G0:=hZq hg0;clear hown0 hg0;go_wp2;go_loopw [3,4,5] (fun sl si _ wr=>∃ (i:Nat) (es:List (List Value)),i<=n/\si=.int .i64 (i:Nat)/\ElyT (IbT wr) es (L.take i)/\wr.ownsRow w.heap.size 30 1 sl i es.flatten/\w.grownBy wr none) (fun _ si _ _=>n - (intOf si).toNat)
 case atStart=>exact ⟨0,[],Nat.zero_le _,rfl,ElyT.nil,O0.out,G0.out⟩
 case round =>
  obtain ⟨i,es,hi',rfl,hsv,hown,hg⟩:=hrel;have HV:=hZq hsv;have HO:=hZq hown;have HG:=hZq hg;clear hsv hown hg O0 G0
  by_cases hlt:i<n
  ·obtain ⟨s,hx⟩:∃ z,L[i]?=some z:=⟨_,List.getElem?_eq_getElem (by omega)⟩
   obtain ⟨b1,off,ao,c,rfl,q2,q3⟩:=HL.out i s hx;have c0:=HG.out.cell q2 (by simp);have hk2:=HS.out _ (List.mem_of_getElem? hx);have HCP:=hZq (refBytes_any ao _ c s wr (q3.keptN HG.out) (by omega))
   have HTK:Hid (L.take (i+1)=L.take i++[s]):=by
    show _=_
    rw [List.take_add_one,hx]
    rfl
   have g1:(0:Int)<=(i:Int):=by omega
   have g2:(i:Int)<(n:Int):=by omega
   clear q2 q3 hx;obtain ⟨k,hk⟩:∃ k,s.length=k:=⟨_,rfl⟩;rw [hk] at c0 HCP hk2;clear hk
   go_wp2_with fail
   refine HCP.out.mono ?_;rintro en w2 ⟨rfl,hown2,hg2,hs2⟩;have B2:Hid (IbT w2 [.slice (some ⟨wr.heap.size,0,none⟩) k k] s):=⟨_,_,_,rfl,BtyT.of_owns hown2⟩;have V2:=hZq (HV.out.mono (fun e x h=>IbT.kept h (FrT.of hg2)));have HO2:=hZq (HO.out.kept hg2 (Classical.em _));have HG2:=hZq (gZq HG.out hg2);have hgl:=HG.out.size;clear hown2 hg2 hs2 HV HO HG c0 HCP;generalize wr.heap.size=g at *
   go_wp2_with (at_builtin;refine wpList_append_own _ rfl _ _ 51 rfl w.heap.size 30 i0 (.slice none 0 0) 1 24 Tryz.underlying51 hi hz0 hz1 hz2 rfl (by decide) _ i es.flatten rfl (HO2.out.alloc _) ⟨w2.heap.size,0,none⟩ 1 1 [.slice (some ⟨g,0,none⟩) k k] rfl rfl (cell_one10 _ _ _) (by intro u hu;simp at hu;subst hu;rfl) (by unfold maxLen;omega) (by omega) (by have:=HG2.out.size;simp;omega) ?_)
   intro v' w4 ho4 hg4 _;have fx:=frx_app HO2.out hg4
   have V4:=hZq ((V2.out.app (ElyT.one B2.out)).mono (J:=IbT w4) (fun e x h=>by
    obtain ⟨ao,n,c,h1,h2⟩:=h;exact ⟨ao,n,c,h1,h2.keptX (by decide) fx⟩))
   have HG4:=hZq (grown_app10 HG2.out HO2.out (Nat.le_refl _) hg4)
   have HO4:Hid (w4.ownsRow w.heap.size 30 1 v' (i+1) (es++[[Value.slice (some ⟨g,0,none⟩) k k]]).flatten):=by
    show _
    rw [List.flatten_append];exact ho4
   clear ho4 hg4 fx V2 B2 HO2 HG2;go_wp2;go_roundw
   case rel=>exact ⟨i+1,_,by omega,by go_num,by rw [HTK.out];exact V4.out,HO4.out,HG4.out⟩
   case measure=>simp [intOf];omega
  ·have hin:i=n:=by omega
   subst hin;have e:L.take i=L:=List.take_of_length_le (by omega);rw [e] at HV
   obtain ⟨b,c,rfl,he⟩:=EsT.of_owns HO.out (by decide) (fun e he=>by
    obtain ⟨j,hj,rfl⟩:=List.getElem_of_mem he;obtain ⟨_,_,_,h1,_⟩:=HV.out.el j _ (L[j]'(by have:=HV.out.len;omega)) (List.getElem?_eq_getElem hj) (List.getElem?_eq_getElem _);rw [h1]
    rfl) (fun e he v hv=>by
    obtain ⟨j,hj,rfl⟩:=List.getElem_of_mem he;obtain ⟨_,_,_,h1,_⟩:=HV.out.el j _ (L[j]'(by have:=HV.out.len;omega)) (List.getElem?_eq_getElem hj) (List.getElem?_eq_getElem _);rw [h1,List.mem_singleton] at hv;subst hv
    rfl)
   have SS:Hid (SsT wr b i c L):=⟨es,he,HV.out⟩;clear he;go_wp2;go_ret;exact ⟨⟨_,_,rfl,SS.out⟩,HG.out⟩
theorem ret_pair10 {fn:Func}{p:Tmp}(h:fn.results=#[.cell p 40])(tmps:Array Value)(w:World)(g:Nat)(x y:Value)(hp:tmps.getD p undef=.pointer (some ⟨g,0,none⟩))(hr:w.heap[g]?=some (.cells #[x,y] 40 (0,0))) :
  (results fn tmps).run Tryz.prog w=.ok (.agg #[x,y]) w:=by
 have hp':tmps[p]?.getD undef=.pointer (some ⟨g,0,none⟩):=by simpa using hp
 simp [results,h,hp',asAddr,run_loadVar_row w g 40 40 #[x,y] (0,0) _ hr Tryz.underlying40 rfl (by rw [size_pair10];rfl)]
theorem grown_cell10 (w:World)(g i:Nat)(v:Value):w.grownBy (w.setCell ⟨g,i,none⟩ v) (some g) :=
 ⟨rfl,rfl,rfl,by simp [World.setCell],fun k _ hk=>Below.heap_setCell _ _ _ _ (fun e=>hk (by rw [e]))⟩
theorem grown_trans10 {a b c:World}{r:Option Nat}(h:a.grownBy b r)(k:b.grownBy c r):a.grownBy c r :=
 ⟨k.os.trans h.os,k.tape.trans h.tape,k.output.trans h.output,Nat.le_trans h.size k.size,fun j hj hn=>(k.block j (Nat.lt_of_lt_of_le hj h.size) hn).trans (h.block j hj hn)⟩
theorem pair_put10 {w:World}{g:Nat}{x y:Value}(e:w.heap[g]?=some (.cells #[x,y] 40 (0,0)))(u v:Value):((w.setCell ⟨g,0,none⟩ u).setCell ⟨g,1,none⟩ v).heap[g]?=some (.cells #[u,v] 40 (0,0))/\w.grownBy ((w.setCell ⟨g,0,none⟩ u).setCell ⟨g,1,none⟩ v) (some g):=by
 have k1:=heap_setCell_same w g 0 _ _ u e;have k2:=heap_setCell_same _ g 1 _ _ v k1;refine ⟨?_,grown_trans10 (grown_cell10 w g 0 u) (grown_cell10 _ g 1 v)⟩;rw [k2]
 rfl
theorem gc10 {w:World}{U b o:Nat}{v0 v1 v:Value}(hne:b≠U)(h:w.cell? ⟨b,o,none⟩=some v):((w.setCell ⟨U,0,none⟩ v0).setCell ⟨U,1,none⟩ v1).cell? ⟨b,o,none⟩=some v :=
 (grown_trans10 (grown_cell10 w U 0 v0) (grown_cell10 _ U 1 v1)).cell h (fun e=>hne (Option.some.inj e))
theorem cell_two10 (w:World)(a b:Value)(t:TypeId):∀ j u,[a,b][j]?=some u->(w.alloc (.cells #[a,b] t)).cell? ((⟨w.heap.size,0,none⟩:Addr).add j)=some u:=by
 intro j u hu
 match j,hu with
 | 0,hu =>
  have:a=u:=by simpa using hu
  subst this;rw [Addr.add_lit,Lib.cell_of_heap (heap_at0 w #[a,b] t)]
  rfl
 | 1,hu =>
  have:b=u:=by simpa using hu
  subst this;rw [Addr.add_lit,Lib.cell_of_heap (heap_at0 w #[a,b] t)]
  rfl
 | j+2,hu=>simp at hu
theorem copyIntss10 (a:Option Addr)(n cap:Nat)(L:List (List Int))(w:World)(hl:ZlW w a L)(hn:L.length=n)(hm:n<=100000000)(hs:∀ s∈L,s.length<=100000000) :
  Calls Tryz.prog 52 #[.slice a n cap] w fun en w'=>(∃ b c,en=.returned (.slice b n c))/\w.grownBy w' none:=by
 obtain ⟨i0,hi,hz0,hz1,hz2⟩:=info_parts info_ints10;have HL:=hZq hl;have HS:=hZq hs;clear hl hs;go_enter Tryz.func52,Tryz.ntmps52
 go_wp2_with (at_make;refine wpList_make_own _ rfl _ _ 50 rfl w.heap.size 52 i0 (.slice none 0 0) 1 Tryz.underlying50 hi hz0 hz1 _ _ _ n rfl rfl rfl ?b2 ?b3 (Nat.le_refl _) ?_)
 case b2=>rw [hz2];omega
 case b3=>unfold maxLen;omega
 intro w0 hown0 hg0;have O0:=hZq hown0;have G0:=hZq hg0;clear hown0 hg0;go_wp2;go_loopw [3,4,5] (fun sl si _ wr=>∃ (i:Nat) (xs:List Value),i<=n/\si=.int .i64 (i:Nat)/\wr.ownsRow w.heap.size 52 1 sl i xs/\w.grownBy wr none) (fun _ si _ _=>n - (intOf si).toNat)
 case atStart=>exact ⟨0,[],Nat.zero_le _,rfl,O0.out,G0.out⟩
 case round =>
  obtain ⟨i,xs,hi',rfl,hown,hg⟩:=hrel;have HO:=hZq hown;have HG:=hZq hg;clear hown hg O0 G0
  by_cases hlt:i<n
  ·obtain ⟨s,hx⟩:∃ z,L[i]?=some z:=⟨_,List.getElem?_eq_getElem (by omega)⟩
   obtain ⟨b1,off,ao,c,rfl,q2,q3⟩:=HL.out i s hx;have c0:=HG.out.cell q2 (by simp);have hk2:=HS.out _ (List.mem_of_getElem? hx);have HCP:=hZq (copyInts10 ao _ c s wr (q3.kept HG.out) rfl hk2);have g1:(0:Int)<=(i:Int):=by omega
   have g2:(i:Int)<(n:Int):=by omega
   clear q2 q3 hx;obtain ⟨k,hk⟩:∃ k,s.length=k:=⟨_,rfl⟩;rw [hk] at c0 HCP hk2;clear hk
   go_wp2_with fail
   refine HCP.out.mono ?_;rintro en w2 ⟨⟨v2,rfl,hown2⟩,hg2⟩;obtain ⟨va,vc,rfl⟩:=own_shape10 hown2;have HO2:=hZq (HO.out.kept hg2 (Classical.em _));have HG2:=hZq (gZq HG.out hg2);clear hown2 hg2 HO HG c0 HCP
   go_wp2_with (at_builtin;refine wpList_append_own _ rfl _ _ 50 rfl w.heap.size 52 i0 (.slice none 0 0) 1 24 Tryz.underlying50 hi hz0 hz1 hz2 rfl (by decide) _ i xs rfl (HO2.out.alloc _) ⟨w2.heap.size,0,none⟩ 1 1 [.slice va k vc] rfl rfl (cell_one10 _ _ _) (by intro u hu;simp at hu;subst hu;rfl) (by unfold maxLen;omega) (by omega) (by have:=HG2.out.size;simp;omega) ?_)
   intro v' w4 ho4 hg4 _;have HG4:=hZq (grown_app10 HG2.out HO2.out (Nat.le_refl _) hg4);have HO4:=hZq ho4;clear ho4 hg4 HO2 HG2;go_wp2;go_roundw
   case rel=>exact ⟨i+1,_,by omega,by go_num,HO4.out,HG4.out⟩
   case measure=>simp [intOf];omega
  ·have hin:i=n:=by omega
   subst hin;obtain ⟨b,c,rfl⟩:=own_shape10 HO.out;go_wp2;go_ret;exact ⟨⟨_,_,rfl⟩,HG.out⟩
def CpP (w:World)(k v:List Int)(en:Ending)(w':World):Prop:=∃ ao c bo d,en=.returned (.agg #[.slice ao k.length c,.slice bo v.length d])/\BtyT w' ao k.length c k/\BtyT w' bo v.length d v/\w.grownBy w' none
theorem copyPair10 (ao bo:Option Addr)(n c m d:Nat)(k v:List Int)(w:World)(hk:Byt w ao n c k)(hv:Byt w bo m d v)(hn:n<=100000000)(hm:m<=100000000) :
  Calls Tryz.prog 67 #[.agg #[.slice ao n c,.slice bo m d]] w fun en w'=>CpP w k v en w':=by
 have ga:=World.grownBy_alloc w (.cells #[.slice ao n c,.slice bo m d] 40) none;have gb:=World.grownBy_alloc (w.alloc (.cells #[.slice ao n c,.slice bo m d] 40)) (.cells #[.slice none 0 0,.slice none 0 0] 40) none;have hs1:(w.alloc (.cells #[.slice ao n c,.slice bo m d] 40)).heap.size=w.heap.size+1:=by simp
 have X1:=hZq (heap_kept (heap_at0 w #[.slice ao n c,.slice bo m d] 40) gb);have Y1:=hZq (heap_at0 (w.alloc (.cells #[.slice ao n c,.slice bo m d] 40)) #[.slice none 0 0,.slice none 0 0] 40);rw [hs1] at Y1;have HG:=hZq (gZq ga gb);have K1:=hZq (hk.keptN (gZq ga gb));have V1:=hZq (hv.keptN (gZq ga gb));have HKL:=hZq hk.len;have HVL:=hZq hv.len;clear ga gb hs1 hk hv;go_enter Tryz.func67,Tryz.ntmps67;go_upto_region 1 with fail
 generalize (w.alloc (.cells #[.slice ao n c,.slice bo m d] 40)).alloc (.cells #[.slice none 0 0,.slice none 0 0] 40)=w1 at *;obtain ⟨B,hB⟩:∃ B,w.heap.size=B:=⟨_,rfl⟩;have HB:=hZq hB;rw [hB] at X1 Y1 ⊢;obtain ⟨U,hU⟩:∃ U,B+1=U:=⟨_,rfl⟩;rw [hU] at Y1 ⊢;have hBU:B≠U:=by omega
 have hBU2:¬ B=U:=by omega
 have HU:=hZq hU;clear hB hU;have x0:w1.cell? ⟨B,0,none⟩=some (.slice ao n c):=by rw [Lib.cell_of_heap X1.out];rfl
 have x1:w1.cell? ⟨B,1,none⟩=some (.slice bo m d):=by rw [Lib.cell_of_heap X1.out];rfl
 go_region_held3 (fun w'=>w'.cell? ⟨B,0,none⟩=some (.slice ao n c)/\w'.cell? ⟨B,1,none⟩=some (.slice bo m d)) (first | exact ⟨x0,x1⟩ | exact T2.out | exact T3.out | go_keep | exact ⟨gc10 hBU T3.out.1,gc10 hBU T3.out.2⟩)
  (first
   | (go_at_call_of 36 (Value.slice ao n c);refine (refBytes_any ao n c k w1.drew (K1.out.heap rfl) (by omega)).mono ?_;rintro en w2 ⟨rfl,hown2,hg2,hs2⟩;have O2:=hZq (BtyT.of_owns hown2);have G2:=hZq (undrewW hg2);have T2:=hZq (And.intro (G2.out.cell x0 (by simp)) (G2.out.cell x1 (by simp)));clear hown2 hg2)
   | (go_at_call_of 36 (Value.slice bo m d);refine (refBytes_any bo m d v w2 (V1.out.keptN G2.out) (by omega)).mono ?_;rintro en w3 ⟨rfl,hown3,hg3,hs3⟩;have O3:=hZq (BtyT.of_owns hown3);have R3:=hZq hg3;have G3:=hZq (gZq G2.out hg3);have T3:=hZq (And.intro (G3.out.cell x0 (by simp)) (G3.out.cell x1 (by simp)));have Y3:=hZq (heap_kept Y1.out G3.out);have u0:w3.cell? ⟨U,0,none⟩=some (.slice none 0 0):=cell_heap Y3.out rfl;have u1:w3.cell? ⟨U,1,none⟩=some (.slice none 0 0):=cell_heap Y3.out rfl;have f0:w3.frozen? ⟨U,0,none⟩=false:=Lib.frozen_of_heap Y3.out 0;have f1:w3.frozen? ⟨U,1,none⟩=false:=Lib.frozen_of_heap Y3.out 1;clear hown3 hg3)
   | fail)
 have hlen1:=HKL.out;have hlen2:=HVL.out;subst hlen1;subst hlen2;obtain ⟨y1,y2⟩:=pair_put10 Y3.out (.slice (some ⟨w1.heap.size,0,none⟩) k.length k.length) (.slice (some ⟨w2.heap.size,0,none⟩) v.length v.length);have fx:FrX (fun x=>x==40) w3 _:=(FrX.refl _ w3).row y2 (fun g e=>.inr ⟨40,by cases e;exact ⟨_,_,Y3.out⟩,by decide⟩);have o2:=(O2.out.kept (FrT.of R3.out)).keptX (by decide) fx;have o3:=O3.out.keptX (by decide) fx;have gf:=grown_new (gZq HG.out G3.out) y2 (by have:=HB.out;have:=HU.out;omega);clear fx;go_wp2;refine bodyPost_ret (ret_pair10 rfl _ _ U _ _ rfl y1) rfl ?_;exact ⟨_,_,_,_,rfl,o2,o3,gf⟩
def IqT (w:World)(e:List Value)(p:PrT):Prop:=∃ ka kc va vc,e=[.slice ka p.key.length kc,.slice va p.val.length vc]/\BtyT w ka p.key.length kc p.key/\BtyT w va p.val.length vc p.val
theorem IqT.kept {w w':World}{e:List Value}{p:PrT}(h:IqT w e p)(hg:FrT w w'):IqT w' e p:=by
 obtain ⟨ka,kc,va,vc,h1,h2,h3⟩:=h;exact ⟨ka,kc,va,vc,h1,h2.kept hg,h3.kept hg⟩
theorem IqT.keptX {S:TypeId->Bool}{w w':World}{e:List Value}{p:PrT}(h:IqT w e p)(h8:S 5=false)(hg:FrX S w w'):IqT w' e p:=by
 obtain ⟨ka,kc,va,vc,h1,h2,h3⟩:=h;exact ⟨ka,kc,va,vc,h1,h2.keptX h8 hg,h3.keptX h8 hg⟩
def MqT (w:World)(a:Option Addr)(n c:Nat)(L:List PrT):Prop:=SlT w 40 2 (IqT w) a n c L
theorem MqT.kept {w w':World}{a:Option Addr}{n c:Nat}{L:List PrT}(h:MqT w a n c L)(hg:FrT w w'):MqT w' a n c L:=SlT.mono h (by decide) hg (fun _ _ k=>k.kept hg)
theorem MqT.mp {w:World}{a:Option Addr}{n c:Nat}{L:List PrT}(h:MqT w a n c L):MpW w a n c L:=by
 obtain ⟨es,h1,h2⟩:=h.ex;refine ⟨SlT.len h,es,h1,h2.len,fun i e p k1 k2=>?_⟩;obtain ⟨ka,kc,va,vc,e1,e2,e3⟩:=h2.el i e p k1 k2;exact ⟨ka,kc,va,vc,e1,e2.b,e3.b⟩
theorem copyPairs10 (a:Option Addr)(n cap:Nat)(L:List PrT)(w:World)(hl:MpW w a n cap L)(hm:n<=100000000)(hs:∀ p∈L,p.key.length<=100000000/\p.val.length<=100000000) :
  Calls Tryz.prog 51 #[.slice a n cap] w fun en w'=>(∃ b c,en=.returned (.slice b n c)/\MqT w' b n c L)/\w.grownBy w' none:=by
 obtain ⟨ip,hip,hp0,hp1,hp2⟩:=info_parts info_pair10;have HL:=hZq hl;have HN:=hZq hl.1;have HS:=hZq hs;clear hl hs;go_enter Tryz.func51,Tryz.ntmps51
 go_wp2_with (at_make;refine wpList_make_own _ rfl _ _ 27 rfl w.heap.size 40 ip (.agg #[.slice none 0 0,.slice none 0 0]) 2 Tryz.underlying27 hip hp0 hp1 _ _ _ n rfl rfl rfl ?b2 ?b3 (Nat.le_refl _) ?_)
 case b2=>rw [hp2];omega
 case b3=>unfold maxLen;omega
 intro w0 hown0 hg0;have O0:=hZq hown0;have G0:=hZq hg0;clear hown0 hg0;go_wp2;go_loopw [3,4,5] (fun sl si _ wr=>∃ (i:Nat) (es:List (List Value)),i<=n/\si=.int .i64 (i:Nat)/\ElyT (IqT wr) es (L.take i)/\wr.ownsRow w.heap.size 40 2 sl i es.flatten/\w.grownBy wr none) (fun _ si _ _=>n - (intOf si).toNat)
 case atStart=>exact ⟨0,[],Nat.zero_le _,rfl,ElyT.nil,O0.out,G0.out⟩
 case round =>
  obtain ⟨i,es,hi',rfl,hsv,hown,hg⟩:=hrel;have HV:=hZq hsv;have HO:=hZq hown;have HG:=hZq hg;clear hsv hown hg O0 G0
  by_cases hlt:i<n
  ·obtain ⟨p,hx⟩:∃ z,L[i]?=some z:=⟨_,List.getElem?_eq_getElem (by have:=HN.out;omega)⟩
   obtain ⟨b1,off,ka,kc,va,vc,rfl,q1,q2,q3,q4⟩:=HL.out.get hx;have c0:=HG.out.cell q1 (by simp);have c1:=HG.out.cell q2 (by simp);have hk2:=HS.out _ (List.mem_of_getElem? hx);have HCP:=hZq (copyPair10 ka va _ kc _ vc p.key p.val wr (q3.keptN HG.out) (q4.keptN HG.out) hk2.1 hk2.2)
   have HTK:Hid (L.take (i+1)=L.take i++[p]):=by
    show _=_
    rw [List.take_add_one,hx]
    rfl
   have g1:(0:Int)<=(i:Int):=by omega
   have g2:(i:Int)<(n:Int):=by omega
   clear q1 q2 q3 q4 hx
   go_wp2_with fail
   refine HCP.out.mono ?_;rintro en w2 ⟨ko,kd,vo,vd,rfl,b2,b3,hg2⟩;have B2:Hid (IqT w2 [.slice ko p.key.length kd,.slice vo p.val.length vd] p):=⟨_,_,_,_,rfl,b2,b3⟩;have V2:=hZq (HV.out.mono (fun e x h=>IqT.kept h (FrT.of hg2)));have HO2:=hZq (HO.out.kept hg2 (Classical.em _));have HG2:=hZq (gZq HG.out hg2);clear b2 b3 hg2 HV HO HG c0 c1 HCP;obtain ⟨nk,hnk⟩:∃ nk,p.key.length=nk:=⟨_,rfl⟩;obtain ⟨nv,hnv⟩:∃ nv,p.val.length=nv:=⟨_,rfl⟩;rw [hnk,hnv] at B2 ⊢;clear hnk hnv;have gx:=World.grownBy_alloc w2 (.cells #[.slice ko nk kd,.slice vo nv vd] 40) none;have B5:=hZq (B2.out.kept (FrT.of gx));have V5:=hZq (V2.out.mono (fun e x h=>IqT.kept h (FrT.of gx)));have O5:=hZq (HO2.out.kept gx (Classical.em _));have G5:=hZq (gZq HG2.out gx);have x0:=cell_heap (i:=0) (heap_at0 w2 #[.slice ko nk kd,.slice vo nv vd] 40) rfl;have x1:=cell_heap (i:=1) (heap_at0 w2 #[.slice ko nk kd,.slice vo nv vd] 40) rfl;clear gx B2 V2 HO2 HG2;go_upto_region 6 with fail
   generalize w2.alloc (.cells #[.slice ko nk kd,.slice vo nv vd] 40)=w5 at *;generalize w2.heap.size=X at *
   go_wp2_with (at_builtin;refine wpList_append_own _ rfl _ _ 27 rfl w.heap.size 40 ip (.agg #[.slice none 0 0,.slice none 0 0]) 2 48 Tryz.underlying27 hip hp0 hp1 hp2 rfl (by decide) _ i es.flatten rfl (O5.out.alloc _) ⟨w5.heap.size,0,none⟩ 1 1 [.slice ko nk kd,.slice vo nv vd] rfl rfl (cell_two10 _ _ _ _) (by intro u hu;simp at hu;rcases hu with rfl | rfl <;> rfl) (by unfold maxLen;omega) (by omega) (by have:=G5.out.size;simp;omega) ?_)
   intro v' w8 ho8 hg8 _;have fx:=frx_app O5.out hg8;have V8:=hZq ((V5.out.app (ElyT.one B5.out)).mono (J:=IqT w8) (fun e x h=>h.keptX (by decide) fx));have G8:=hZq (grown_app10 G5.out O5.out (Nat.le_refl _) hg8)
   have O8:Hid (w8.ownsRow w.heap.size 40 2 v' (i+1) (es++[[Value.slice ko nk kd,Value.slice vo nv vd]]).flatten):=by
    show _
    rw [List.flatten_append];exact ho8
   clear ho8 hg8 fx V5 B5 O5 G5 x0 x1;go_wp2;go_roundw
   case rel=>exact ⟨i+1,_,by omega,by go_num,by rw [HTK.out];exact V8.out,O8.out,G8.out⟩
   case measure=>simp [intOf];omega
  ·have hin:i=n:=by omega
   subst hin;have e:L.take i=L:=List.take_of_length_le (by have:=HN.out;omega);rw [e] at HV
   have hel:∀ e∈es,∃ p,IqT wr e p:=fun e he=>by
    obtain ⟨j,hj,rfl⟩:=List.getElem_of_mem he;exact ⟨_,HV.out.el j _ (L[j]'(by have:=HV.out.len;omega)) (List.getElem?_eq_getElem hj) (List.getElem?_eq_getElem _)⟩
   obtain ⟨b,c,rfl,he⟩:=EsT.of_owns HO.out (by decide) (fun e he=>by
    obtain ⟨p,_,_,_,_,h1,_⟩:=hel e he;rw [h1]
    rfl) (fun e he v hv=>by
    obtain ⟨p,_,_,_,_,h1,_⟩:=hel e he;rw [h1] at hv;simp only [List.mem_cons,List.not_mem_nil,or_false] at hv;rcases hv with rfl | rfl <;> rfl)
   have SS:Hid (MqT wr b i c L):=⟨es,he,HV.out⟩;clear he hel;go_wp2;go_ret;exact ⟨⟨_,_,rfl,SS.out⟩,HG.out⟩
end Go.Proofs.YtepcgckapoljpaaGreat
