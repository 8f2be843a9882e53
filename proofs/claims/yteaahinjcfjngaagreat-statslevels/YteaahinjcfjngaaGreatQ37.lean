import Derived.Test.YteaahinjcfjngaaGreatQ34
import Derived.Deep.RegionHeld3
import Derived.Deep.DrawnRows
import Derived.Laws.EntriesVeiled
set_option maxRecDepth 100000
set_option maxHeartbeats 16000000
namespace Go.Proofs.YteaahinjcfjngaaGreat
open Go.RowKit
theorem grown_w {a b:World}(h:a.grownBy b none)(r:Option Nat):a.grownBy b r:=⟨h.os,h.tape,h.output,h.size,fun k hk _=>h.block k hk (by simp)⟩
def tagV:Value->Bool
 | .int .i64 _=>true
 | .float _ _=>true
 | _=>false
def CvF (w W:World):Prop:=∀ (a:Addr) (v:Value),w.cell? a=some v->tagV v=false->W.cell? a=some v
theorem CvF.trans {a b c:World}(h:CvF a b)(k:CvF b c):CvF a c:=fun x v e t=>k x v (h x v e t) t
theorem CvF.of {w W:World}(h:CeF w W):CvF w W:=fun _ _ e _=>h.cell e
theorem byt_cvf {w W:World}(h:CvF w W){ao:Option Addr}{n c:Nat}{s:List Int}(hb:Byt w ao n c s):Byt W ao n c s :=
 ⟨hb.len,hb.nil,fun ad e j u hu=>h _ _ (hb.cells ad e j u hu) (by
  rw [List.getElem?_map] at hu;obtain ⟨z,_,rfl⟩:=Option.map_eq_some_iff.1 hu
  rfl)⟩
theorem NoV.cvf {w W:World}{x:NoT}{pa sa:Option Addr}{sc:Nat}(h:CvF w W)(k:NoV w x pa sa sc):NoV W x pa sa sc :=
 ⟨fun i p hp=>by
  obtain ⟨b,off,ka,kc,va,vc,h1,h2,h3,h4,h5,h6⟩:=k.p i p hp;exact ⟨b,off,ka,kc,va,vc,h1,h _ _ h2 rfl,h _ _ h3 rfl,byt_cvf h h4,byt_cvf h h5,h6⟩,
  ⟨fun i hi=>by
  obtain ⟨b,off,ao,n,c,h1,h2,h3,h4⟩:=k.s.row i hi;exact ⟨b,off,ao,n,c,h1,h _ _ h2 rfl,byt_cvf h h3,h4⟩⟩,k.s1,k.s2⟩
structure StZ (W:World)(B:Nat)(T:TypeId)(N o m:Nat)(g:Nat->Int)(cs0:Array Value):Prop where
 ex:∃ cs:Array Value,W.heap[B]?=some (.cells cs T (0,0))/\cs.size=N/\(∀ i,i<m->cs[o+i]?=some (.int .i64 (g i)))/\(∀ j,(j<o∨o+m<=j)->cs[j]?=cs0[j]?)/\∀ v∈cs,tagV v=true
 room:o+m<=N
theorem StZ.lt {W:World}{B:Nat}{T:TypeId}{N o m:Nat}{g:Nat->Int}{cs0:Array Value}(h:StZ W B T N o m g cs0):B<W.heap.size:=by
 obtain ⟨cs,h1,_⟩:=h.ex;exact (Array.getElem?_eq_some_iff.1 h1).1
theorem StZ.cell {W:World}{B:Nat}{T:TypeId}{N o m:Nat}{g:Nat->Int}{cs0:Array Value}(h:StZ W B T N o m g cs0){i:Nat}(hi:i<m):W.cell? ⟨B,o+i,none⟩=some (.int .i64 (g i))/\W.frozen? ⟨B,o+i,none⟩=false:=by
 obtain ⟨cs,h1,h2,h3,_⟩:=h.ex;exact ⟨by rw [cell_of_row W B (o+i) _ _ _ h1];exact h3 i hi,frozen_of_row W B (o+i) _ _ h1⟩
theorem StZ.kept {W W':World}{B:Nat}{T:TypeId}{N o m:Nat}{g:Nat->Int}{cs0:Array Value}(h:StZ W B T N o m g cs0)(hg:W.grownBy W' none):StZ W' B T N o m g cs0:=by
 obtain ⟨cs,h1,h2⟩:=h.ex;exact ⟨⟨cs,heap_kept h1 hg,h2⟩,h.room⟩
theorem StZ.eq {W:World}{B:Nat}{T:TypeId}{N o m:Nat}{g g':Nat->Int}{cs0:Array Value}(h:StZ W B T N o m g cs0)(e:∀ i,i<m->g i=g' i):StZ W B T N o m g' cs0:=by
 obtain ⟨cs,h1,h2,h3,h4⟩:=h.ex;exact ⟨⟨cs,h1,h2,fun i hi=>by rw [<- e i hi];exact h3 i hi,h4⟩,h.room⟩
theorem StZ.cvf {W W':World}{B:Nat}{T:TypeId}{N o m:Nat}{g:Nat->Int}{cs0:Array Value}(h:StZ W B T N o m g cs0)(hg:W.grownBy W' (some B)):CvF W W':=fun a v hc ht=>by
 obtain ⟨cs,h1,h2,h3,h4,h5⟩:=h.ex
 by_cases e:a.block=B
 ·unfold World.cell? at hc
  rw [e,h1] at hc
  dsimp only at hc
  split at hc
  ·cases hc
  ·have:=h5 v (Array.mem_of_getElem? hc)
   rw [this] at ht;cases ht
 ·rw [<- hc]
  refine World.cell?_of_block (hg.block _ ?_ (fun k=>e (Option.some.inj k)));unfold World.cell? at hc;cases hq:W.heap[a.block]? with
  | none=>rw [hq] at hc;cases hc
  | some y=>exact (Array.getElem?_eq_some_iff.1 hq).1
theorem StZ.set {W:World}{B:Nat}{T:TypeId}{N o m:Nat}{g:Nat->Int}{cs0:Array Value}(h:StZ W B T N o m g cs0){i:Nat}(hi:i<m)(z:Int):StZ (W.setCell ⟨B,o+i,none⟩ (.int .i64 z)) B T N o m (fun j=>if j=i then z else g j) cs0/\W.grownBy (W.setCell ⟨B,o+i,none⟩ (.int .i64 z)) (some B):=by
 obtain ⟨cs,h1,h2,h3,h4,h5⟩:=h.ex;have hr:=h.room;refine ⟨⟨⟨cs.setIfInBounds (o+i) (.int .i64 z),heap_setCell_same W B (o+i) _ _ _ h1,by simpa using h2,fun j hj=>?_,fun j hj=>?_,fun v hv=>?_⟩,hr⟩,grown_cell W B (o+i) _⟩
 ·show _=some (Value.int .i64 (if j=i then z else g j))
  rw [Array.getElem?_setIfInBounds]
  by_cases e:j=i
  ·rw [if_pos e,if_pos (by omega),if_pos (by omega)]
  ·rw [if_neg e,if_neg (by omega)]
   exact h3 j hj
 ·rw [Array.getElem?_setIfInBounds,if_neg (by omega)]
  exact h4 j hj
 ·obtain ⟨j,hj,rfl⟩:=Array.mem_iff_getElem.1 hv
  have hj2:j<cs.size:=by simpa using hj
  rw [Array.getElem_setIfInBounds hj2]
  split
  ·rfl
  ·exact h5 _ (Array.getElem_mem hj2)
def FnP (w:World)(B:Nat)(v:Value)(xs:List NoT)(lim:Int)(f:NoT->Int->Int):Prop:=∃ kf cap,v=.func (.func kf) #[] cap/\(∀ (args:Array Value) (W:World),(callFunc kf args).run Tryz.prog W=.ok (.enter kf args) W) /\
 ∀ (W:World) (x:NoT) (pa:Option Addr) (pc:Nat) (ca:Option Addr) (cn cc:Nat) (sa:Option Addr) (sc:Nat) (ka:Option Addr) (kn kc:Nat) (z:Int),x∈xs->CvF w W->w.grownBy W (some B)->NoV W x pa sa sc->0<=z->z<=lim ->
  Calls Tryz.prog kf (#[.agg #[.int .i64 x.no,.int .i64 (x.lv:Int),.slice pa x.ps.length pc,.slice ca cn cc,.slice sa x.ss.length sc,.slice ka kn kc,.int .i64 (nsz x:Nat)],.int .i64 z]++cap) W fun en w'=>en=.returned (.int .i64 (f x z))/\W.grownBy w' none
def TlyL (w:World)(ta:Option Addr)(B o:Nat)(xs:List NoT)(lim:Int)(fs:Nat->NoT->Int->Int)(m:Nat):Prop:=∀ i,i<m->∃ b off v,ta=some ⟨b,off,none⟩/\w.cell? ⟨b,off+i*2,none⟩=some (.pointer (some ⟨B,o+i,none⟩))/\w.cell? ⟨b,off+i*2+1,none⟩=some v/\FnP w B v xs lim (fs i)
theorem SnL.tag {w:World}{a:Option Addr}{n c:Nat}{L:List NoT}(h:SnL w a n c L){i:Nat}{x:NoT}(hx:L[i]?=some x){b off:Nat}(e:a=some ⟨b,off,none⟩):TgT w b 80:=by
 obtain ⟨h0,es,h1,h2⟩:=h;have hl:=h2.len;have hi:=(List.getElem?_eq_some_iff.1 hx).1;obtain ⟨b',off',e4,e5,_⟩:=h1.cell i _ (List.getElem?_eq_getElem (by omega:i<es.length));rw [e] at e4;have e6:b=b':=congrArg Addr.block (Option.some.inj e4);rw [e6];exact e5
theorem count_any (a:Option Addr)(n c:Nat)(xs:List NoT)(ta:Option Addr)(m tc:Nat)(B:Nat)(T:TypeId)(N o:Nat)(zs:Nat->Int)(cs0:Array Value)(fs:Nat->NoT->Int->Int)(lim:Int)(w:World)
  (hl:SnL w a n c xs) (ht:TlyL w ta B o xs lim fs m) (hz:StZ w B T N o m zs cs0) (hT:T≠80) (hn:n<=1000000) (hm:m<=1000000)
  (hb:∀ i,i<m->∀ k,k<=n->0<=fdN (fs i) (xs.take k) (zs i)/\fdN (fs i) (xs.take k) (zs i)<=lim) :
  Calls Tryz.prog 29 #[.slice a n c,.slice ta m tc] w fun en w'=>en=.returned (.tuple #[])/\StZ w' B T N o m (fun i=>fdN (fs i) xs (zs i)) cs0/\w.grownBy w' (some B):=by
 have HL:=hZq hl;have HT:=hZq ht;have HZ:=hZq hz;have HB:=hZq hb;have HXL:Hid (xs.length=n):=hl.1;have HTT:=hZq hT;clear hl ht hz hb hT;go_enter Tryz.func29,Tryz.ntmps29
 go_wp2_with fail
 go_loopw [10] (fun si wr=>∃ k:Nat,k<=n/\si=.int .i64 (k:Nat)/\StZ wr B T N o m (fun i=>fdN (fs i) (xs.take k) (zs i)) cs0/\w.grownBy wr (some B)) (fun si _=>n - (intOf si).toNat)
 case atStart=>exact ⟨0,Nat.zero_le _,rfl,HZ.out,World.grownBy.refl _ _⟩
 case round =>
  obtain ⟨k,hk,rfl,hz,hg⟩:=hrel;have Z1:=hZq hz;have G1:=hZq hg;clear hz hg
  by_cases hlt:k<n
  ·obtain ⟨x,hx⟩:∃ x,xs[k]?=some x:=⟨_,List.getElem?_eq_getElem (by have:=HXL.out;omega)⟩
   obtain ⟨b,off,pa,pc,ca,cn,cc,sa,sc,ka,kn,kc,rfl,x0,x1,x2,x3,x4,x5,x6,xv⟩:=HL.out.get hx
   have hbB:some b≠some B:=by
    obtain ⟨cur,z,q⟩:=HL.out.tag hx rfl;obtain ⟨cs,q1,_⟩:=HZ.out.ex;intro e;rw [Option.some.inj e,q1] at q;injection q with q
    injection q with _ q2 _
    exact HTT.out q2
   have kp:∀ (f:Nat) (v:Value),w.cell? ⟨b,f,none⟩=some v->wr.cell? ⟨b,f,none⟩=some v:=fun f v e=>by
    rw [<- e];refine World.cell?_of_block (G1.out.block _ ?_ hbB);unfold World.cell? at e;cases hq:w.heap[b]? with
    | none=>dsimp only at e;rw [hq] at e;cases e
    | some y=>exact (Array.getElem?_eq_some_iff.1 hq).1
   replace x0:=kp _ _ x0;replace x1:=kp _ _ x1;replace x2:=kp _ _ x2;replace x3:=kp _ _ x3;replace x4:=kp _ _ x4;replace x5:=kp _ _ x5;replace x6:=kp _ _ x6;have XV:=hZq xv;have HX:=hZq hx;have HTK:Hid (xs.take (k+1)=xs.take k++[x]):=by show _=_;rw [List.take_add_one,hx];rfl
   have HF:Hid (∀ (W:World) (v:Value) (i:Nat) (z:Int),FnP w B v xs lim (fs i)->CvF w W->w.grownBy W (some B)->0<=z->z<=lim->∃ kf cap,v=.func (.func kf) #[] cap/\(∀ (args:Array Value) (W:World),(callFunc kf args).run Tryz.prog W=.ok (.enter kf args) W)/\∀ W',W.grownBy W' none->Calls Tryz.prog kf (#[.agg #[.int .i64 x.no,.int .i64 (x.lv:Int),.slice pa x.ps.length pc,.slice ca cn cc,.slice sa x.ss.length sc,.slice ka kn kc,.int .i64 (nsz x:Nat)],.int .i64 z]++cap) W' fun en w'=>en=.returned (.int .i64 (fs i x z))/\W'.grownBy w' none):=fun W v i z hf h1 h2 h3 h4=>by
    obtain ⟨kf,cap,e1,en,e2⟩:=hf;refine ⟨kf,cap,e1,en,fun W' hW=>?_⟩;have q1:=h1.trans (CvF.of (CeF.of hW));exact e2 W' x pa pc ca cn cc sa sc ka kn kc z (List.mem_of_getElem? HX.out) q1 (gZq h2 (grown_w hW _)) (XV.out.cvf q1) h3 h4
   clear kp xv hx;have HBS:Hid (∀ i,i<m->0<=fdN (fs i) (xs.take k) (zs i)/\fdN (fs i) (xs.take k) (zs i)<=lim):=fun i hi=>HB.out i hi k hk
   have HFD:Hid (∀ i,fdN (fs i) (xs.take (k+1)) (zs i)=fs i x (fdN (fs i) (xs.take k) (zs i))):=fun i=>by rw [HTK.out,fdN_app];rfl
   generalize x.ps.length=pn at *;generalize x.ss.length=sn at *;generalize (x.lv:Int)=lv at *;generalize x.no=no at *;generalize ((nsz x:Nat):Int)=sz at *;have g1:(0:Int)<=(k:Int):=by omega
   have g2:(k:Int)<(n:Int):=by omega
   have ga:=World.grownBy_alloc wr (.cells #[.int .i64 no,.int .i64 lv,.slice pa pn pc,.slice ca cn cc,.slice sa sn sc,.slice ka kn kc,.int .i64 sz] 80) none;have X2:=hZq (heap_at0 wr #[.int .i64 no,.int .i64 lv,.slice pa pn pc,.slice ca cn cc,.slice sa sn sc,.slice ka kn kc,.int .i64 sz] 80);have GA:=hZq ga;clear ga;go_upto_region 3 with fail
   generalize wr.alloc (.cells #[.int .i64 no,.int .i64 lv,.slice pa pn pc,.slice ca cn cc,.slice sa sn sc,.slice ka kn kc,.int .i64 sz] 80)=w2 at *;obtain ⟨D5,hD⟩:∃ D5,wr.heap.size=D5:=⟨_,rfl⟩;have HD5:Hid (some D5≠some B):=fun e=>by have h1:=Z1.out.lt;have h2:=Option.some.inj e;omega
   rw [hD] at X2 ⊢;clear hD x0 x1 x2 x3 x4 x5 x6;have Z2:=hZq (Z1.out.kept GA.out);have G2:=hZq (gZq G1.out (grown_w GA.out (some B)))
   go_wp2_with fail
   go_loopw [16] (fun sj wt=>∃ j:Nat,j<=m/\sj=.int .i64 (j:Nat)/\StZ wt B T N o m (fun i=>if i<j then fdN (fs i) (xs.take (k+1)) (zs i) else fdN (fs i) (xs.take k) (zs i)) cs0/\w2.grownBy wt (some B)) (fun sj _=>m - (intOf sj).toNat)
   case atStart=>exact ⟨0,Nat.zero_le _,rfl,Z2.out.eq (fun i _=>by rw [if_neg (by omega)]),World.grownBy.refl _ _⟩
   case round =>
    obtain ⟨j,hj,rfl,hz,hg⟩:=hrel;have Z3:=hZq hz;have G3:=hZq hg;clear hz hg
    by_cases hjt:j<m
    ·obtain ⟨tb,toff,v,rfl,y0,y1,hfn⟩:=HT.out j hjt
     have GW:=hZq (gZq G2.out G3.out);have CW:=hZq (HZ.out.cvf GW.out);have z0:=CW.out _ _ y0 rfl;have hbz:=HBS.out j hjt;obtain ⟨zc,zf⟩:=Z3.out.cell hjt;rw [if_neg (Nat.lt_irrefl j)] at zc;obtain ⟨z,hzq⟩:∃ z,fdN (fs j) (xs.take k) (zs j)=z:=⟨_,rfl⟩;rw [hzq] at zc hbz;obtain ⟨kf,cap,rfl,henter,hcall⟩:=HF.out wr v j z hfn CW.out GW.out hbz.1 hbz.2;have z1:=CW.out _ _ y1 rfl;have HC:=hZq hcall;have HEN:=hZq henter;have HFD2:Hid (fdN (fs j) (xs.take (k+1)) (zs j)=fs j x z):=by show _=_;rw [HFD.out,hzq]
     clear y0 y1 hfn hcall henter hbz hzq;have i1:(0:Int)<=(j:Int):=by omega
     have i2:(j:Int)<(m:Int):=by omega
     have ZF:=hZq zf;have ZC:=hZq zc;have ga:=World.grownBy_alloc wr (.cells #[.pointer (some ⟨B,o+j,none⟩),.func (.func kf) #[] cap] 76) none;have X7:=hZq (heap_at0 wr #[.pointer (some ⟨B,o+j,none⟩),.func (.func kf) #[] cap] 76);have G7:=hZq ga;clear ga zc zf;go_upto_region 6 with fail
     generalize wr.alloc (.cells #[.pointer (some ⟨B,o+j,none⟩),.func (.func kf) #[] cap] 76)=w3 at *;obtain ⟨D7,hD⟩:∃ D7,wr.heap.size=D7:=⟨_,rfl⟩;have HD7:Hid (some D7≠some B):=fun e=>by have h1:=Z3.out.lt;have h2:=Option.some.inj e;omega
     rw [hD] at X7 ⊢;clear hD z0 z1;have Z4:=hZq (Z3.out.kept G7.out);have X5:Hid (w3.heap[D5]?=some (.cells #[.int .i64 no,.int .i64 lv,.slice pa pn pc,.slice ca cn cc,.slice sa sn sc,.slice ka kn kc,.int .i64 sz] 80 (0,0))):=heap_kept ((G3.out.block D5 (Array.getElem?_eq_some_iff.1 X2.out).1 HD5.out).trans X2.out) G7.out;have G4:=hZq (gZq G3.out (grown_w G7.out (some B)));have C8:Hid (w3.cell? ⟨B,o+j,none⟩=some (.int .i64 z)):=G7.out.cell ZC.out (by simp);have F8:Hid (w3.frozen? ⟨B,o+j,none⟩=false):=(Z4.out.cell hjt).2
     have KP:Hid (∀ W,w3.grownBy W (some B)->W.cell? ⟨D7,0,none⟩=some (.pointer (some ⟨B,o+j,none⟩))/\W.cell? ⟨D7,1,none⟩=some (.func (.func kf) #[] cap)/\W.cell? ⟨D5,0,none⟩=some (.int .i64 no)/\W.cell? ⟨D5,1,none⟩=some (.int .i64 lv)/\W.cell? ⟨D5,2,none⟩=some (.slice pa pn pc)/\W.cell? ⟨D5,3,none⟩=some (.slice ca cn cc)/\W.cell? ⟨D5,4,none⟩=some (.slice sa sn sc)/\W.cell? ⟨D5,5,none⟩=some (.slice ka kn kc)/\W.cell? ⟨D5,6,none⟩=some (.int .i64 sz)):=fun W hW=>by
      have q7:W.heap[D7]?=some (.cells #[.pointer (some ⟨B,o+j,none⟩),.func (.func kf) #[] cap] 76 (0,0)):=(hW.block D7 (Array.getElem?_eq_some_iff.1 X7.out).1 HD7.out).trans X7.out;have q5:W.heap[D5]?=some (.cells #[.int .i64 no,.int .i64 lv,.slice pa pn pc,.slice ca cn cc,.slice sa sn sc,.slice ka kn kc,.int .i64 sz] 80 (0,0)):=(hW.block D5 (Array.getElem?_eq_some_iff.1 X5.out).1 HD5.out).trans X5.out;exact ⟨cell_heap (i:=0) q7 rfl,cell_heap (i:=1) q7 rfl,cell_heap (i:=0) q5 rfl,cell_heap (i:=1) q5 rfl,cell_heap (i:=2) q5 rfl,cell_heap (i:=3) q5 rfl,cell_heap (i:=4) q5 rfl,cell_heap (i:=5) q5 rfl,cell_heap (i:=6) q5 rfl⟩
     obtain ⟨oj,hoj⟩:∃ oj,o+j=oj:=⟨_,rfl⟩;have HOJ:=hZq hoj;rw [hoj] at KP C8 F8;have T0:=hZq (KP.out w3.drew ((Qt.refl w3).drew.grown (some B)));have ZD:=hZq (Z4.out.kept ((Qt.refl w3).drew.grown none));have GD:=hZq ((Qt.refl w3).drew.grown (some B):w3.grownBy w3.drew (some B));have GN:=hZq (gZq G7.out ((Qt.refl w3).drew.grown none));have CD:Hid (w3.drew.cell? ⟨B,oj,none⟩=some (.int .i64 z)):=C8.out;have FD:Hid (w3.drew.frozen? ⟨B,oj,none⟩=false):=F8.out;clear hoj;refine wp_region_noPanic ?_;refine wp_region_held_drew (S:=(fun w'=>w'.cell? ⟨D7,0,none⟩=some (.pointer (some ⟨B,oj,none⟩))/\w'.cell? ⟨D7,1,none⟩=some (.func (.func kf) #[] cap)/\w'.cell? ⟨D5,0,none⟩=some (.int .i64 no)/\w'.cell? ⟨D5,1,none⟩=some (.int .i64 lv)/\w'.cell? ⟨D5,2,none⟩=some (.slice pa pn pc)/\w'.cell? ⟨D5,3,none⟩=some (.slice ca cn cc)/\w'.cell? ⟨D5,4,none⟩=some (.slice sa sn sc)/\w'.cell? ⟨D5,5,none⟩=some (.slice ka kn kc)/\w'.cell? ⟨D5,6,none⟩=some (.int .i64 sz))) (by kernel_rfl) ?_ (fun hHeld=>?_)
     ·exact T0.out
     generalize w3.drew=wd at *;refine wpAnyH_take (i:=0) (oi:=⟨some 20,.fieldAddr 76 (.tmp 7) 0,0, "node.go:74",#[],none⟩) (v:=?_) rfl (by kernel_rfl) (by kernel_rfl) (by kernel_rfl) (fun _ _ _ h=>h) (Or.inl ⟨by rfl,?_⟩) (by assumption) ?_
     rotate_left
     ·intro w hSw;(try dsimp only at hSw);go_simp;(try with_reducible rfl)
     simp only [Act.put,List.setIfInBounds_toArray,List.set_cons_zero,List.set_cons_succ];refine wpAnyH_take (i:=1) (oi:=⟨some 21,.load 73 (.tmp 20),73, "node.go:74",#[⟨0,.data⟩],none⟩) (v:=?_) rfl (by kernel_rfl) (by kernel_rfl) (by kernel_rfl) (fun _ _ _ h=>h) (Or.inl ⟨by rfl,?_⟩) (by assumption) ?_
     rotate_left
     ·intro w hSw;(try dsimp only at hSw);go_simp;(try with_reducible rfl)
     simp only [Act.put,List.setIfInBounds_toArray,List.set_cons_zero,List.set_cons_succ];refine wpAnyH_take (i:=2) (oi:=⟨some 22,.fieldAddr 76 (.tmp 7) 1,0, "node.go:74",#[],none⟩) (v:=?_) rfl (by kernel_rfl) (by kernel_rfl) (by kernel_rfl) (fun _ _ _ h=>h) (Or.inl ⟨by rfl,?_⟩) (by assumption) ?_
     rotate_left
     ·intro w hSw;(try dsimp only at hSw);go_simp;(try with_reducible rfl)
     simp only [Act.put,List.setIfInBounds_toArray,List.set_cons_zero,List.set_cons_succ];refine wpAnyH_take (i:=3) (oi:=⟨some 23,.load 74 (.tmp 22),74, "node.go:74",#[⟨2,.data⟩],none⟩) (v:=?_) rfl (by kernel_rfl) (by kernel_rfl) (by kernel_rfl) (fun _ _ _ h=>h) (Or.inl ⟨by rfl,?_⟩) (by assumption) ?_
     rotate_left
     ·intro w hSw;(try dsimp only at hSw);go_simp;(try with_reducible rfl)
     simp only [Act.put,List.setIfInBounds_toArray,List.set_cons_zero,List.set_cons_succ];refine wpAnyH_take (i:=4) (oi:=⟨some 24,.load 80 (.tmp 5),80, "node.go:74",#[],none⟩) (v:=?_) rfl (by kernel_rfl) (by kernel_rfl) (by kernel_rfl) (fun _ _ _ h=>h) (Or.inl ⟨by rfl,?_⟩) (by assumption) ?_
     rotate_left
     ·intro w hSw;(try dsimp only at hSw);go_simp;(try with_reducible rfl)
     simp only [Act.put,List.setIfInBounds_toArray,List.set_cons_zero,List.set_cons_succ];refine wpAnyH_take (i:=5) (oi:=⟨some 25,.fieldAddr 76 (.tmp 7) 0,0, "node.go:74",#[],none⟩) (v:=?_) rfl (by kernel_rfl) (by kernel_rfl) (by kernel_rfl) (fun _ _ _ h=>h) (Or.inl ⟨by rfl,?_⟩) (by assumption) ?_
     rotate_left
     ·intro w hSw;(try dsimp only at hSw);go_simp;(try with_reducible rfl)
     simp only [Act.put,List.setIfInBounds_toArray,List.set_cons_zero,List.set_cons_succ];refine wpAnyH_take (i:=6) (oi:=⟨some 26,.load 73 (.tmp 25),73, "node.go:74",#[⟨5,.data⟩],none⟩) (v:=?_) rfl (by kernel_rfl) (by kernel_rfl) (by kernel_rfl) (fun _ _ _ h=>h) (Or.inl ⟨by rfl,?_⟩) (by assumption) ?_
     rotate_left
     ·intro w hSw;(try dsimp only at hSw);go_simp;(try with_reducible rfl)
     simp only [Act.put,List.setIfInBounds_toArray,List.set_cons_zero,List.set_cons_succ];refine wpAnyH_take (i:=7) (oi:=⟨some 27,.nilCheck (.tmp 26),0, "node.go:74",#[⟨6,.data⟩],none⟩) (v:=?_) rfl (by kernel_rfl) (by kernel_rfl) (by kernel_rfl) (fun _ _ _ h=>h) (Or.inl ⟨by rfl,?_⟩) (by assumption) ?_
     rotate_left
     ·intro w hSw;(try dsimp only at hSw);go_simp;(try with_reducible rfl)
     simp only [Act.put,List.setIfInBounds_toArray,List.set_cons_zero,List.set_cons_succ];refine wpAnyH_ready (rs:=[8]) (by kernel_rfl) (by simp) ?_;refine AllReadyH.cons (o:=⟨some 28,.load 3 (.tmp 27),3, "node.go:74",#[⟨7,.data⟩],none⟩) rfl (fun K2 hK2=>?_) AllReadyH.nil;have cz:=CD.out
     go_simp
     refine hK2.out _ _ (T0.out) (fun hHeld=>?_);clear hK2 K2;try simp only [Act.put,List.setIfInBounds_toArray,List.set_cons_zero,List.set_cons_succ]
     refine wpAnyH_ready (rs:=[9]) (by kernel_rfl) (by simp) ?_;refine AllReadyH.cons (o:=⟨some 29,.call { callee:=.value (.tmp 23),args:=#[.tmp 24,.tmp 28],argTypes:=#[80,3] },3, "node.go:74",#[⟨3,.data⟩,⟨4,.data⟩,⟨8,.data⟩],none⟩) rfl (fun K2 hK2=>?_) AllReadyH.nil
     go_simp
     rw [HEN.out];refine (HC.out wd GN.out).mono ?_;rintro en w4 ⟨rfl,hg4⟩;have G5:=hZq (gZq GD.out (grown_w hg4 (some B)));have Z5:=hZq (ZD.out.kept hg4);have T4:=hZq (KP.out w4 G5.out);have C4:Hid (w4.cell? ⟨B,oj,none⟩=some (.int .i64 z)):=hg4.cell CD.out (by simp);have F4:Hid (w4.frozen? ⟨B,oj,none⟩=false):=by show _=_;rw [<- HOJ.out];exact (Z5.out.cell hjt).2
     clear hg4;try dsimp only
     refine hK2.out _ _ (T4.out) (fun hHeld=>?_);clear hK2 K2;try simp only [Act.put,List.setIfInBounds_toArray,List.set_cons_zero,List.set_cons_succ]
     refine wpAnyH_take (i:=10) (oi:=⟨some 30,.nilCheck (.tmp 21),0, "node.go:74",#[⟨1,.data⟩,⟨0,.phase⟩,⟨1,.phase⟩,⟨2,.phase⟩,⟨3,.phase⟩,⟨4,.phase⟩,⟨5,.phase⟩,⟨6,.phase⟩,⟨7,.phase⟩,⟨8,.phase⟩,⟨9,.phase⟩],none⟩) (v:=?_) rfl (by kernel_rfl) (by kernel_rfl) (by kernel_rfl) (fun _ _ _ h=>h) (Or.inl ⟨by rfl,?_⟩) (by assumption) ?_
     rotate_left
     ·intro w hSw;(try dsimp only at hSw);go_simp;(try with_reducible rfl)
     simp only [Act.put,List.setIfInBounds_toArray,List.set_cons_zero,List.set_cons_succ];refine wpAnyH_ready (rs:=[11]) (by kernel_rfl) (by simp) ?_;refine AllReadyH.cons (o:=⟨none,.store 3 (.tmp 30) (.tmp 29),0, "node.go:74",#[⟨10,.data⟩,⟨9,.data⟩,⟨9,.chain⟩,⟨0,.phase⟩,⟨1,.phase⟩,⟨2,.phase⟩,⟨3,.phase⟩,⟨4,.phase⟩,⟨5,.phase⟩,⟨6,.phase⟩,⟨7,.phase⟩,⟨8,.phase⟩,⟨9,.phase⟩],none⟩) rfl (fun K2 hK2=>?_) AllReadyH.nil;have cz:=C4.out;have fz:=F4.out
     go_simp
     refine hK2.out _ _ (KP.out _ (gZq G5.out (grown_cell w4 B oj _))) (fun hHeld=>?_);clear hK2 K2;try simp only [Act.put,List.setIfInBounds_toArray,List.set_cons_zero,List.set_cons_succ]
     have ZS:=hZq (Z5.out.set hjt (fs j x z));rw [HOJ.out] at ZS;have G6:=hZq (gZq G4.out (gZq G5.out ZS.out.2));have ZQ:=hZq ZS.out.1;clear ZS cz;refine wpAnyH_done (by kernel_rfl) ?_ _;refine NoPanic.normal ?_;generalize w4.setCell ⟨B,oj,none⟩ (.int .i64 (fs j x z))=w5 at *;go_wp2;go_roundw
     case rel =>
      refine ⟨j+1,by omega,by go_num,ZQ.out.eq (fun i hi=>?_),G6.out⟩
      by_cases e:i=j
      ·subst e
       rw [if_pos rfl,if_pos (Nat.lt_succ_self i),HFD2.out]
      ·rw [if_neg e]
       by_cases e2:i<j
       ·rw [if_pos e2,if_pos (by omega)]
       ·rw [if_neg e2,if_neg (by omega)]
     case measure=>simp [intOf];omega
    ·obtain rfl:j=m:=by omega
     go_wp2;go_roundw
     case rel=>exact ⟨k+1,by omega,by go_num,Z3.out.eq (fun i hi=>by rw [if_pos hi]),gZq G2.out G3.out⟩
     case measure=>simp [intOf];omega
  ·obtain rfl:k=n:=by omega
   have e:xs.take k=xs:=by rw [<- HXL.out,List.take_length]
   rw [e] at Z1;go_wp2
   go_end0
   exact ⟨rfl,Z1.out,G1.out⟩
theorem wrap_id22 {x:Int}(h1:-9223372036854775808<=x)(h2:x<9223372036854775808):IntKind.i64.wrap x=x:=by simp [IntKind.wrap,IntKind.bits,IntKind.signed];omega
theorem enter22 {f:FuncId}{fn:Func}{c:Code}(hf:Tryz.prog.funcs[f]?=some fn)(hname:(fn.name== "runtime.NumGoroutine")=false)(hb:fn.body=some c)(args:Array Value)(w:World):(callFunc f args).run Tryz.prog w=.ok (.enter f args) w:=by
 have h1:fn.name≠ "runtime.NumGoroutine":=by simpa using hname
 simp [callFunc,hf,h1,hb]
theorem added1_any (x:NoT)(pa:Option Addr)(pc:Nat)(ca:Option Addr)(cn cc:Nat)(sa:Option Addr)(sc:Nat)(ka:Option Addr)(kn kc:Nat)(z g:Int)(bx km:Nat)(capm:Array Value)(w:World)(hb:w.cell? ⟨bx,0,none⟩=some (.func (.func km) #[] capm))(hen:∀ (args:Array Value) (W:World),(callFunc km args).run Tryz.prog W=.ok (.enter km args) W)
  (hm:∀ W,w.grownBy W none->Calls Tryz.prog km (#[.agg #[.int .i64 x.no,.int .i64 (x.lv:Int),.slice pa x.ps.length pc,.slice ca cn cc,.slice sa x.ss.length sc,.slice ka kn kc,.int .i64 (nsz x:Nat)]]++capm) W fun en w'=>en=.returned (.int .i64 g)/\W.grownBy w' none) (z0:0<=z) (g0:0<=g) (hz:z+g<=4611686018427387904) :
  Calls Tryz.prog 60 #[.agg #[.int .i64 x.no,.int .i64 (x.lv:Int),.slice pa x.ps.length pc,.slice ca cn cc,.slice sa x.ss.length sc,.slice ka kn kc,.int .i64 (nsz x:Nat)],.int .i64 z,.pointer (some ⟨bx,0,none⟩)] w fun en w'=>en=.returned (.int .i64 (z+g))/\w.grownBy w' none:=by
 have HEN:=hZq hen;have ga:=World.grownBy_alloc w (.cells #[.int .i64 x.no,.int .i64 (x.lv:Int),.slice pa x.ps.length pc,.slice ca cn cc,.slice sa x.ss.length sc,.slice ka kn kc,.int .i64 (nsz x:Nat)] 80) none;have X1:=hZq (heap_at0 w #[.int .i64 x.no,.int .i64 (x.lv:Int),.slice pa x.ps.length pc,.slice ca cn cc,.slice sa x.ss.length sc,.slice ka kn kc,.int .i64 (nsz x:Nat)] 80);have GA:=hZq ga;have HM:=hZq (fun W hW=>hm W (gZq ga hW));have HBX:=hZq (ga.cell hb (by simp));clear ga hen hm hb;generalize x.ps.length=pn at *;generalize x.ss.length=sn at *;generalize (x.lv:Int)=lv at *;generalize x.no=no at *;generalize ((nsz x:Nat):Int)=sz at *;go_enter Tryz.func60,Tryz.ntmps60;go_upto_region 1 with fail
 generalize w.alloc (.cells #[.int .i64 no,.int .i64 lv,.slice pa pn pc,.slice ca cn cc,.slice sa sn sc,.slice ka kn kc,.int .i64 sz] 80)=w1 at *;generalize w.heap.size=D at *;have q5:=X1.out;have hbx:=HBX.out;have d0:=cell_heap (i:=0) q5 rfl;have d1:=cell_heap (i:=1) q5 rfl;have d2:=cell_heap (i:=2) q5 rfl;have d3:=cell_heap (i:=3) q5 rfl;have d4:=cell_heap (i:=4) q5 rfl;have d5:=cell_heap (i:=5) q5 rfl;have d6:=cell_heap (i:=6) q5 rfl;clear q5
 go_wp2_with fail
 rw [HEN.out];refine (HM.out w1 (World.grownBy.refl _ _)).mono ?_;rintro en w2 ⟨rfl,hg2⟩;have G2:=hZq (gZq GA.out hg2);clear hg2 hbx d0 d1 d2 d3 d4 d5 d6;try dsimp only
 go_wp2;go_ret;exact ⟨rfl,G2.out⟩
theorem fn_added (w:World)(B bx km:Nat)(capm:Array Value)(xs:List NoT)(lim:Int)(g:NoT->Nat)(hb:w.cell? ⟨bx,0,none⟩=some (.func (.func km) #[] capm))(hen:∀ (args:Array Value) (W:World),(callFunc km args).run Tryz.prog W=.ok (.enter km args) W)
  (hm:∀ (W:World) (x:NoT) (pa:Option Addr) (pc:Nat) (ca:Option Addr) (cn cc:Nat) (sa:Option Addr) (sc:Nat) (ka:Option Addr) (kn kc:Nat),x∈xs->w.grownBy W (some B)->NoV W x pa sa sc->Calls Tryz.prog km (#[.agg #[.int .i64 x.no,.int .i64 (x.lv:Int),.slice pa x.ps.length pc,.slice ca cn cc,.slice sa x.ss.length sc,.slice ka kn kc,.int .i64 (nsz x:Nat)]]++capm) W fun en w'=>en=.returned (.int .i64 (g x:Nat))/\W.grownBy w' none) (hl:∀ x∈xs,lim+(g x:Int)<=4611686018427387904) :
  FnP w B (.func (.func 60) #[] #[.pointer (some ⟨bx,0,none⟩)]) xs lim (fun x z=>z+(g x:Int)):=by
 refine ⟨_,_,rfl,enter22 Tryz.func60 (by kernel_rfl) rfl,fun W x pa pc ca cn cc sa sc ka kn kc z hx hc hg hv z0 z1=>?_⟩;have h1:=hl x hx;have hc2:∀ W',W.grownBy W' none->NoV W' x pa sa sc:=fun W' hW=>hv.cef (CeF.of hW)
 exact added1_any x pa pc ca cn cc sa sc ka kn kc z (g x) bx km capm W (hc _ _ hb rfl) hen (fun W' hW=>hm W' x pa pc ca cn cc sa sc ka kn kc hx (gZq hg (grown_w hW _)) (hc2 W' hW)) z0 (by omega) (by omega)
theorem fn_least (w:World)(B:Nat)(xs:List NoT)(lim:Int):FnP w B (.func (.func 69) #[] #[]) xs lim (fun x z=>min z (nsz x:Nat)) :=
 ⟨_,_,rfl,enter22 Tryz.func69 (by kernel_rfl) rfl,fun W x pa pc ca cn cc sa sc ka kn kc z _ _ _ _ _ _=>least_any22 x pa pc ca cn cc sa sc ka kn kc z W⟩
theorem fn_most (w:World)(B:Nat)(xs:List NoT)(lim:Int):FnP w B (.func (.func 70) #[] #[]) xs lim (fun x z=>max z (nsz x:Nat)) :=
 ⟨_,_,rfl,enter22 Tryz.func70 (by kernel_rfl) rfl,fun W x pa pc ca cn cc sa sc ka kn kc z _ _ _ _ _ _=>most_any22 x pa pc ca cn cc sa sc ka kn kc z W⟩
theorem spread1_any (x:NoT)(pa:Option Addr)(pc:Nat)(ca:Option Addr)(cn cc:Nat)(sa:Option Addr)(sc:Nat)(ka:Option Addr)(kn kc:Nat)(mb:Nat)(mid:Int)(w:World)(hb:w.cell? ⟨mb,0,none⟩=some (.int .i64 mid))(h0:0<=mid/\mid<=4092)(hs:nsz x<=4092) :
  Calls Tryz.prog 89 #[.agg #[.int .i64 x.no,.int .i64 (x.lv:Int),.slice pa x.ps.length pc,.slice ca cn cc,.slice sa x.ss.length sc,.slice ka kn kc,.int .i64 (nsz x:Nat)],.pointer (some ⟨mb,0,none⟩)] w fun en w'=>en=.returned (.int .i64 (((nsz x:Nat) - mid)*((nsz x:Nat) - mid)))/\w.grownBy w' none:=by
 have ga:=World.grownBy_alloc w (.cells #[.int .i64 x.no,.int .i64 (x.lv:Int),.slice pa x.ps.length pc,.slice ca cn cc,.slice sa x.ss.length sc,.slice ka kn kc,.int .i64 (nsz x:Nat)] 80) none;have X1:=hZq (heap_at0 w #[.int .i64 x.no,.int .i64 (x.lv:Int),.slice pa x.ps.length pc,.slice ca cn cc,.slice sa x.ss.length sc,.slice ka kn kc,.int .i64 (nsz x:Nat)] 80);have GA:=hZq ga;have cb:=ga.cell hb (by simp);clear ga hb;generalize x.ps.length=pn at *;generalize x.ss.length=sn at *;generalize (x.lv:Int)=lv at *;generalize x.no=no at *;obtain ⟨sz,hsz⟩:∃ sz:Int,((nsz x:Nat):Int)=sz:=⟨_,rfl⟩;have hs1:0<=sz/\sz<=4092:=by omega
 rw [hsz] at X1 GA cb ⊢;clear hsz hs;have hm1:-4092<=sz - mid/\sz - mid<=4092:=by omega
 have hm2:0<=(sz - mid)*(sz - mid)/\(sz - mid)*(sz - mid)<=16744464:=by
  have h1:(sz - mid)*(sz - mid)=(((sz - mid).natAbs*(sz - mid).natAbs:Nat):Int):=by rw [Int.natAbs_mul_self]
  have h2:(sz - mid).natAbs*(sz - mid).natAbs<=4092*4092:=Nat.mul_le_mul (by omega) (by omega);omega
 have HQ:=hZq hm2;go_enter Tryz.func89,Tryz.ntmps89;go_upto_region 1 with fail
 generalize w.alloc (.cells #[.int .i64 no,.int .i64 lv,.slice pa pn pc,.slice ca cn cc,.slice sa sn sc,.slice ka kn kc,.int .i64 sz] 80)=w1 at *;generalize w.heap.size=D at *;have c6:=cell_heap (i:=6) X1.out rfl;have e1:IntKind.i64.wrap (sz - mid)=sz - mid:=wrap_id22 (by omega) (by omega);have e2:IntKind.i64.wrap ((sz - mid)*(sz - mid))=(sz - mid)*(sz - mid):=wrap_id22 (by have:=HQ.out;omega) (by have:=HQ.out;omega);go_wp2;go_ret;exact ⟨by rfl,GA.out⟩
theorem size_tally:(Tryz.prog.info? 76).map (fun i=>i.size)=some 2:=by kernel_rfl
theorem ret_tally {fn:Func}{p:Tmp}(h:fn.results=#[.cell p 76])(tmps:Array Value)(w:World)(g:Nat)(x0 x1:Value)(hp:tmps.getD p undef=.pointer (some ⟨g,0,none⟩))(hr:w.heap[g]?=some (.cells #[x0,x1] 76 (0,0))) :
  (results fn tmps).run Tryz.prog w=.ok (.agg #[x0,x1]) w:=by
 have hp':tmps[p]?.getD undef=.pointer (some ⟨g,0,none⟩):=by simpa using hp
 simp [results,h,hp',asAddr,run_loadVar_row w g 76 76 #[x0,x1] (0,0) _ hr Tryz.underlying76 rfl (by rw [size_tally];rfl)]
theorem added_any (B o km:Nat)(capm:Array Value)(w:World) :
  Calls Tryz.prog 31 #[.pointer (some ⟨B,o,none⟩),.func (.func km) #[] capm] w fun en w'=>∃ bx,en=.returned (.agg #[.pointer (some ⟨B,o,none⟩),.func (.func 60) #[] #[.pointer (some ⟨bx,0,none⟩)]])/\w'.cell? ⟨bx,0,none⟩=some (.func (.func km) #[] capm)/\w.grownBy w' none:=by
 have hmf:∀ (fn:Fn) (first cap:Array Value) (w:World),(Instr.makeFunc fn first cap).run Tryz.prog w=.ok (.func fn first cap) w:=fun _ _ _ _=>rfl
 go_enter Tryz.func31,Tryz.ntmps31;go_upto_region 1 with fail
 have ga1:=World.grownBy_alloc w (.cells #[.func (.func km) #[] capm] 78) none;have ga2:=World.grownBy_alloc (w.alloc (.cells #[.func (.func km) #[] capm] 78)) (.cells #[.pointer none,.nilFunc] 76) none;have GA:=hZq (gZq ga1 ga2);have CF:=hZq (ga2.cell (cell_heap (i:=0) (heap_at0 w #[.func (.func km) #[] capm] 78) rfl) (by simp));have X1:=hZq (heap_at0 (w.alloc (.cells #[.func (.func km) #[] capm] 78)) #[.pointer none,.nilFunc] 76);have HSZ:Hid ((w.alloc (.cells #[.func (.func km) #[] capm] 78)).heap.size=w.heap.size+1):=by show _=_;simp
 rw [HSZ.out] at X1;clear ga1 ga2;generalize (w.alloc (.cells #[.func (.func km) #[] capm] 78)).alloc (.cells #[.pointer none,.nilFunc] 76)=w2 at *;obtain ⟨D,hD⟩:∃ D,w.heap.size+1=D:=⟨_,rfl⟩;have HD:Hid (w.heap.size≠D):=by show _≠_;omega
 have HDL:Hid (w.heap.size<=D):=by show _<=_;omega
 rw [hD] at X1 ⊢;clear hD HSZ;generalize hP:w.heap.size=P at *;have HP:=hZq hP;clear hP;have c0:=cell_heap (i:=0) X1.out rfl;have c1:=cell_heap (i:=1) X1.out rfl;have f0:=frozen_of_row w2 D 0 _ _ X1.out;have f1:=frozen_of_row w2 D 1 _ _ X1.out;go_wp2;have y1:=heap_setCell_same (w2.setCell ⟨D,0,none⟩ (.pointer (some ⟨B,o,none⟩))) D 1 _ _ (.func (.func 60) #[] #[.pointer (some ⟨P,0,none⟩)]) (heap_setCell_same w2 D 0 _ _ (.pointer (some ⟨B,o,none⟩)) X1.out);have gg:=gZq (grown_cell w2 D 0 (.pointer (some ⟨B,o,none⟩))) (grown_cell (w2.setCell ⟨D,0,none⟩ (.pointer (some ⟨B,o,none⟩))) D 1 (.func (.func 60) #[] #[.pointer (some ⟨P,0,none⟩)]));refine bodyPost_ret (ret_tally rfl _ _ D _ _ rfl y1) rfl ?_;exact ⟨P,rfl,gg.cell CF.out (by have:=HD.out;simpa using this),grown_new GA.out gg (by have:=HDL.out;have:=HP.out;omega)⟩
def C6 (w:World)(B:Nat)(x0 x1 x2 x3 x4 x5:Value):Prop:=w.cell? ⟨B,0,none⟩=some x0/\w.cell? ⟨B,1,none⟩=some x1/\w.cell? ⟨B,2,none⟩=some x2/\w.cell? ⟨B,3,none⟩=some x3/\w.cell? ⟨B,4,none⟩=some x4/\w.cell? ⟨B,5,none⟩=some x5
def NdL (w:World)(q:Nat)(v:Value)(us:List Value):Prop:=w.ownsRow q 116 1 v us.length us
structure SqL (w:World)(q:Nat)(v:Value)(L:List (List Int)):Prop where
 ex:∃ es,w.ownsRow q 62 1 v L.length es.flatten/\ElyT (IbT w) es L
theorem NdL.shape {w:World}{q:Nat}{v:Value}{us:List Value}(h:NdL w q v us):∃ a c,v=.slice a us.length c:=by
 rcases h.2 with ⟨e,e0⟩ | ⟨g,cap,cur,e,_⟩
 ·exact ⟨none,0,by rw [e0];exact e⟩
 ·exact ⟨_,_,e⟩
theorem SqL.shape {w:World}{q:Nat}{v:Value}{L:List (List Int)}(h:SqL w q v L):∃ a c,v=.slice a L.length c:=by
 obtain ⟨es,h1,_⟩:=h.ex;rcases h1.2 with ⟨e,e0⟩ | ⟨g,cap,cur,e,_⟩
 ·exact ⟨none,0,by rw [e0];exact e⟩
 ·exact ⟨_,_,e⟩
theorem NdL.nil (w:World)(q:Nat):NdL w q (.slice none 0 0) []:=⟨rfl,.inl ⟨rfl,rfl⟩⟩
theorem SqL.nil (w:World)(q:Nat):SqL w q (.slice none 0 0) []:=⟨[],⟨rfl,.inl ⟨rfl,rfl⟩⟩,ElyT.nil⟩
theorem NdL.keptR {w w':World}{q:Nat}{v:Value}{us:List Value}{r:Option Nat}(h:NdL w q v us)(hg:w.grownBy w' r)(hr:∀ g,r=some g->∃ t,TgT w g t/\t≠116):NdL w' q v us:=by
 refine h.kept hg ?_;cases e:v.ownBlock with
 | none=>exact .inl rfl
 | some g =>
  refine .inr (fun e2=>?_);obtain ⟨t,ht,hne⟩:=hr g e2.symm;exact tg_ne (own_tg h e) ht (fun e=>hne e.symm) rfl
theorem SqL.keptR {w w':World}{q:Nat}{v:Value}{L:List (List Int)}{r:Option Nat}(h:SqL w q v L)(hg:w.grownBy w' r)(hr:∀ g,r=some g->∃ t,TgT w g t/\t≠62/\t≠5):SqL w' q v L:=by
 obtain ⟨es,h1,h2⟩:=h.ex;refine ⟨es,h1.kept hg ?_,h2.mono fun e x k=>?_⟩
 ·cases e:v.ownBlock with
  | none=>exact .inl rfl
  | some g =>
   refine .inr (fun e2=>?_);obtain ⟨t,ht,hne,_⟩:=hr g e2.symm;exact tg_ne (own_tg h1 e) ht (fun e=>hne e.symm) rfl
 ·obtain ⟨ao,n,c,k1,k2⟩:=k
  refine ⟨ao,n,c,k1,?_⟩
  have fx:FrX (fun t=>t != 5) w w':=(FrX.refl _ w).row hg (fun g e=>by
   obtain ⟨t,ht,_,h8⟩:=hr g e;exact .inr ⟨t,ht,by simpa using h8⟩)
  exact k2.keptX (by decide) fx
theorem wpList_append_nd {w:World}{ops:Array Oper}{rest:List Oper}{o:Oper}{a:Act}{Q:Exit->Act->World->Prop}(hgd:o.guard=none)(s x:Operand)
  (ho:o.op=.call { callee:=.builtin .append,args:=#[s,x],argTypes:=#[87,87] })
  (q:Nat) (v:Value) (us:List Value) (hs:a.eval s=v) (hp:NdL w q v us) (u:Value) (hu:u.oneCell'=true)
  (g:Nat) (hg:w.cell? ⟨g,0,none⟩=some u) (hx:a.eval x=.slice (some ⟨g,0,none⟩) 1 1) (hn:us.length+1<=8796093022207) (hq:q<=w.heap.size)
  (h:∀ v' w',NdL w' q v' (us++[u])->w.grownBy w' v.ownBlock->(∀ i,v.ownBlock=some i->q<=i/\TgT w i 116)->wpList Tryz.prog ops Q rest (a.put o.dst v') w'):wpList Tryz.prog ops Q (o::rest) a w:=by
 obtain ⟨i0,hi,hz0,hz1,hz2⟩:=info_parts info_tnode;refine wpList_append_own w hgd s x 87 ho q 116 i0 .nilIface 1 16 Tryz.underlying87 hi hz0 hz1 hz2 rfl (by decide) v _ _ hs hp ⟨g,0,none⟩ 1 1 [u] hx (by simp) (fun j y hy=>?_) (fun y hy=>by rw [List.mem_singleton.1 hy];exact hu) (by unfold maxLen;omega) (by omega) hq ?_
 ·match j,hy with
  | 0,hy =>
   simp only [List.getElem?_cons_zero,Option.some.injEq] at hy;subst hy;rw [Addr.add_lit];exact hg
  | j+1,hy=>simp at hy
 ·intro v' w' k1 k2 _
  refine h v' w' ?_ k2 (fun i hi=>by obtain ⟨e1,_,e3⟩:=own_lt10 hp hi;exact ⟨e1,e3⟩);unfold NdL;rw [List.length_append,List.length_singleton];exact k1
theorem run_append_sq {w:World}(ty:TypeId)(q:Nat)(v:Value)(L:List (List Int))(hp:SqL w q v L)(s:List Int)(y:Value)(hy:IbT w [y] s)
  (g:Nat) (hg:w.cell? ⟨g,0,none⟩=some y) (hn:L.length+1<=5864062014805) (hq:q<=w.heap.size) :
  ∃ v' w',(Builtin.append_ #[59,59] ty #[v,.slice (some ⟨g,0,none⟩) 1 1]).run Tryz.prog w=.ok v' w'/\SqL w' q v' (L++[s])/\w.grownBy w' v.ownBlock/\∀ i,v.ownBlock=some i->q<=i/\TgT w i 62:=by
 obtain ⟨i0,hi,hz0,hz1,hz2⟩:=info_parts info_bytes;obtain ⟨es,h1,h2⟩:=hp.ex
 have hy1:y.oneCell'=true:=by
  obtain ⟨ao,n,c,e,_⟩:=hy;have:y=.slice ao n c:=by simpa using e
  rw [this]
  rfl
 obtain ⟨v',w',r,k1,k2,_⟩:=run_append_own (P:=Tryz.prog) w q 59 ty 62 i0 (.slice none 0 0) 1 24 Tryz.underlying59 hi hz0 hz1 hz2 rfl (by decide) v _ _ h1 ⟨g,0,none⟩ 1 1 [y] (by simp) (fun j u hu=>by
  match j,hu with
  | 0,hu =>
   simp only [List.getElem?_cons_zero,Option.some.injEq] at hu;subst hu;rw [Addr.add_lit];exact hg
  | j+1,hu=>simp at hu) (fun u hu=>by rw [List.mem_singleton.1 hu];exact hy1) (by unfold maxLen;omega) (by omega) hq
 have fx:FrX (fun t=>t==62) w w':=(FrX.refl _ w).row k2 (fun i hi=>.inr ⟨62,own_tg h1 hi,by decide⟩);have kp:∀ e x,IbT w e x->IbT w' e x:=fun e x ⟨ao,n,c,h3,h4⟩=>⟨ao,n,c,h3,h4.keptX (by decide) fx⟩
 refine ⟨v',w',r,⟨es++[[y]],?_,(h2.mono kp).app (ElyT.one (kp _ _ hy))⟩,k2,fun i hi=>by obtain ⟨e1,_,e3⟩:=own_lt10 h1 hi;exact ⟨e1,e3⟩⟩;rw [List.length_append,List.length_singleton,List.flatten_append];simpa using k1
theorem step_append_sq {ops:Array Oper}{o:Oper}{a:Act}{w:World}{K:Act->World->Prop}{Q:Exit->Act->World->Prop}{E:Prop}(hgd:o.guard=none)(s x:Operand)
  (ho:o.op=.call { callee:=.builtin .append,args:=#[s,x],argTypes:=#[59,59] })
  (q:Nat) (v:Value) (L:List (List Int)) (hs:a.eval s=v) (hp:SqL w q v L) (t:List Int) (y:Value) (hy:IbT w [y] t)
  (g:Nat) (hg:w.cell? ⟨g,0,none⟩=some y) (hx:a.eval x=.slice (some ⟨g,0,none⟩) 1 1) (hn:L.length+1<=5864062014805) (hq:q<=w.heap.size)
  (hk:∀ v' w',SqL w' q v' (L++[t])->w.grownBy w' v.ownBlock->(∀ i,v.ownBlock=some i->q<=i/\TgT w i 62)->K (a.put o.dst v') w') :
  if Region.wanted o (yielded ops a.tmps)=true then Oper.wp Tryz.prog o a w K Q else E:=by
 have hw:Region.wanted o (yielded ops a.tmps)=true:=by simp [Region.wanted,hgd]
 rw [if_pos hw];obtain ⟨v',w',hrun,r1,r2,r3⟩:=run_append_sq o.type q v L hp t y hy g hg hn hq;unfold Oper.wp;simp [execOp,ho,resolve,invoke,builtin,hs,hx,hrun,Result.andThen];exact hk v' w' r1 r2 r3
def MdW (w:World)(M:Nat)(va vb:Value):Prop:=w.heap[M]?=some (.cells #[va,vb] 89 (0,0))
theorem MdW.keptR {w w':World}{M:Nat}{va vb:Value}{r:Option Nat}(h:MdW w M va vb)(hg:w.grownBy w' r)(hr:∀ g,r=some g->∃ t,TgT w g t/\t≠89):MdW w' M va vb:=by
 refine (hg.block _ (Array.getElem?_eq_some_iff.1 h).1 (fun e=>?_)).trans h;obtain ⟨t,ht,hne⟩:=hr M e.symm;exact tg_ne (⟨_,_,h⟩:TgT w M 89) ht (fun e=>hne e.symm) rfl
structure SmP (wr wx:World)(q M:Nat)(va vb':Value)(us:List Value)(L:List (List Int)):Prop where
 md:MdW wx M va vb'
 nd:NdL wx q va us
 sq:SqL wx q vb' L
 gr:∀ ws:World,ws.grownBy wr none->ws.heap.size<=q->ws.heap.size<=M->ws.grownBy wx none
 ot:∀ (d:Nat) (cs:Array Value) (t:TypeId) (z:Nat × Nat),wr.heap[d]?=some (Obj.cells cs t z)->t≠89->t≠62->wx.heap[d]?=some (Obj.cells cs t z)
theorem ab_r18 {y0 y1 y2 y3 y4 y5 y6 y7 y8 y9 y11 y12 y13 y15 y16 y17 y18 y19 y20 y21 y22 y23 y24 y25 y26 y27 y28 y29 y30 y31 y32 y33 y34 y35 y36 y37 y38 y39 y40 y41 y42 y43 y44 y45 y46 y47 y48 y49 y50 y51 y52 y53 y54 y55 y56 y57 y58 y59 y60 y61 y62 y63 y64 y65 y66 y67 y68 y69 y70 y71 y72 y73 y74 y75 y76 y77 y78 y79 y80 y81 y82 y83 y84 y85 y86 y87 y88 y89 y90 y91 y92 y93 y94 y95 y96 y97 y98 y99 y100 y101 y102 y103 y104 y105 y106 y107 y108 y109 y110 y111 y112 y113 y114 y115 y116 y117 y118 y119 y120 y121 y122 y123 y124 y125 y126 y127 y128 y129 y130 y131 y132 y133 y134 y135 y136 y137 y138 y139 y140 y141 y142 y143 y144 y145 y146 y147 y148 y149 y150 y151 y152 y153 y154 y155 y156 y157 y158 y159 y160 y161 y162 y163 y164 y165 y166 y167 y168 y169 y170 y171 y172 y173 y174 y175 y176 y177 y178 y179:Value}{q M sn sc:Nat}{so:Option Addr}{va vb:Value}{us:List Value}{L:List (List Int)}{s:List Int}{wr:World}{K:Exit->Act->World->Prop}
  (hM:MdW wr M va vb) (hN:NdL wr q va us) (hS:SqL wr q vb L) (hb:BtU wr so sn sc s) (hsn:sn<=140737488355328) (hL:L.length+1<=5864062014805) (hq:q<=wr.heap.size)
  (hK:∀ (v143 v144 v145 v146 v147 v148 v149:Value) (wx:World) (vb':Value),SmP wr wx q M va vb' us (L++[s])->K .normal ⟨List.toArray (y0::y1::y2::y3::y4::y5::y6::y7::y8::y9::(.pointer (some ⟨M,0,none⟩))::y11::y12::y13::(.slice so sn sc)::y15::y16::y17::y18::y19::y20::y21::y22::y23::y24::y25::y26::y27::y28::y29::y30::y31::y32::y33::y34::y35::y36::y37::y38::y39::y40::y41::y42::y43::y44::y45::y46::y47::y48::y49::y50::y51::y52::y53::y54::y55::y56::y57::y58::y59::y60::y61::y62::y63::y64::y65::y66::y67::y68::y69::y70::y71::y72::y73::y74::y75::y76::y77::y78::y79::y80::y81::y82::y83::y84::y85::y86::y87::y88::y89::y90::y91::y92::y93::y94::y95::y96::y97::y98::y99::y100::y101::y102::y103::y104::y105::y106::y107::y108::y109::y110::y111::y112::y113::y114::y115::y116::y117::y118::y119::y120::y121::y122::y123::y124::y125::y126::y127::y128::y129::y130::y131::y132::y133::y134::y135::y136::y137::y138::y139::y140::y141::y142::v143::v144::v145::v146::v147::v148::v149::y150::y151::y152::y153::y154::y155::y156::y157::y158::y159::y160::y161::y162::y163::y164::y165::y166::y167::y168::y169::y170::y171::y172::y173::y174::y175::y176::y177::y178::y179::[]),[]⟩ wx) :
  Code.wp Tryz.prog (Go.Code.region 18 #[⟨some 143,.fieldAddr 89 (.tmp 10) 1,0, "build.go:131",#[],none⟩,⟨some 144,.load 59 (.tmp 143),59, "build.go:131",#[⟨0,.data⟩],none⟩,⟨some 145,.move (.tmp 14),62, "build.go:131",#[],none⟩,⟨some 146,.call { callee:=.value (.func 56),args:=#[.tmp 145],argTypes:=#[62] },62, "build.go:131",#[⟨2,.data⟩],none⟩,⟨some 147,.buildSlice 59 1 #[(0,.tmp 146)],59, "build.go:131",#[⟨3,.data⟩],none⟩,⟨some 148,.call { callee:=.builtin Go.Builtin.append,args:=#[.tmp 144,.tmp 147],argTypes:=#[59,59] },59, "build.go:131",#[⟨1,.data⟩,⟨4,.data⟩,⟨3,.chain⟩],none⟩,⟨some 149,.fieldAddr 89 (.tmp 10) 1,0, "build.go:131",#[⟨0,.phase⟩,⟨1,.phase⟩,⟨2,.phase⟩,⟨3,.phase⟩,⟨4,.phase⟩,⟨5,.phase⟩],none⟩,⟨none,.store 59 (.tmp 149) (.tmp 148),0, "build.go:131",#[⟨6,.data⟩,⟨5,.data⟩,⟨5,.chain⟩,⟨0,.phase⟩,⟨1,.phase⟩,⟨2,.phase⟩,⟨3,.phase⟩,⟨4,.phase⟩,⟨5,.phase⟩],none⟩] true) K ⟨List.toArray (y0::y1::y2::y3::y4::y5::y6::y7::y8::y9::(.pointer (some ⟨M,0,none⟩))::y11::y12::y13::(.slice so sn sc)::y15::y16::y17::y18::y19::y20::y21::y22::y23::y24::y25::y26::y27::y28::y29::y30::y31::y32::y33::y34::y35::y36::y37::y38::y39::y40::y41::y42::y43::y44::y45::y46::y47::y48::y49::y50::y51::y52::y53::y54::y55::y56::y57::y58::y59::y60::y61::y62::y63::y64::y65::y66::y67::y68::y69::y70::y71::y72::y73::y74::y75::y76::y77::y78::y79::y80::y81::y82::y83::y84::y85::y86::y87::y88::y89::y90::y91::y92::y93::y94::y95::y96::y97::y98::y99::y100::y101::y102::y103::y104::y105::y106::y107::y108::y109::y110::y111::y112::y113::y114::y115::y116::y117::y118::y119::y120::y121::y122::y123::y124::y125::y126::y127::y128::y129::y130::y131::y132::y133::y134::y135::y136::y137::y138::y139::y140::y141::y142::y143::y144::y145::y146::y147::y148::y149::y150::y151::y152::y153::y154::y155::y156::y157::y158::y159::y160::y161::y162::y163::y164::y165::y166::y167::y168::y169::y170::y171::y172::y173::y174::y175::y176::y177::y178::y179::[]),[]⟩ wr:=by
 have HK:=hZq hK;have M0:=hZq hM;have N0:=hZq hN;have S0:=hZq hS;have B0:=hZq hb;obtain ⟨xa,xc,rfl⟩:=hS.shape;clear hK hM hN hS hb;obtain ⟨vb,hvb⟩:∃ vb,vb=Value.slice xa L.length xc:=⟨_,rfl⟩;rw [<- hvb] at M0 S0;have HV:=hZq hvb;clear hvb;try dsimp only
 refine wp_region_noPanic ?_;refine wp_region_held_drew (S:=(fun _=>True)) (by kernel_rfl) trivial (fun hHeld=>?_);have MD:Hid (MdW wr.drew M va vb):=M0.out.keptR ((Qt.refl wr).drew.grown none) (fun g e=>by cases e);have ND:Hid (NdL wr.drew q va us):=N0.out.keptR ((Qt.refl wr).drew.grown none) (fun g e=>by cases e);have SD:Hid (SqL wr.drew q vb L):=S0.out.keptR ((Qt.refl wr).drew.grown none) (fun g e=>by cases e);have BD:Hid (BtU wr.drew so sn sc s):=B0.out.kept (CkF.of ((Qt.refl wr).drew.grown none));have GD:=hZq (show wr.grownBy wr.drew none from (Qt.refl wr).drew.grown none);have sD:wr.drew.heap.size=wr.heap.size:=rfl;generalize wr.drew=wd at *;refine wpAnyH_take (i:=0) (oi:=⟨some 143,.fieldAddr 89 (.tmp 10) 1,0, "build.go:131",#[],none⟩) (v:=?_) rfl (by kernel_rfl) (by kernel_rfl) (by kernel_rfl) (fun _ _ _ h=>h) (Or.inl ⟨by rfl,?_⟩) (by assumption) ?_
 rotate_left
 ·intro w hSw;(try dsimp only at hSw);go_simp;(try with_reducible rfl)
 simp only [Act.put,List.setIfInBounds_toArray,List.set_cons_zero,List.set_cons_succ];refine wpAnyH_take (i:=2) (oi:=⟨some 145,.move (.tmp 14),62, "build.go:131",#[],none⟩) (v:=?_) rfl (by kernel_rfl) (by kernel_rfl) (by kernel_rfl) (fun _ _ _ h=>h) (Or.inl ⟨by rfl,?_⟩) (by assumption) ?_
 rotate_left
 ·intro w hSw;(try dsimp only at hSw);go_simp;(try with_reducible rfl)
 simp only [Act.put,List.setIfInBounds_toArray,List.set_cons_zero,List.set_cons_succ];refine wpAnyH_ready (rs:=[1,3]) (by kernel_rfl) (by simp) ?_;refine AllReadyH.cons (o:=⟨some 144,.load 59 (.tmp 143),59, "build.go:131",#[⟨0,.data⟩],none⟩) rfl (fun K2 hK2=>?_) ?_
 ·have cw:wd.cell? ⟨M,1,none⟩=some vb:=cell_of_row wd M 1 _ _ (0,0) MD.out
  go_simp
  refine hK2.out _ _ trivial (fun hHeld=>?_);clear hK2 K2;try simp only [Act.put,List.setIfInBounds_toArray,List.set_cons_zero,List.set_cons_succ]
  refine wpAnyH_ready (rs:=[3]) (by kernel_rfl) (by simp) ?_;refine AllReadyH.cons (o:=⟨some 146,.call { callee:=.value (.func 56),args:=#[.tmp 145],argTypes:=#[62] },62, "build.go:131",#[⟨2,.data⟩],none⟩) rfl (fun K2 hK2=>?_) AllReadyH.nil
  go_simp
  go_at_call 56
  refine (clone_bty so sn sc s wd BD.out.b hsn).mono ?_;rintro en w2 ⟨⟨a2,c2,rfl,hb2⟩,hg2⟩;have B2:=hZq hb2;have M2:=hZq (MD.out.keptR hg2 (fun g e=>by cases e));have N2:=hZq (ND.out.keptR hg2 (fun g e=>by cases e));have S2:=hZq (SD.out.keptR hg2 (fun g e=>by cases e));have G2:=hZq hg2;clear hb2 hg2;refine hK2.out _ _ trivial (fun hHeld=>?_);clear hK2 K2;try simp only [Act.put,List.setIfInBounds_toArray,List.set_cons_zero,List.set_cons_succ]
  refine wpAnyH_ready (rs:=[4]) (by kernel_rfl) (by simp) ?_;refine AllReadyH.cons (o:=⟨some 147,.buildSlice 59 1 #[(0,.tmp 146)],59, "build.go:131",#[⟨3,.data⟩],none⟩) rfl (fun K2 hK2=>?_) AllReadyH.nil
  go_simp
  refine hK2.out _ _ trivial (fun hHeld=>?_);clear hK2 K2;try simp only [Act.put,List.setIfInBounds_toArray,List.set_cons_zero,List.set_cons_succ]
  have ga:=World.grownBy_alloc w2 (.cells #[.slice a2 sn c2] 62) none;have B3:=hZq (B2.out.kept (FrT.of ga));have M3:=hZq (M2.out.keptR ga (fun g e=>by cases e));have N3:=hZq (N2.out.keptR ga (fun g e=>by cases e));have S3:=hZq (S2.out.keptR ga (fun g e=>by cases e));have C3:=hZq (cell_one_new w2 (.slice a2 sn c2) 62 0 _ rfl);have G3:=hZq ga;clear ga;generalize hN:w2.heap.size=N at *;generalize w2.alloc (.cells #[.slice a2 sn c2] 62)=w3 at *;refine wpAnyH_ready (rs:=[5]) (by kernel_rfl) (by simp) ?_;refine AllReadyH.cons (o:=⟨some 148,.call { callee:=.builtin Go.Builtin.append,args:=#[.tmp 144,.tmp 147],argTypes:=#[59,59] },59, "build.go:131",#[⟨1,.data⟩,⟨4,.data⟩,⟨3,.chain⟩],none⟩) rfl (fun K2 hK2=>?_) AllReadyH.nil;have C31:w3.cell? ⟨N,0,none⟩=some (.slice a2 sn c2):=by have:=C3.out;rwa [Addr.add_lit] at this
  refine step_append_sq rfl (.tmp 144) (.tmp 147) (by rfl) q vb L (by rfl) S3.out s (.slice a2 sn c2) ⟨_,_,_,rfl,B3.out⟩ N C31 (by rfl) hL (by have:=GD.out.size;have:=G2.out.size;have:=G3.out.size;omega) ?_;intro v4 w4 hs4 hg4 hr4;obtain ⟨va4,vc4,hv4⟩:=hs4.shape;obtain ⟨vn4,hvn⟩:∃ n,(L++[s]).length=n:=⟨_,rfl⟩;rw [hvn] at hv4;subst hv4;clear hvn;have M4:=hZq (M3.out.keptR hg4 (fun g e=>⟨62,(hr4 g e).2,by decide⟩));have N4:=hZq (N3.out.keptR hg4 (fun g e=>⟨62,(hr4 g e).2,by decide⟩));have S4:=hZq hs4;have R4:=hZq (And.intro hg4 hr4);clear hs4 hg4 hr4;refine hK2.out _ _ trivial (fun hHeld=>?_);clear hK2 K2;try simp only [Act.put,List.setIfInBounds_toArray,List.set_cons_zero,List.set_cons_succ]
  refine wpAnyH_take (i:=6) (oi:=⟨some 149,.fieldAddr 89 (.tmp 10) 1,0, "build.go:131",#[⟨0,.phase⟩,⟨1,.phase⟩,⟨2,.phase⟩,⟨3,.phase⟩,⟨4,.phase⟩,⟨5,.phase⟩],none⟩) (v:=?_) rfl (by kernel_rfl) (by kernel_rfl) (by kernel_rfl) (fun _ _ _ h=>h) (Or.inl ⟨by rfl,?_⟩) (by assumption) ?_
  rotate_left
  ·intro w hSw;(try dsimp only at hSw);go_simp;(try with_reducible rfl)
  simp only [Act.put,List.setIfInBounds_toArray,List.set_cons_zero,List.set_cons_succ];refine wpAnyH_ready (rs:=[7]) (by kernel_rfl) (by simp) ?_;refine AllReadyH.cons (o:=⟨none,.store 59 (.tmp 149) (.tmp 148),0, "build.go:131",#[⟨6,.data⟩,⟨5,.data⟩,⟨5,.chain⟩,⟨0,.phase⟩,⟨1,.phase⟩,⟨2,.phase⟩,⟨3,.phase⟩,⟨4,.phase⟩,⟨5,.phase⟩],none⟩) rfl (fun K2 hK2=>?_) AllReadyH.nil;have fM:w4.frozen? ⟨M,1,none⟩=false:=frozen_of_row w4 M 1 _ _ M4.out;have cM:w4.cell? ⟨M,1,none⟩=some vb:=cell_of_row w4 M 1 _ _ (0,0) M4.out
  go_simp
  refine hK2.out _ _ trivial (fun hHeld=>?_);clear hK2 K2;try simp only [Act.put,List.setIfInBounds_toArray,List.set_cons_zero,List.set_cons_succ]
  refine wpAnyH_done (by kernel_rfl) ?_ _;refine NoPanic.normal ?_;refine HK.out _ _ _ _ _ _ _ _ _ ⟨?_,N4.out.keptR (grown_cell w4 M 1 _) (fun g e=>⟨89,by cases e;exact ⟨_,_,M4.out⟩,by decide⟩),S4.out.keptR (grown_cell w4 M 1 _) (fun g e=>⟨89,by cases e;exact ⟨_,_,M4.out⟩,by decide,by decide⟩),fun ws hf hs1 hs2=>?_,fun d cs t z hd n1 n2=>?_⟩
  ·have:=heap_setCell_same w4 M 1 _ _ (.slice va4 vn4 vc4) M4.out
   exact this
  ·refine grown_new ?_ (grown_cell w4 M 1 (.slice va4 vn4 vc4)) hs2
   have h5:=gZq (gZq (gZq hf GD.out) G2.out) G3.out;cases hrow:vb.ownBlock with
   | none =>
    have:=R4.out.1;rw [hrow] at this;exact gZq h5 this
   | some g =>
    have:=R4.out.1;rw [hrow] at this;exact grown_new h5 this (by have:=(R4.out.2 g hrow).1;omega)
  ·have k3:=heap_kept (heap_kept (heap_kept hd GD.out) G2.out) G3.out
   have k4:=(R4.out.1.block d (Array.getElem?_eq_some_iff.1 k3).1 (fun e=>tg_ne (⟨_,_,k3⟩:TgT w3 d t) (R4.out.2 d e.symm).2 n2 rfl)).trans k3;exact ((grown_cell w4 M 1 (.slice va4 vn4 vc4)).block d (Array.getElem?_eq_some_iff.1 k4).1 (fun e=>tg_ne (⟨_,_,k4⟩:TgT w4 d t) (⟨_,_,M4.out⟩:TgT w4 M 89) n1 (by simpa using e))).trans k4
 ·refine AllReadyH.cons (o:=⟨some 146,.call { callee:=.value (.func 56),args:=#[.tmp 145],argTypes:=#[62] },62, "build.go:131",#[⟨2,.data⟩],none⟩) rfl (fun K2 hK2=>?_) AllReadyH.nil
  go_simp
  go_at_call 56
  refine (clone_bty so sn sc s wd BD.out.b hsn).mono ?_;rintro en w2 ⟨⟨a2,c2,rfl,hb2⟩,hg2⟩;have B2:=hZq hb2;have M2:=hZq (MD.out.keptR hg2 (fun g e=>by cases e));have N2:=hZq (ND.out.keptR hg2 (fun g e=>by cases e));have S2:=hZq (SD.out.keptR hg2 (fun g e=>by cases e));have G2:=hZq hg2;clear hb2 hg2;refine hK2.out _ _ trivial (fun hHeld=>?_);clear hK2 K2;try simp only [Act.put,List.setIfInBounds_toArray,List.set_cons_zero,List.set_cons_succ]
  refine wpAnyH_ready (rs:=[1,4]) (by kernel_rfl) (by simp) ?_;refine AllReadyH.cons (o:=⟨some 144,.load 59 (.tmp 143),59, "build.go:131",#[⟨0,.data⟩],none⟩) rfl (fun K2 hK2=>?_) ?_
  ·have cw:w2.cell? ⟨M,1,none⟩=some vb:=cell_of_row w2 M 1 _ _ (0,0) M2.out
   go_simp
   refine hK2.out _ _ trivial (fun hHeld=>?_);clear hK2 K2;try simp only [Act.put,List.setIfInBounds_toArray,List.set_cons_zero,List.set_cons_succ]
   refine wpAnyH_ready (rs:=[4]) (by kernel_rfl) (by simp) ?_;refine AllReadyH.cons (o:=⟨some 147,.buildSlice 59 1 #[(0,.tmp 146)],59, "build.go:131",#[⟨3,.data⟩],none⟩) rfl (fun K2 hK2=>?_) AllReadyH.nil
   go_simp
   refine hK2.out _ _ trivial (fun hHeld=>?_);clear hK2 K2;try simp only [Act.put,List.setIfInBounds_toArray,List.set_cons_zero,List.set_cons_succ]
   have ga:=World.grownBy_alloc w2 (.cells #[.slice a2 sn c2] 62) none;have B3:=hZq (B2.out.kept (FrT.of ga));have M3:=hZq (M2.out.keptR ga (fun g e=>by cases e));have N3:=hZq (N2.out.keptR ga (fun g e=>by cases e));have S3:=hZq (S2.out.keptR ga (fun g e=>by cases e));have C3:=hZq (cell_one_new w2 (.slice a2 sn c2) 62 0 _ rfl);have G3:=hZq ga;clear ga;generalize hN:w2.heap.size=N at *;generalize w2.alloc (.cells #[.slice a2 sn c2] 62)=w3 at *;refine wpAnyH_ready (rs:=[5]) (by kernel_rfl) (by simp) ?_;refine AllReadyH.cons (o:=⟨some 148,.call { callee:=.builtin Go.Builtin.append,args:=#[.tmp 144,.tmp 147],argTypes:=#[59,59] },59, "build.go:131",#[⟨1,.data⟩,⟨4,.data⟩,⟨3,.chain⟩],none⟩) rfl (fun K2 hK2=>?_) AllReadyH.nil;have C31:w3.cell? ⟨N,0,none⟩=some (.slice a2 sn c2):=by have:=C3.out;rwa [Addr.add_lit] at this
   refine step_append_sq rfl (.tmp 144) (.tmp 147) (by rfl) q vb L (by rfl) S3.out s (.slice a2 sn c2) ⟨_,_,_,rfl,B3.out⟩ N C31 (by rfl) hL (by have:=GD.out.size;have:=G2.out.size;have:=G3.out.size;omega) ?_;intro v4 w4 hs4 hg4 hr4;obtain ⟨va4,vc4,hv4⟩:=hs4.shape;obtain ⟨vn4,hvn⟩:∃ n,(L++[s]).length=n:=⟨_,rfl⟩;rw [hvn] at hv4;subst hv4;clear hvn;have M4:=hZq (M3.out.keptR hg4 (fun g e=>⟨62,(hr4 g e).2,by decide⟩));have N4:=hZq (N3.out.keptR hg4 (fun g e=>⟨62,(hr4 g e).2,by decide⟩));have S4:=hZq hs4;have R4:=hZq (And.intro hg4 hr4);clear hs4 hg4 hr4;refine hK2.out _ _ trivial (fun hHeld=>?_);clear hK2 K2;try simp only [Act.put,List.setIfInBounds_toArray,List.set_cons_zero,List.set_cons_succ]
   refine wpAnyH_take (i:=6) (oi:=⟨some 149,.fieldAddr 89 (.tmp 10) 1,0, "build.go:131",#[⟨0,.phase⟩,⟨1,.phase⟩,⟨2,.phase⟩,⟨3,.phase⟩,⟨4,.phase⟩,⟨5,.phase⟩],none⟩) (v:=?_) rfl (by kernel_rfl) (by kernel_rfl) (by kernel_rfl) (fun _ _ _ h=>h) (Or.inl ⟨by rfl,?_⟩) (by assumption) ?_
   rotate_left
   ·intro w hSw;(try dsimp only at hSw);go_simp;(try with_reducible rfl)
   simp only [Act.put,List.setIfInBounds_toArray,List.set_cons_zero,List.set_cons_succ];refine wpAnyH_ready (rs:=[7]) (by kernel_rfl) (by simp) ?_;refine AllReadyH.cons (o:=⟨none,.store 59 (.tmp 149) (.tmp 148),0, "build.go:131",#[⟨6,.data⟩,⟨5,.data⟩,⟨5,.chain⟩,⟨0,.phase⟩,⟨1,.phase⟩,⟨2,.phase⟩,⟨3,.phase⟩,⟨4,.phase⟩,⟨5,.phase⟩],none⟩) rfl (fun K2 hK2=>?_) AllReadyH.nil;have fM:w4.frozen? ⟨M,1,none⟩=false:=frozen_of_row w4 M 1 _ _ M4.out;have cM:w4.cell? ⟨M,1,none⟩=some vb:=cell_of_row w4 M 1 _ _ (0,0) M4.out
   go_simp
   refine hK2.out _ _ trivial (fun hHeld=>?_);clear hK2 K2;try simp only [Act.put,List.setIfInBounds_toArray,List.set_cons_zero,List.set_cons_succ]
   refine wpAnyH_done (by kernel_rfl) ?_ _;refine NoPanic.normal ?_;refine HK.out _ _ _ _ _ _ _ _ _ ⟨?_,N4.out.keptR (grown_cell w4 M 1 _) (fun g e=>⟨89,by cases e;exact ⟨_,_,M4.out⟩,by decide⟩),S4.out.keptR (grown_cell w4 M 1 _) (fun g e=>⟨89,by cases e;exact ⟨_,_,M4.out⟩,by decide,by decide⟩),fun ws hf hs1 hs2=>?_,fun d cs t z hd n1 n2=>?_⟩
   ·have:=heap_setCell_same w4 M 1 _ _ (.slice va4 vn4 vc4) M4.out
    exact this
   ·refine grown_new ?_ (grown_cell w4 M 1 (.slice va4 vn4 vc4)) hs2
    have h5:=gZq (gZq (gZq hf GD.out) G2.out) G3.out;cases hrow:vb.ownBlock with
    | none =>
     have:=R4.out.1;rw [hrow] at this;exact gZq h5 this
    | some g =>
     have:=R4.out.1;rw [hrow] at this;exact grown_new h5 this (by have:=(R4.out.2 g hrow).1;omega)
   ·have k3:=heap_kept (heap_kept (heap_kept hd GD.out) G2.out) G3.out
    have k4:=(R4.out.1.block d (Array.getElem?_eq_some_iff.1 k3).1 (fun e=>tg_ne (⟨_,_,k3⟩:TgT w3 d t) (R4.out.2 d e.symm).2 n2 rfl)).trans k3;exact ((grown_cell w4 M 1 (.slice va4 vn4 vc4)).block d (Array.getElem?_eq_some_iff.1 k4).1 (fun e=>tg_ne (⟨_,_,k4⟩:TgT w4 d t) (⟨_,_,M4.out⟩:TgT w4 M 89) n1 (by simpa using e))).trans k4
  ·refine AllReadyH.cons (o:=⟨some 147,.buildSlice 59 1 #[(0,.tmp 146)],59, "build.go:131",#[⟨3,.data⟩],none⟩) rfl (fun K2 hK2=>?_) AllReadyH.nil
   go_simp
   refine hK2.out _ _ trivial (fun hHeld=>?_);clear hK2 K2;try simp only [Act.put,List.setIfInBounds_toArray,List.set_cons_zero,List.set_cons_succ]
   have ga:=World.grownBy_alloc w2 (.cells #[.slice a2 sn c2] 62) none;have B3:=hZq (B2.out.kept (FrT.of ga));have M3:=hZq (M2.out.keptR ga (fun g e=>by cases e));have N3:=hZq (N2.out.keptR ga (fun g e=>by cases e));have S3:=hZq (S2.out.keptR ga (fun g e=>by cases e));have C3:=hZq (cell_one_new w2 (.slice a2 sn c2) 62 0 _ rfl);have G3:=hZq ga;clear ga;generalize hN:w2.heap.size=N at *;generalize w2.alloc (.cells #[.slice a2 sn c2] 62)=w3 at *;refine wpAnyH_ready (rs:=[1]) (by kernel_rfl) (by simp) ?_;refine AllReadyH.cons (o:=⟨some 144,.load 59 (.tmp 143),59, "build.go:131",#[⟨0,.data⟩],none⟩) rfl (fun K2 hK2=>?_) AllReadyH.nil;have cw:w3.cell? ⟨M,1,none⟩=some vb:=cell_of_row w3 M 1 _ _ (0,0) M3.out
   go_simp
   refine hK2.out _ _ trivial (fun hHeld=>?_);clear hK2 K2;try simp only [Act.put,List.setIfInBounds_toArray,List.set_cons_zero,List.set_cons_succ]
   refine wpAnyH_ready (rs:=[5]) (by kernel_rfl) (by simp) ?_;refine AllReadyH.cons (o:=⟨some 148,.call { callee:=.builtin Go.Builtin.append,args:=#[.tmp 144,.tmp 147],argTypes:=#[59,59] },59, "build.go:131",#[⟨1,.data⟩,⟨4,.data⟩,⟨3,.chain⟩],none⟩) rfl (fun K2 hK2=>?_) AllReadyH.nil;have C31:w3.cell? ⟨N,0,none⟩=some (.slice a2 sn c2):=by have:=C3.out;rwa [Addr.add_lit] at this
   refine step_append_sq rfl (.tmp 144) (.tmp 147) (by rfl) q vb L (by rfl) S3.out s (.slice a2 sn c2) ⟨_,_,_,rfl,B3.out⟩ N C31 (by rfl) hL (by have:=GD.out.size;have:=G2.out.size;have:=G3.out.size;omega) ?_;intro v4 w4 hs4 hg4 hr4;obtain ⟨va4,vc4,hv4⟩:=hs4.shape;obtain ⟨vn4,hvn⟩:∃ n,(L++[s]).length=n:=⟨_,rfl⟩;rw [hvn] at hv4;subst hv4;clear hvn;have M4:=hZq (M3.out.keptR hg4 (fun g e=>⟨62,(hr4 g e).2,by decide⟩));have N4:=hZq (N3.out.keptR hg4 (fun g e=>⟨62,(hr4 g e).2,by decide⟩));have S4:=hZq hs4;have R4:=hZq (And.intro hg4 hr4);clear hs4 hg4 hr4;refine hK2.out _ _ trivial (fun hHeld=>?_);clear hK2 K2;try simp only [Act.put,List.setIfInBounds_toArray,List.set_cons_zero,List.set_cons_succ]
   refine wpAnyH_take (i:=6) (oi:=⟨some 149,.fieldAddr 89 (.tmp 10) 1,0, "build.go:131",#[⟨0,.phase⟩,⟨1,.phase⟩,⟨2,.phase⟩,⟨3,.phase⟩,⟨4,.phase⟩,⟨5,.phase⟩],none⟩) (v:=?_) rfl (by kernel_rfl) (by kernel_rfl) (by kernel_rfl) (fun _ _ _ h=>h) (Or.inl ⟨by rfl,?_⟩) (by assumption) ?_
   rotate_left
   ·intro w hSw;(try dsimp only at hSw);go_simp;(try with_reducible rfl)
   simp only [Act.put,List.setIfInBounds_toArray,List.set_cons_zero,List.set_cons_succ];refine wpAnyH_ready (rs:=[7]) (by kernel_rfl) (by simp) ?_;refine AllReadyH.cons (o:=⟨none,.store 59 (.tmp 149) (.tmp 148),0, "build.go:131",#[⟨6,.data⟩,⟨5,.data⟩,⟨5,.chain⟩,⟨0,.phase⟩,⟨1,.phase⟩,⟨2,.phase⟩,⟨3,.phase⟩,⟨4,.phase⟩,⟨5,.phase⟩],none⟩) rfl (fun K2 hK2=>?_) AllReadyH.nil;have fM:w4.frozen? ⟨M,1,none⟩=false:=frozen_of_row w4 M 1 _ _ M4.out;have cM:w4.cell? ⟨M,1,none⟩=some vb:=cell_of_row w4 M 1 _ _ (0,0) M4.out
   go_simp
   refine hK2.out _ _ trivial (fun hHeld=>?_);clear hK2 K2;try simp only [Act.put,List.setIfInBounds_toArray,List.set_cons_zero,List.set_cons_succ]
   refine wpAnyH_done (by kernel_rfl) ?_ _;refine NoPanic.normal ?_;refine HK.out _ _ _ _ _ _ _ _ _ ⟨?_,N4.out.keptR (grown_cell w4 M 1 _) (fun g e=>⟨89,by cases e;exact ⟨_,_,M4.out⟩,by decide⟩),S4.out.keptR (grown_cell w4 M 1 _) (fun g e=>⟨89,by cases e;exact ⟨_,_,M4.out⟩,by decide,by decide⟩),fun ws hf hs1 hs2=>?_,fun d cs t z hd n1 n2=>?_⟩
   ·have:=heap_setCell_same w4 M 1 _ _ (.slice va4 vn4 vc4) M4.out
    exact this
   ·refine grown_new ?_ (grown_cell w4 M 1 (.slice va4 vn4 vc4)) hs2
    have h5:=gZq (gZq (gZq hf GD.out) G2.out) G3.out;cases hrow:vb.ownBlock with
    | none =>
     have:=R4.out.1;rw [hrow] at this;exact gZq h5 this
    | some g =>
     have:=R4.out.1;rw [hrow] at this;exact grown_new h5 this (by have:=(R4.out.2 g hrow).1;omega)
   ·have k3:=heap_kept (heap_kept (heap_kept hd GD.out) G2.out) G3.out
    have k4:=(R4.out.1.block d (Array.getElem?_eq_some_iff.1 k3).1 (fun e=>tg_ne (⟨_,_,k3⟩:TgT w3 d t) (R4.out.2 d e.symm).2 n2 rfl)).trans k3;exact ((grown_cell w4 M 1 (.slice va4 vn4 vc4)).block d (Array.getElem?_eq_some_iff.1 k4).1 (fun e=>tg_ne (⟨_,_,k4⟩:TgT w4 d t) (⟨_,_,M4.out⟩:TgT w4 M 89) n1 (by simpa using e))).trans k4
def Pc4 (w:World)(g o:Nat)(u:Value)(t:Int)(fa:Option Addr)(fn fc:Nat)(la:Option Addr)(ln lc:Nat):Prop:=w.cell? ⟨g,o,none⟩=some u/\w.cell? ⟨g,o+1,none⟩=some (.int .i64 t)/\w.cell? ⟨g,o+2,none⟩=some (.slice fa fn fc)/\w.cell? ⟨g,o+3,none⟩=some (.slice la ln lc)
theorem Pc4.kept {w w':World}{g o:Nat}{u:Value}{t:Int}{fa:Option Addr}{fn fc:Nat}{la:Option Addr}{ln lc:Nat}(h:Pc4 w g o u t fa fn fc la ln lc)(hg:w.grownBy w' none):Pc4 w' g o u t fa fn fc la ln lc:=⟨hg.cell h.1 (by simp),hg.cell h.2.1 (by simp),hg.cell h.2.2.1 (by simp),hg.cell h.2.2.2 (by simp)⟩
theorem ab_r16 {y0 y1 y2 y3 y4 y5 y6 y7 y8 y10 y11 y12 y15 y16 y17 y18 y19 y20 y21 y22 y23 y24 y25 y26 y27 y28 y29 y30 y31 y32 y33 y34 y35 y36 y37 y38 y39 y40 y41 y42 y43 y44 y45 y46 y47 y48 y49 y50 y51 y52 y53 y54 y55 y56 y57 y58 y59 y60 y61 y62 y63 y64 y65 y66 y67 y68 y69 y70 y71 y72 y73 y74 y75 y76 y77 y78 y79 y80 y81 y82 y83 y84 y85 y86 y87 y88 y89 y90 y91 y92 y93 y94 y95 y96 y97 y98 y99 y100 y101 y102 y103 y104 y105 y106 y107 y108 y109 y110 y111 y112 y113 y114 y115 y116 y117 y118 y119 y120 y121 y122 y123 y124 y125 y126 y127 y128 y129 y130 y131 y132 y133 y134 y135 y136 y137 y138 y139 y140 y141 y142 y143 y144 y145 y146 y147 y148 y149 y150 y151 y152 y153 y154 y155 y156 y157 y158 y159 y160 y161 y162 y163 y164 y165 y166 y167 y168 y169 y170 y171 y172 y173 y174 y175 y176 y177 y178 y179:Value}{g o k c i j sn sc fn fc ln lc fn' fc' ln' lc':Nat}{so fa la fa' la':Option Addr}{x0 x1:Value}{t1 t2:Int}{P:Prop}{wr:World}{K:Exit->Act->World->Prop}
  (h0:Pc4 wr g (o+i*4) x0 t1 fa fn fc la ln lc) (h1:Pc4 wr g (o+j*4) x1 t2 fa' fn' fc' la' ln' lc') (hx0:∃ T b,x0=.iface T (.pointer (some ⟨b,0,none⟩))) (hx1:∃ T b,x1=.iface T (.pointer (some ⟨b,0,none⟩))) (hij:i+1=j) (hj:j<k) (hk:k<=1000000000000)
  (hA:∀ W:World,wr.grownBy W none->1<=sn/\sn<=255->Calls Tryz.prog 111 #[.agg #[x0,.int .i64 t1,.slice fa fn fc,.slice la ln lc],.slice so sn sc,.agg #[x1,.int .i64 t2,.slice fa' fn' fc',.slice la' ln' lc']] W fun en w'=>BoxP P en/\W.grownBy w' none)
  (hK:∀ (v126 v127 v128 v129 v130 v131 v132 v133 v134 v135 v136 v137 v138 v139 v140 v141:Value) (f:Bool) (wx:World),BcQ f ((1<=sn/\sn<=255)/\P)->wr.grownBy wx none->K .normal ⟨List.toArray (y0::y1::y2::y3::y4::y5::y6::y7::y8::(.slice (some ⟨g,o,none⟩) k c)::y10::y11::y12::(.int .i64 (i:Nat))::(.slice so sn sc)::y15::y16::y17::y18::y19::y20::y21::y22::y23::y24::y25::y26::y27::y28::y29::y30::y31::y32::y33::y34::y35::y36::y37::y38::y39::y40::y41::y42::y43::y44::y45::y46::y47::y48::y49::y50::y51::y52::y53::y54::y55::y56::y57::y58::y59::y60::y61::y62::y63::y64::y65::y66::y67::y68::y69::y70::y71::y72::y73::y74::y75::y76::y77::y78::y79::y80::y81::y82::y83::y84::y85::y86::y87::y88::y89::y90::y91::y92::y93::y94::y95::y96::y97::y98::y99::y100::y101::y102::y103::y104::y105::y106::y107::y108::y109::y110::y111::y112::y113::y114::y115::y116::y117::y118::y119::y120::y121::y122::y123::y124::y125::v126::v127::v128::v129::v130::v131::v132::v133::v134::v135::v136::v137::v138::v139::v140::v141::(.bool f)::y143::y144::y145::y146::y147::y148::y149::y150::y151::y152::y153::y154::y155::y156::y157::y158::y159::y160::y161::y162::y163::y164::y165::y166::y167::y168::y169::y170::y171::y172::y173::y174::y175::y176::y177::y178::y179::[]),[]⟩ wx) :
  Code.wp Tryz.prog (Go.Code.region 16 #[⟨some 126,.move (.tmp 14),62, "build.go:128",#[],none⟩,⟨some 127,.call { callee:=.value (.func 52),args:=#[.tmp 126],argTypes:=#[62] },4, "build.go:128",#[⟨0,.data⟩],none⟩,⟨some 128,.unOp .not 4 (.tmp 127),4, "build.go:128",#[⟨1,.data⟩],none⟩,⟨some 129,.move (.tmp 128),4, "build.go:128",#[⟨2,.data⟩,⟨1,.chain⟩],none⟩,⟨some 130,.move (.tmp 9),110, "build.go:128",#[⟨3,.guard⟩],some (3,false)⟩,⟨some 131,.move (.tmp 13),3, "build.go:128",#[⟨3,.guard⟩],some (3,false)⟩,⟨some 132,.indexAddr 110 (.tmp 130) (.tmp 131),0, "build.go:128",#[⟨4,.data⟩,⟨5,.data⟩,⟨3,.guard⟩],some (3,false)⟩,⟨some 133,.load 118 (.tmp 132),118, "build.go:128",#[⟨6,.data⟩,⟨3,.guard⟩],some (3,false)⟩,⟨some 134,.move (.tmp 14),62, "build.go:128",#[⟨3,.guard⟩],some (3,false)⟩,⟨some 135,.move (.tmp 9),110, "build.go:128",#[⟨3,.guard⟩],some (3,false)⟩,⟨some 136,.move (.tmp 13),3, "build.go:128",#[⟨3,.guard⟩],some (3,false)⟩,⟨some 137,.binOp .add 3 (.tmp 136) (.const (.int .i64 1)) 3,3, "build.go:128",#[⟨10,.data⟩,⟨3,.guard⟩],some (3,false)⟩,⟨some 138,.indexAddr 110 (.tmp 135) (.tmp 137),0, "build.go:128",#[⟨9,.data⟩,⟨11,.data⟩,⟨3,.guard⟩],some (3,false)⟩,⟨some 139,.load 118 (.tmp 138),118, "build.go:128",#[⟨12,.data⟩,⟨3,.guard⟩],some (3,false)⟩,⟨some 140,.call { callee:=.value (.func 111),args:=#[.tmp 133,.tmp 134,.tmp 139],argTypes:=#[118,62,118] },4, "build.go:128",#[⟨7,.data⟩,⟨8,.data⟩,⟨13,.data⟩,⟨3,.chain⟩,⟨3,.guard⟩],some (3,false)⟩,⟨some 141,.unOp .not 4 (.tmp 140),4, "build.go:128",#[⟨14,.data⟩,⟨3,.guard⟩],some (3,false)⟩,⟨some 142,.pick (.tmp 129) (.const (.bool true)) (.tmp 141),4, "build.go:128",#[⟨3,.data⟩,⟨15,.data⟩],none⟩] true) K ⟨List.toArray (y0::y1::y2::y3::y4::y5::y6::y7::y8::(.slice (some ⟨g,o,none⟩) k c)::y10::y11::y12::(.int .i64 (i:Nat))::(.slice so sn sc)::y15::y16::y17::y18::y19::y20::y21::y22::y23::y24::y25::y26::y27::y28::y29::y30::y31::y32::y33::y34::y35::y36::y37::y38::y39::y40::y41::y42::y43::y44::y45::y46::y47::y48::y49::y50::y51::y52::y53::y54::y55::y56::y57::y58::y59::y60::y61::y62::y63::y64::y65::y66::y67::y68::y69::y70::y71::y72::y73::y74::y75::y76::y77::y78::y79::y80::y81::y82::y83::y84::y85::y86::y87::y88::y89::y90::y91::y92::y93::y94::y95::y96::y97::y98::y99::y100::y101::y102::y103::y104::y105::y106::y107::y108::y109::y110::y111::y112::y113::y114::y115::y116::y117::y118::y119::y120::y121::y122::y123::y124::y125::y126::y127::y128::y129::y130::y131::y132::y133::y134::y135::y136::y137::y138::y139::y140::y141::y142::y143::y144::y145::y146::y147::y148::y149::y150::y151::y152::y153::y154::y155::y156::y157::y158::y159::y160::y161::y162::y163::y164::y165::y166::y167::y168::y169::y170::y171::y172::y173::y174::y175::y176::y177::y178::y179::[]),[]⟩ wr:=by
 have HK:=hZq hK;have HA:=hZq hA;have GD:=hZq (show wr.grownBy wr.drew none from (Qt.refl wr).drew.grown none)
 have KP:Hid (∀ W:World,wr.grownBy W none->W.cell? ⟨g,o+i*4,none⟩=some x0/\W.cell? ⟨g,o+i*4+1,none⟩=some (.int .i64 t1)/\W.cell? ⟨g,o+i*4+2,none⟩=some (.slice fa fn fc)/\W.cell? ⟨g,o+i*4+3,none⟩=some (.slice la ln lc)/\W.cell? ⟨g,o+j*4,none⟩=some x1/\W.cell? ⟨g,o+j*4+1,none⟩=some (.int .i64 t2)/\W.cell? ⟨g,o+j*4+2,none⟩=some (.slice fa' fn' fc')/\W.cell? ⟨g,o+j*4+3,none⟩=some (.slice la' ln' lc')):=fun W hg=>by
  obtain ⟨a0,a1,a2,a3⟩:=h0.kept hg;obtain ⟨b0,b1,b2,b3⟩:=h1.kept hg;exact ⟨a0,a1,a2,a3,b0,b1,b2,b3⟩
 have T1:=hZq (KP.out wr (World.grownBy.refl wr none));have T0:=hZq (KP.out _ GD.out);obtain ⟨Y0,B0,rfl⟩:=hx0;obtain ⟨Y1,B1,rfl⟩:=hx1;have i0:(0:Int)<=(i:Int):=by omega
 have i1:(i:Int)<(k:Int):=by omega
 have j0:(0:Int)<=(j:Int):=by omega
 have j1:(j:Int)<(k:Int):=by omega
 have hw:IntKind.i64.wrap ((i:Int)+1)=(j:Int):=by rw [<- hij];exact wrap_id10 (by omega) (by omega)
 clear hK hA h0 h1 hij hj hk;cases hv:valid sn with
 | false =>
  have HP:Hid (BcQ true ((1<=sn/\sn<=255)/\P)):=BcQ.no fun h=>by simp [valid] at hv;omega
  refine wp_region_noPanic ?_;refine wp_region_held_drew (S:=(fun w'=>w'.cell? ⟨g,o+i*4,none⟩=some (.iface Y0 (.pointer (some ⟨B0,0,none⟩)))/\w'.cell? ⟨g,o+i*4+1,none⟩=some (.int .i64 t1)/\w'.cell? ⟨g,o+i*4+2,none⟩=some (.slice fa fn fc)/\w'.cell? ⟨g,o+i*4+3,none⟩=some (.slice la ln lc)/\w'.cell? ⟨g,o+j*4,none⟩=some (.iface Y1 (.pointer (some ⟨B1,0,none⟩)))/\w'.cell? ⟨g,o+j*4+1,none⟩=some (.int .i64 t2)/\w'.cell? ⟨g,o+j*4+2,none⟩=some (.slice fa' fn' fc')/\w'.cell? ⟨g,o+j*4+3,none⟩=some (.slice la' ln' lc'))) (by kernel_rfl) ?_ (fun hHeld=>?_)
  ·exact T0.out
  generalize wr.drew=wd at *;refine wpAnyH_take (i:=0) (oi:=⟨some 126,.move (.tmp 14),62, "build.go:128",#[],none⟩) (v:=?_) rfl (by kernel_rfl) (by kernel_rfl) (by kernel_rfl) (fun _ _ _ h=>h) (Or.inl ⟨by rfl,?_⟩) (by assumption) ?_
  rotate_left
  ·intro w hSw;(try dsimp only at hSw);go_simp;(try with_reducible rfl)
  simp only [Act.put,List.setIfInBounds_toArray,List.set_cons_zero,List.set_cons_succ];refine wpAnyH_ready (rs:=[1]) (by kernel_rfl) (by simp) ?_;refine AllReadyH.cons (o:=⟨some 127,.call { callee:=.value (.func 52),args:=#[.tmp 126],argTypes:=#[62] },4, "build.go:128",#[⟨0,.data⟩],none⟩) rfl (fun K2 hK2=>?_) AllReadyH.nil
  go_simp
  go_at_call 52
  refine (valid_any _ _ _ _).mono ?_;rintro en w4 ⟨rfl,hw4⟩;rw [hw4,hv];clear hw4;refine hK2.out _ _ (T0.out) (fun hHeld=>?_);clear hK2 K2;try simp only [Act.put,List.setIfInBounds_toArray,List.set_cons_zero,List.set_cons_succ]
  refine wpAnyH_take (i:=2) (oi:=⟨some 128,.unOp .not 4 (.tmp 127),4, "build.go:128",#[⟨1,.data⟩],none⟩) (v:=?_) rfl (by kernel_rfl) (by kernel_rfl) (by kernel_rfl) (fun _ _ _ h=>h) (Or.inl ⟨by rfl,?_⟩) (by assumption) ?_
  rotate_left
  ·intro w hSw;(try dsimp only at hSw);go_simp;(try with_reducible rfl)
  simp only [Act.put,List.setIfInBounds_toArray,List.set_cons_zero,List.set_cons_succ];refine wpAnyH_take (i:=3) (oi:=⟨some 129,.move (.tmp 128),4, "build.go:128",#[⟨2,.data⟩,⟨1,.chain⟩],none⟩) (v:=?_) rfl (by kernel_rfl) (by kernel_rfl) (by kernel_rfl) (fun _ _ _ h=>h) (Or.inl ⟨by rfl,?_⟩) (by assumption) ?_
  rotate_left
  ·intro w hSw;(try dsimp only at hSw);go_simp;(try with_reducible rfl)
  simp only [Act.put,List.setIfInBounds_toArray,List.set_cons_zero,List.set_cons_succ];refine wpAnyH_take (i:=4) (oi:=⟨some 130,.move (.tmp 9),110, "build.go:128",#[⟨3,.guard⟩],some (3,false)⟩) (v:=undef) rfl (by kernel_rfl) (by kernel_rfl) (by kernel_rfl) (fun _ _ _ h=>h) (Or.inr ⟨by rfl,rfl⟩) (by assumption) ?_;simp only [Act.put,List.setIfInBounds_toArray,List.set_cons_zero,List.set_cons_succ];refine wpAnyH_take (i:=5) (oi:=⟨some 131,.move (.tmp 13),3, "build.go:128",#[⟨3,.guard⟩],some (3,false)⟩) (v:=undef) rfl (by kernel_rfl) (by kernel_rfl) (by kernel_rfl) (fun _ _ _ h=>h) (Or.inr ⟨by rfl,rfl⟩) (by assumption) ?_;simp only [Act.put,List.setIfInBounds_toArray,List.set_cons_zero,List.set_cons_succ];refine wpAnyH_take (i:=6) (oi:=⟨some 132,.indexAddr 110 (.tmp 130) (.tmp 131),0, "build.go:128",#[⟨4,.data⟩,⟨5,.data⟩,⟨3,.guard⟩],some (3,false)⟩) (v:=undef) rfl (by kernel_rfl) (by kernel_rfl) (by kernel_rfl) (fun _ _ _ h=>h) (Or.inr ⟨by rfl,rfl⟩) (by assumption) ?_;simp only [Act.put,List.setIfInBounds_toArray,List.set_cons_zero,List.set_cons_succ];refine wpAnyH_take (i:=7) (oi:=⟨some 133,.load 118 (.tmp 132),118, "build.go:128",#[⟨6,.data⟩,⟨3,.guard⟩],some (3,false)⟩) (v:=undef) rfl (by kernel_rfl) (by kernel_rfl) (by kernel_rfl) (fun _ _ _ h=>h) (Or.inr ⟨by rfl,rfl⟩) (by assumption) ?_;simp only [Act.put,List.setIfInBounds_toArray,List.set_cons_zero,List.set_cons_succ];refine wpAnyH_take (i:=8) (oi:=⟨some 134,.move (.tmp 14),62, "build.go:128",#[⟨3,.guard⟩],some (3,false)⟩) (v:=undef) rfl (by kernel_rfl) (by kernel_rfl) (by kernel_rfl) (fun _ _ _ h=>h) (Or.inr ⟨by rfl,rfl⟩) (by assumption) ?_;simp only [Act.put,List.setIfInBounds_toArray,List.set_cons_zero,List.set_cons_succ];refine wpAnyH_take (i:=9) (oi:=⟨some 135,.move (.tmp 9),110, "build.go:128",#[⟨3,.guard⟩],some (3,false)⟩) (v:=undef) rfl (by kernel_rfl) (by kernel_rfl) (by kernel_rfl) (fun _ _ _ h=>h) (Or.inr ⟨by rfl,rfl⟩) (by assumption) ?_;simp only [Act.put,List.setIfInBounds_toArray,List.set_cons_zero,List.set_cons_succ];refine wpAnyH_take (i:=10) (oi:=⟨some 136,.move (.tmp 13),3, "build.go:128",#[⟨3,.guard⟩],some (3,false)⟩) (v:=undef) rfl (by kernel_rfl) (by kernel_rfl) (by kernel_rfl) (fun _ _ _ h=>h) (Or.inr ⟨by rfl,rfl⟩) (by assumption) ?_;simp only [Act.put,List.setIfInBounds_toArray,List.set_cons_zero,List.set_cons_succ];refine wpAnyH_take (i:=11) (oi:=⟨some 137,.binOp .add 3 (.tmp 136) (.const (.int .i64 1)) 3,3, "build.go:128",#[⟨10,.data⟩,⟨3,.guard⟩],some (3,false)⟩) (v:=undef) rfl (by kernel_rfl) (by kernel_rfl) (by kernel_rfl) (fun _ _ _ h=>h) (Or.inr ⟨by rfl,rfl⟩) (by assumption) ?_;simp only [Act.put,List.setIfInBounds_toArray,List.set_cons_zero,List.set_cons_succ];refine wpAnyH_take (i:=12) (oi:=⟨some 138,.indexAddr 110 (.tmp 135) (.tmp 137),0, "build.go:128",#[⟨9,.data⟩,⟨11,.data⟩,⟨3,.guard⟩],some (3,false)⟩) (v:=undef) rfl (by kernel_rfl) (by kernel_rfl) (by kernel_rfl) (fun _ _ _ h=>h) (Or.inr ⟨by rfl,rfl⟩) (by assumption) ?_;simp only [Act.put,List.setIfInBounds_toArray,List.set_cons_zero,List.set_cons_succ];refine wpAnyH_take (i:=13) (oi:=⟨some 139,.load 118 (.tmp 138),118, "build.go:128",#[⟨12,.data⟩,⟨3,.guard⟩],some (3,false)⟩) (v:=undef) rfl (by kernel_rfl) (by kernel_rfl) (by kernel_rfl) (fun _ _ _ h=>h) (Or.inr ⟨by rfl,rfl⟩) (by assumption) ?_;simp only [Act.put,List.setIfInBounds_toArray,List.set_cons_zero,List.set_cons_succ];refine wpAnyH_take (i:=14) (oi:=⟨some 140,.call { callee:=.value (.func 111),args:=#[.tmp 133,.tmp 134,.tmp 139],argTypes:=#[118,62,118] },4, "build.go:128",#[⟨7,.data⟩,⟨8,.data⟩,⟨13,.data⟩,⟨3,.chain⟩,⟨3,.guard⟩],some (3,false)⟩) (v:=undef) rfl (by kernel_rfl) (by kernel_rfl) (by kernel_rfl) (fun _ _ _ h=>h) (Or.inr ⟨by rfl,rfl⟩) (by assumption) ?_;simp only [Act.put,List.setIfInBounds_toArray,List.set_cons_zero,List.set_cons_succ];refine wpAnyH_take (i:=15) (oi:=⟨some 141,.unOp .not 4 (.tmp 140),4, "build.go:128",#[⟨14,.data⟩,⟨3,.guard⟩],some (3,false)⟩) (v:=undef) rfl (by kernel_rfl) (by kernel_rfl) (by kernel_rfl) (fun _ _ _ h=>h) (Or.inr ⟨by rfl,rfl⟩) (by assumption) ?_;simp only [Act.put,List.setIfInBounds_toArray,List.set_cons_zero,List.set_cons_succ]
  refine wpAnyH_take (i:=16) (oi:=⟨some 142,.pick (.tmp 129) (.const (.bool true)) (.tmp 141),4, "build.go:128",#[⟨3,.data⟩,⟨15,.data⟩],none⟩) (v:=?_) rfl (by kernel_rfl) (by kernel_rfl) (by kernel_rfl) (fun _ _ _ h=>h) (Or.inl ⟨by rfl,?_⟩) (by assumption) ?_
  rotate_left
  ·intro w hSw;(try dsimp only at hSw);go_simp;(try with_reducible rfl)
  simp only [Act.put,List.setIfInBounds_toArray,List.set_cons_zero,List.set_cons_succ];refine wpAnyH_done (by kernel_rfl) ?_ _;refine NoPanic.normal ?_;exact HK.out _ _ _ _ _ _ _ _ _ _ _ _ _ _ _ _ _ _ HP.out GD.out
 | true =>
  have hvs:1<=sn/\sn<=255:=by simpa [valid] using hv
  have CA:=hZq (HA.out _ GD.out hvs)
  have HP:Hid (∀ f:Bool,(f=true->P)->(P->f=true)->BcQ (!f) ((1<=sn/\sn<=255)/\P)):=fun f a b=>by
   cases f with
   | true=>exact BcQ.yes ⟨hvs,a rfl⟩
   | false=>exact BcQ.no fun h=>(by have:=b h.2;cases this)
  clear hvs;refine wp_region_noPanic ?_;refine wp_region_held_drew (S:=(fun w'=>w'.cell? ⟨g,o+i*4,none⟩=some (.iface Y0 (.pointer (some ⟨B0,0,none⟩)))/\w'.cell? ⟨g,o+i*4+1,none⟩=some (.int .i64 t1)/\w'.cell? ⟨g,o+i*4+2,none⟩=some (.slice fa fn fc)/\w'.cell? ⟨g,o+i*4+3,none⟩=some (.slice la ln lc)/\w'.cell? ⟨g,o+j*4,none⟩=some (.iface Y1 (.pointer (some ⟨B1,0,none⟩)))/\w'.cell? ⟨g,o+j*4+1,none⟩=some (.int .i64 t2)/\w'.cell? ⟨g,o+j*4+2,none⟩=some (.slice fa' fn' fc')/\w'.cell? ⟨g,o+j*4+3,none⟩=some (.slice la' ln' lc'))) (by kernel_rfl) ?_ (fun hHeld=>?_)
  ·exact T0.out
  generalize wr.drew=wd at *;refine wpAnyH_take (i:=0) (oi:=⟨some 126,.move (.tmp 14),62, "build.go:128",#[],none⟩) (v:=?_) rfl (by kernel_rfl) (by kernel_rfl) (by kernel_rfl) (fun _ _ _ h=>h) (Or.inl ⟨by rfl,?_⟩) (by assumption) ?_
  rotate_left
  ·intro w hSw;(try dsimp only at hSw);go_simp;(try with_reducible rfl)
  simp only [Act.put,List.setIfInBounds_toArray,List.set_cons_zero,List.set_cons_succ];refine wpAnyH_ready (rs:=[1]) (by kernel_rfl) (by simp) ?_;refine AllReadyH.cons (o:=⟨some 127,.call { callee:=.value (.func 52),args:=#[.tmp 126],argTypes:=#[62] },4, "build.go:128",#[⟨0,.data⟩],none⟩) rfl (fun K2 hK2=>?_) AllReadyH.nil
  go_simp
  go_at_call 52
  refine (valid_any _ _ _ _).mono ?_;rintro en w4 ⟨rfl,hw4⟩;rw [hw4,hv];clear hw4;refine hK2.out _ _ (T0.out) (fun hHeld=>?_);clear hK2 K2;try simp only [Act.put,List.setIfInBounds_toArray,List.set_cons_zero,List.set_cons_succ]
  refine wpAnyH_take (i:=2) (oi:=⟨some 128,.unOp .not 4 (.tmp 127),4, "build.go:128",#[⟨1,.data⟩],none⟩) (v:=?_) rfl (by kernel_rfl) (by kernel_rfl) (by kernel_rfl) (fun _ _ _ h=>h) (Or.inl ⟨by rfl,?_⟩) (by assumption) ?_
  rotate_left
  ·intro w hSw;(try dsimp only at hSw);go_simp;(try with_reducible rfl)
  simp only [Act.put,List.setIfInBounds_toArray,List.set_cons_zero,List.set_cons_succ];refine wpAnyH_take (i:=3) (oi:=⟨some 129,.move (.tmp 128),4, "build.go:128",#[⟨2,.data⟩,⟨1,.chain⟩],none⟩) (v:=?_) rfl (by kernel_rfl) (by kernel_rfl) (by kernel_rfl) (fun _ _ _ h=>h) (Or.inl ⟨by rfl,?_⟩) (by assumption) ?_
  rotate_left
  ·intro w hSw;(try dsimp only at hSw);go_simp;(try with_reducible rfl)
  simp only [Act.put,List.setIfInBounds_toArray,List.set_cons_zero,List.set_cons_succ];refine wpAnyH_take (i:=4) (oi:=⟨some 130,.move (.tmp 9),110, "build.go:128",#[⟨3,.guard⟩],some (3,false)⟩) (v:=?_) rfl (by kernel_rfl) (by kernel_rfl) (by kernel_rfl) (fun _ _ _ h=>h) (Or.inl ⟨by rfl,?_⟩) (by assumption) ?_
  rotate_left
  ·intro w hSw;(try dsimp only at hSw);go_simp;(try with_reducible rfl)
  simp only [Act.put,List.setIfInBounds_toArray,List.set_cons_zero,List.set_cons_succ];refine wpAnyH_take (i:=5) (oi:=⟨some 131,.move (.tmp 13),3, "build.go:128",#[⟨3,.guard⟩],some (3,false)⟩) (v:=?_) rfl (by kernel_rfl) (by kernel_rfl) (by kernel_rfl) (fun _ _ _ h=>h) (Or.inl ⟨by rfl,?_⟩) (by assumption) ?_
  rotate_left
  ·intro w hSw;(try dsimp only at hSw);go_simp;(try with_reducible rfl)
  simp only [Act.put,List.setIfInBounds_toArray,List.set_cons_zero,List.set_cons_succ];refine wpAnyH_take (i:=6) (oi:=⟨some 132,.indexAddr 110 (.tmp 130) (.tmp 131),0, "build.go:128",#[⟨4,.data⟩,⟨5,.data⟩,⟨3,.guard⟩],some (3,false)⟩) (v:=?_) rfl (by kernel_rfl) (by kernel_rfl) (by kernel_rfl) (fun _ _ _ h=>h) (Or.inl ⟨by rfl,?_⟩) (by assumption) ?_
  rotate_left
  ·intro w hSw;(try dsimp only at hSw);go_simp;(try with_reducible rfl)
  simp only [Act.put,List.setIfInBounds_toArray,List.set_cons_zero,List.set_cons_succ];refine wpAnyH_take (i:=7) (oi:=⟨some 133,.load 118 (.tmp 132),118, "build.go:128",#[⟨6,.data⟩,⟨3,.guard⟩],some (3,false)⟩) (v:=?_) rfl (by kernel_rfl) (by kernel_rfl) (by kernel_rfl) (fun _ _ _ h=>h) (Or.inl ⟨by rfl,?_⟩) (by assumption) ?_
  rotate_left
  ·intro w hSw;(try dsimp only at hSw);go_simp;(try with_reducible rfl)
  simp only [Act.put,List.setIfInBounds_toArray,List.set_cons_zero,List.set_cons_succ];refine wpAnyH_take (i:=8) (oi:=⟨some 134,.move (.tmp 14),62, "build.go:128",#[⟨3,.guard⟩],some (3,false)⟩) (v:=?_) rfl (by kernel_rfl) (by kernel_rfl) (by kernel_rfl) (fun _ _ _ h=>h) (Or.inl ⟨by rfl,?_⟩) (by assumption) ?_
  rotate_left
  ·intro w hSw;(try dsimp only at hSw);go_simp;(try with_reducible rfl)
  simp only [Act.put,List.setIfInBounds_toArray,List.set_cons_zero,List.set_cons_succ];refine wpAnyH_take (i:=9) (oi:=⟨some 135,.move (.tmp 9),110, "build.go:128",#[⟨3,.guard⟩],some (3,false)⟩) (v:=?_) rfl (by kernel_rfl) (by kernel_rfl) (by kernel_rfl) (fun _ _ _ h=>h) (Or.inl ⟨by rfl,?_⟩) (by assumption) ?_
  rotate_left
  ·intro w hSw;(try dsimp only at hSw);go_simp;(try with_reducible rfl)
  simp only [Act.put,List.setIfInBounds_toArray,List.set_cons_zero,List.set_cons_succ];refine wpAnyH_take (i:=10) (oi:=⟨some 136,.move (.tmp 13),3, "build.go:128",#[⟨3,.guard⟩],some (3,false)⟩) (v:=?_) rfl (by kernel_rfl) (by kernel_rfl) (by kernel_rfl) (fun _ _ _ h=>h) (Or.inl ⟨by rfl,?_⟩) (by assumption) ?_
  rotate_left
  ·intro w hSw;(try dsimp only at hSw);go_simp;(try with_reducible rfl)
  simp only [Act.put,List.setIfInBounds_toArray,List.set_cons_zero,List.set_cons_succ];refine wpAnyH_take (i:=11) (oi:=⟨some 137,.binOp .add 3 (.tmp 136) (.const (.int .i64 1)) 3,3, "build.go:128",#[⟨10,.data⟩,⟨3,.guard⟩],some (3,false)⟩) (v:=?_) rfl (by kernel_rfl) (by kernel_rfl) (by kernel_rfl) (fun _ _ _ h=>h) (Or.inl ⟨by rfl,?_⟩) (by assumption) ?_
  rotate_left
  ·intro w hSw;(try dsimp only at hSw);go_simp;(try with_reducible rfl)
  simp only [Act.put,List.setIfInBounds_toArray,List.set_cons_zero,List.set_cons_succ];refine wpAnyH_take (i:=12) (oi:=⟨some 138,.indexAddr 110 (.tmp 135) (.tmp 137),0, "build.go:128",#[⟨9,.data⟩,⟨11,.data⟩,⟨3,.guard⟩],some (3,false)⟩) (v:=?_) rfl (by kernel_rfl) (by kernel_rfl) (by kernel_rfl) (fun _ _ _ h=>h) (Or.inl ⟨by rfl,?_⟩) (by assumption) ?_
  rotate_left
  ·intro w hSw;(try dsimp only at hSw);go_simp;(try with_reducible rfl)
  simp only [Act.put,List.setIfInBounds_toArray,List.set_cons_zero,List.set_cons_succ];refine wpAnyH_take (i:=13) (oi:=⟨some 139,.load 118 (.tmp 138),118, "build.go:128",#[⟨12,.data⟩,⟨3,.guard⟩],some (3,false)⟩) (v:=?_) rfl (by kernel_rfl) (by kernel_rfl) (by kernel_rfl) (fun _ _ _ h=>h) (Or.inl ⟨by rfl,?_⟩) (by assumption) ?_
  rotate_left
  ·intro w hSw;(try dsimp only at hSw);go_simp;(try with_reducible rfl)
  simp only [Act.put,List.setIfInBounds_toArray,List.set_cons_zero,List.set_cons_succ];refine wpAnyH_ready (rs:=[14]) (by kernel_rfl) (by simp) ?_;refine AllReadyH.cons (o:=⟨some 140,.call { callee:=.value (.func 111),args:=#[.tmp 133,.tmp 134,.tmp 139],argTypes:=#[118,62,118] },4, "build.go:128",#[⟨7,.data⟩,⟨8,.data⟩,⟨13,.data⟩,⟨3,.chain⟩,⟨3,.guard⟩],some (3,false)⟩) rfl (fun K2 hK2=>?_) AllReadyH.nil
  go_simp
  go_at_call 111
  refine CA.out.mono ?_;rintro en w5 ⟨⟨f,rfl,hf1,hf2⟩,hg5⟩;have G4:=hZq (gZq GD.out hg5);have T4:=hZq (KP.out _ G4.out);have HF:=hZq (HP.out f hf1 hf2);clear hf1 hf2 hg5;refine hK2.out _ _ (T4.out) (fun hHeld=>?_);clear hK2 K2;try simp only [Act.put,List.setIfInBounds_toArray,List.set_cons_zero,List.set_cons_succ]
  refine wpAnyH_take (i:=15) (oi:=⟨some 141,.unOp .not 4 (.tmp 140),4, "build.go:128",#[⟨14,.data⟩,⟨3,.guard⟩],some (3,false)⟩) (v:=?_) rfl (by kernel_rfl) (by kernel_rfl) (by kernel_rfl) (fun _ _ _ h=>h) (Or.inl ⟨by rfl,?_⟩) (by assumption) ?_
  rotate_left
  ·intro w hSw;(try dsimp only at hSw);go_simp;(try with_reducible rfl)
  simp only [Act.put,List.setIfInBounds_toArray,List.set_cons_zero,List.set_cons_succ];refine wpAnyH_take (i:=16) (oi:=⟨some 142,.pick (.tmp 129) (.const (.bool true)) (.tmp 141),4, "build.go:128",#[⟨3,.data⟩,⟨15,.data⟩],none⟩) (v:=?_) rfl (by kernel_rfl) (by kernel_rfl) (by kernel_rfl) (fun _ _ _ h=>h) (Or.inl ⟨by rfl,?_⟩) (by assumption) ?_
  rotate_left
  ·intro w hSw;(try dsimp only at hSw);go_simp;(try with_reducible rfl)
  simp only [Act.put,List.setIfInBounds_toArray,List.set_cons_zero,List.set_cons_succ];refine wpAnyH_done (by kernel_rfl) ?_ _;refine NoPanic.normal ?_;exact HK.out _ _ _ _ _ _ _ _ _ _ _ _ _ _ _ _ _ _ HF.out G4.out
end Go.Proofs.YteaahinjcfjngaaGreat
