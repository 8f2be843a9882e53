import Derived.Test.YtgldkdbkaachkaaGreatDoorK6
import Derived.Deep.RegionLaw
import Derived.Great.Walk
import Derived.Laws.CopyOwn
set_option maxRecDepth 100000
set_option maxHeartbeats 4000000
namespace Go.Proofs.YtgldkdbkaachkaaGreatDoor
open Go.RowKit
variable {ops:Array Oper}{lv:Int}{L:List (List Int)}{Ky P zs:List Int}{rest:List Oper}{xs:List Value}{G Q R R' T U base g n p pc pn:Nat}{s st:Nat × Int}{o:Oper}{ao po:Option Addr}{t:TypeId}{a b c d v:Value}{w w' w'':World}
def Rw (w:World)(g:Nat)(zs:List Int):Prop:=w.heap[g]?=some (.cells (zs.map (Value.int .u8)).toArray 5 (0,0))
theorem Rw.lt (h:Rw w g zs):g<w.heap.size:=(Array.getElem?_eq_some_iff.1 h).1
theorem Rw.cell {zs:List Int}(h:Rw w g zs)(i:Nat)(hi:i<zs.length):w.cell? ⟨g,i,none⟩=some (.int .u8 (zs.getD i 0)):=by
 rw [cell_of_row w g i _ _ (0,0) h];simp [List.getD,List.getElem?_eq_getElem hi]
theorem Rw.AL (h:Rw w g zs)(off n cap:Nat)(hn:off+n<=zs.length):ai w (some ⟨g,off,none⟩) n cap ((zs.drop off).take n):=by
 refine ai.eZ (by rw [List.length_take,List.length_drop];omega) fun i hi=>?_
 rw [h.cell (off+i) (by omega)];simp [List.getD,hi]
theorem Rw.all (h:Rw w g zs)(n cap:Nat)(hn:n=zs.length):ai w (some ⟨g,0,none⟩) n cap zs:=by
 have:=h.AL 0 n cap (by omega)
 rwa [List.drop_zero,List.take_of_length_le (by omega)] at this
theorem Rw.kept {row:Option Nat}(h:Rw w g zs)(hg:w.grownBy w' row)(hne:some g≠row):Rw w' g zs:=(hg.block g h.lt hne).trans h
theorem Rw.ae (h:Rw w g zs)(hg:w.grownBy w' none):Rw w' g zs:=h.kept hg (by simp)
theorem Rw.aP (h:w.ownsRow base 5 1 (.slice (some ⟨g,0,none⟩) n n) n (zs.map (Value.int .u8))):Rw w g zs:=by
 rcases h with ⟨hl,⟨h0,_⟩ | ⟨g',cap,cur,hv,_,hg,_,_,hs,ht⟩⟩
 ·cases h0
 ·injection hv with e1 e2 e3
  injection e1 with e1
  injection e1 with e4
  subst e4 e3
  have:cur.toList=zs.map (Value.int .u8):=by
   rw [<- ht,List.take_of_length_le (by simp [hs])]
  unfold Rw;rw [hg,<- this]
theorem made (n:Nat):(madeCells #[Value.int .u8 0] n).toList=(List.replicate n (0:Int)).map (Value.int .u8):=by
 refine List.ext_getElem (by simp [madeCells]) fun i h1 h2=>?_
 simp [madeCells,Nat.mod_one]
structure Ro (w w':World)(g:Nat)(xs:List Value):Prop where
 row:w'.heap[g]?=some (.cells xs.toArray 5 (0,0))
 Ug:∀ k,k≠g->w'.heap[k]?=w.heap[k]?
 size:w'.heap.size=w.heap.size
 os:w'.os=w.os
 tape:w'.tape=w.tape
 output:w'.output=w.output
theorem Ro.cell (h:Ro w w' g xs)(R i:Nat)(hR:R≠g):w'.cell? ⟨R,i,none⟩=w.cell? ⟨R,i,none⟩:=World.cell?_of_block (h.Ug R hR)
theorem Ro.grown (h:Ro w w' g xs):w.grownBy w' (some g) :=
 ⟨h.os,h.tape,h.output,by rw [h.size];exact Nat.le_refl _,fun k _ hne=>h.Ug k (fun e=>hne (by rw [e]))⟩
theorem nQ {a:Act}{K:Act->World->Prop}{Q:Exit->Act->World->Prop}{E:Prop}(hgd:o.guard=none)(d s:Operand)
  (ho:o.op=.call { callee:=.builtin .copy,args:=#[d,s],argTypes:=#[25,25] })
  (dp sp:Option Addr) (dLen dCap sLen sCap:Nat) (hd:a.eval d=.slice dp dLen dCap) (hs:a.eval s=.slice sp sLen sCap)
  (g off:Nat) (cur:List Value) (hg:w.heap[g]?=some (.cells cur.toArray 5 (0,0))) (cs:List Value) (hn:cs.length=Nat.min sLen dLen)
  (hpos:0<cs.length->dp=some ⟨g,off,none⟩/\∃ ad,sp=some ad/\∀ j v,cs[j]?=some v->w.cell? (ad.add j)=some v)
  (hfit:off+cs.length<=cur.length) (h1:∀ v∈cs,v.oneCell'=true) (k:Nat) (hk:cs.length=k)
  (h:∀ w',Ro w w' g (splice cur off cs)->K (a.put o.dst (.int .i64 (k:Int))) w') :
  if Region.wanted o (yielded ops a.tmps)=true then Oper.wp Tryz.prog o a w K Q else E:=by
 obtain ⟨i0,hi,hz0,hz1,hz2⟩:=info_parts bF;have hsz:(Tryz.prog.info? 5).map (·.size)=some 1:=by rw [hi];exact congrArg some hz1
 have hw:Region.wanted o (yielded ops a.tmps)=true:=by simp [Region.wanted,hgd]
 rw [if_pos hw];subst hk
 by_cases h0:cs.length=0
 ·obtain rfl:cs=[]:=List.eq_nil_of_length_eq_zero h0
  have hrun:=run_copy_none (P:=Tryz.prog) w 25 25 o.type 5 dp sp dLen dCap sLen sCap Tryz.underlying25 hsz (by simpa using hn.symm);unfold Oper.wp;simp [execOp,ho,resolve,invoke,builtin,hd,hs,hrun,Result.andThen];exact h w ⟨by simpa [splice] using hg,fun _ _=>rfl,rfl,rfl,rfl,rfl⟩
 ·obtain ⟨rfl,ad,rfl,hsrc⟩:=hpos (by omega)
  have hrun:=run_copy_row (P:=Tryz.prog) w 25 25 o.type 5 g off dLen dCap ad sLen sCap cur.toArray 5 cs Tryz.underlying25 hsz hg hn hsrc (by simpa using hfit) h1;unfold Oper.wp;simp [execOp,ho,resolve,invoke,builtin,hd,hs,hrun,Result.andThen];exact h _ ⟨by simpa [splice] using setRow_heap w g _ _ _ _ hg,fun k hk=>setRow_other w g k _ hk,by simp [World.setRow],rfl,rfl,rfl⟩
def Wt (w:World)(R G p:Nat):Prop:=w.heap[R]?=some (.cells #[.slice (some ⟨G,0,none⟩) 4092 4092,.int .i64 p] 231 (0,0))
theorem Wt.cells {w:World}(h:Wt w R G p):w.cell? ⟨R,0,none⟩=some (.slice (some ⟨G,0,none⟩) 4092 4092)/\w.cell? ⟨R,1,none⟩=some (.int .i64 p)/\w.frozen? ⟨R,1,none⟩=false:=by
 refine ⟨?_,?_,frozen_of_row w R 1 _ _ h⟩
 ·rw [cell_of_row w R 0 _ _ _ h];rfl
 ·rw [cell_of_row w R 1 _ _ _ h];rfl
theorem Wt.lt (h:Wt w R G p):R<w.heap.size:=(Array.getElem?_eq_some_iff.1 h).1
theorem Wt.set (h:Wt w R G p)(q:Nat)(v:Int)(hv:v=(q:Int)):Wt (w.setCell ⟨R,1,none⟩ (.int .i64 v)) R G q:=by
 have:=heap_setCell_same w R 1 _ _ (.int .i64 v) h;subst hv;exact this
structure Two (w w':World)(R G:Nat):Prop where
 os:w'.os=w.os
 tape:w'.tape=w.tape
 output:w'.output=w.output
 size:w.heap.size<=w'.heap.size
 block:∀ k,k<w.heap.size->k≠R->k≠G->w'.heap[k]?=w.heap[k]?
theorem Two.iM {R G:Nat}(h:w.grownBy w' none):Two w w' R G:=⟨h.os,h.tape,h.output,h.size,fun k hk _ _=>h.block k hk (by simp)⟩
theorem Two.trans {a b c:World}(h:Two a b R G)(k:Two b c R G):Two a c R G :=
 ⟨k.os.trans h.os,k.tape.trans h.tape,k.output.trans h.output,Nat.le_trans h.size k.size,fun i hi h1 h2=>(k.block i (Nat.lt_of_lt_of_le hi h.size) h1 h2).trans (h.block i hi h1 h2)⟩
theorem Two.grown{w0:World}(h:Two w w' R G)(hg:w0.grownBy w none)(h1:w0.heap.size<=R)(h2:w0.heap.size<=G):w0.grownBy w' none :=
 ⟨h.os.trans hg.os,h.tape.trans hg.tape,h.output.trans hg.output,Nat.le_trans hg.size h.size,fun k hk _=>(h.block k (Nat.lt_of_lt_of_le hk hg.size) (by omega) (by omega)).trans (hg.block k hk (by simp))⟩
theorem mI (cs zs:List Int)(p:Nat):splice (cs.map (Value.int .u8)) p (zs.map (Value.int .u8))=(splice cs p zs).map (Value.int .u8):=by
 simp [splice]
theorem cM (R G p:Nat)(cs:List Int)(ao:Option Addr)(n c:Nat)(zs:List Int)(w:World)(hw:Wt w R G p)(hr:Rw w G cs)(hcs:cs.length=4092)(hb:ai w ao n c zs)(sI:R≠G)(hp:p+n<=4092) :
  Calls Tryz.prog 233 #[.pointer (some ⟨R,0,none⟩),.slice ao n c] w fun en w'=>en=.returned (.tuple #[])/\Wt w' R G (p+n)/\Rw w' G (splice cs p zs)/\Two w w' R G/\w'.heap.size=w.heap.size:=by
 obtain ⟨c0,c1,f1⟩:=hw.cells;have hl:=hb.len;obtain ⟨X,hX⟩:∃ X,X=zs.map (Value.int .u8):=⟨_,rfl⟩;obtain ⟨Z,hZ⟩:∃ Z,Z=cs.map (Value.int .u8):=⟨_,rfl⟩;have LD:X.length=n:=by rw [hX,List.length_map];exact hl
 have pR:Z.length=4092:=by rw [hZ,List.length_map];exact hcs
 have XR:∀ v∈X,v.oneCell'=true:=by rw [hX];exact ints_oneCell _ _
 have HZ:Hid (∀ W:World,W.heap=w.heap->W.heap[G]?=some (.cells Z.toArray 5 (0,0))):=fun W e=>by rw [e,hZ];exact hr
 have HS:Hid (∀ W:World,W.heap=w.heap->0<X.length->∃ ad,ao=some ad/\∀ j v,X[j]?=some v->W.cell? (ad.add j)=some v):=by
  intro W e h0;cases ao with
  | none=>have:=(hb.nil rfl).1;omega
  | some ad=>exact ⟨ad,rfl,by rw [hX];exact (hb.heap e).cells ad rfl⟩
 have HC:Hid (∀ W:World,W.heap=w.heap->W.cell? ⟨R,0,none⟩=some (.slice (some ⟨G,0,none⟩) 4092 4092)/\W.cell? ⟨R,1,none⟩=some (.int .i64 p)/\W.frozen? ⟨R,1,none⟩=false):=by
  intro W e;exact ⟨(World.cell?_of_block (by rw [e])).trans c0,(World.cell?_of_block (by rw [e])).trans c1,(World.frozen?_of_block (by rw [e])).trans f1⟩
 have HF:Hid (∀ w4 wq:World,wq.os=w.os->wq.tape=w.tape->wq.output=w.output->wq.heap=w.heap->Ro wq w4 G (splice Z p X)->∀ v:Int,v=((p+n:Nat):Int)->Wt (w4.setCell ⟨R,1,none⟩ (.int .i64 v)) R G (p+n)/\Rw (w4.setCell ⟨R,1,none⟩ (.int .i64 v)) G (splice cs p zs)/\Two w (w4.setCell ⟨R,1,none⟩ (.int .i64 v)) R G/\(w4.setCell ⟨R,1,none⟩ (.int .i64 v)).heap.size=w.heap.size):=by
  intro w4 wq e1 e2 e3 e4 hro v hv;have h4:Wt w4 R G p:=(hro.Ug R sI).trans (by rw [e4];exact hw);have hs:w4.heap.size=w.heap.size:=by rw [hro.size,e4]
  have hg:=ay w4 R 1 (.int .i64 v);refine ⟨h4.set (p+n) v hv,?_,⟨hro.os.trans e1,hro.tape.trans e2,hro.output.trans e3,?_,fun k hk h1 h2=>?_⟩,?_⟩
  ·have:Rw w4 G (splice cs p zs):=by
    unfold Rw;rw [<- mI,<- hX,<- hZ];exact hro.row
   exact this.kept hg (fun e=>sI (Option.some.inj e).symm)
  ·have:=hg.size;omega
  ·rw [hg.block k (by omega) (fun e=>h1 (Option.some.inj e)),hro.Ug k h2,e4]
  ·simp [hs]
 clear hw hr hX hZ hb;have g1:(p:Int)<=4092:=by omega
 have hwr:Hid (IntKind.i64.wrap ((p:Int)+(n:Int))=((p+n:Nat):Int)):=by show _=_;simp [IntKind.wrap,IntKind.bits,IntKind.signed];omega
 by_cases IB:p<4092
 ·have g2:¬ 4092=p:=by omega
  go_enter Tryz.func233,Tryz.ntmps233
  go_wp2_with fail
  go_region_law
   (refine nQ rfl (.tmp 16) (.tmp 17) (by rfl) _ _ _ _ _ _ (by rfl) (by rfl) G p Z (by exact HZ.out _ rfl) X (by rw [LD];exact (Nat.min_eq_left (by omega)).symm) (fun h=>⟨by rfl,by exact HS.out _ rfl h⟩) (by omega) XR n LD ?_;intro w4 hro;have cc0:=(hro.cell R 0 sI).trans (by exact (HC.out _ rfl).1);have cc1:=(hro.cell R 1 sI).trans (by exact (HC.out _ rfl).2.1);have ff1:=(World.frozen?_of_block (hro.Ug R sI)).trans (by exact (HC.out _ rfl).2.2))
  all_goals
   refine Go.Great.bodyPost_end0 rfl rfl ?_;exact ⟨rfl,HF.out w4 w.drew rfl rfl rfl rfl hro _ hwr.out⟩
 ·have hp3:4092=p:=by omega
  subst hp3;obtain rfl:n=0:=by omega
  go_enter Tryz.func233,Tryz.ntmps233
  go_wp2_with fail
  go_region_law
   (refine nQ rfl (.tmp 16) (.tmp 17) (by rfl) _ _ _ _ _ _ (by rfl) (by rfl) G 4092 Z (by exact HZ.out _ rfl) X (by rw [LD];rfl) (fun h=>absurd h (by omega)) (by omega) XR 0 LD ?_;intro w4 hro;have cc0:=(hro.cell R 0 sI).trans (by exact (HC.out _ rfl).1);have cc1:=(hro.cell R 1 sI).trans (by exact (HC.out _ rfl).2.1);have ff1:=(World.frozen?_of_block (hro.Ug R sI)).trans (by exact (HC.out _ rfl).2.2))
  all_goals
   refine Go.Great.bodyPost_end0 rfl rfl ?_;exact ⟨rfl,HF.out w4 w.drew rfl rfl rfl rfl hro _ (by first | rfl | exact hwr.out)⟩
theorem pS (h:w.grownBy w' none):Below w.heap.size w w':=⟨h.os,h.tape,h.output,h.size,fun k hk=>h.block k hk (by simp)⟩
theorem gJ (h:Below w.heap.size w w'):w.grownBy w' none:=⟨h.os,h.tape,h.output,h.size,fun k hk _=>h.block k hk⟩
theorem AZ {Z X C:List Value}(hZ:Z.length=4096)(hX:X.length=4092)(hC:C.length=4):splice (splice Z 0 X) 4092 C=X++C:=by
 unfold splice;rw [List.take_zero,List.nil_append,Nat.zero_add,List.take_left' hX,hC,List.drop_eq_nil_of_le (by rw [List.length_append,List.length_drop];omega),List.append_nil]
theorem MF (ao:Option Addr)(n cap:Nat)(w:World)(h:n≠4092) :
  Calls Tryz.prog 28 #[.slice ao n cap] w fun e w'=>e=.returned (.tuple #[.slice none 0 0,.int .i64 20])/\w'=w:=by
 go_enter Tryz.func28,Tryz.ntmps28;go_wp2
 go_ret2
 exact ⟨rfl,rfl⟩
theorem Qz (ao:Option Addr)(cap:Nat)(zs:List Int)(w:World)(hb:ai w ao 4092 cap zs)(bt:Bt zs)(ht:pA w) :
  Calls Tryz.prog 28 #[.slice ao 4092 cap] w fun e w' =>
   e=.returned (.tuple #[.slice (some ⟨w.heap.size,0,none⟩) 4096 4096,.int .i64 0])/\Rw w' w.heap.size (zs++fe (upd 0 zs))/\w.grownBy w' none:=by
 obtain ⟨i0,hi,hz0,hz1,hz2⟩:=info_parts bF;have HB:=hJ hb;have HT:=hJ ht
 have hao:∃ ad,ao=some ad:=by
  cases ao with
  | none=>have:=(hb.nil rfl).1;omega
  | some ad=>exact ⟨ad,rfl⟩
 obtain ⟨ad,rfl⟩:=hao;clear hb ht;go_enter Tryz.func28,Tryz.ntmps28
 go_wp2_with (at_make;refine wpList_make_full _ rfl _ _ 25 rfl w.heap.size 5 i0 (.int .u8 0) 1 Tryz.underlying25 hi hz0 hz1 _ _ _ _ 4096 rfl rfl rfl rfl ?b2 ?b3 (Nat.le_refl _) ?_)
 case b2=>rw [hz2];omega
 case b3=>unfold maxLen;omega
 intro w0 aR hg0;rw [made] at aR;have R0:=hJ (Rw.aP aR);have G0:=hJ hg0;clear aR hg0;obtain ⟨X,hX⟩:∃ X,X=zs.map (Value.int .u8):=⟨_,rfl⟩;obtain ⟨Z,hZ⟩:∃ Z,Z=(List.replicate 4096 (0:Int)).map (Value.int .u8):=⟨_,rfl⟩;have LD:X.length=4092:=by rw [hX,List.length_map];exact HB.out.len
 have pR:Z.length=4096:=by rw [hZ,List.length_map,List.length_replicate]
 have XR:∀ v∈X,v.oneCell'=true:=by rw [hX];exact ints_oneCell _ _
 have HX:=hJ hX;have HZ:=hJ hZ;have R0':Hid (w0.heap[w.heap.size]?=some (.cells Z.toArray 5 (0,0))):=by show _=_;rw [hZ];exact R0.out
 have hc0:Hid (∀ j v,X[j]?=some v->w0.cell? (ad.add j)=some v):=by show ∀ j v,_;rw [hX];exact (HB.out.ae G0.out).cells ad rfl
 clear hX hZ R0
 go_wp2_with (refine wpList_copy_splice rfl _ _ 25 25 rfl 5 Tryz.underlying25 (by rw [hi];exact congrArg some hz1) _ _ _ _ _ _ rfl rfl w.heap.size 0 Z 5 R0'.out X (by rw [LD];rfl) (fun _=>⟨rfl,ad,rfl,hc0.out⟩) (by omega) XR w.heap.size w (pS G0.out) (Nat.le_refl _) ?_)
 intro w1 fV qF;have G1:=hJ (gJ qF);clear qF hc0 R0' G0
 go_wp2_with fail
 refine (ji (some ad) 4092 cap zs w1 (HB.out.ae G1.out) bt (HT.out.ae G1.out) (by omega)).mono ?_;rintro e w2 ⟨rfl,hg2⟩;have hs2:w.heap.size<w2.heap.size:=Nat.lt_of_lt_of_le (Array.getElem?_eq_some_iff.1 fV.out).1 hg2.size;have Mh:Hid (w2.heap[w.heap.size]?=some (.cells (splice Z 0 X).toArray 5 (0,0))):=(hg2.block _ (Array.getElem?_eq_some_iff.1 fV.out).1 (by simp)).trans fV.out;have G2:=hJ (gQ G1.out hg2);clear hg2 G1 fV;have hl:=tj 0 zs;generalize hs:upd 0 zs=s at *;have HS:=hJ hs;clear hs;unfold tE;obtain ⟨P1,hP1⟩:∃ P1,P1=splice Z 0 X:=⟨_,rfl⟩;have HP1:=hJ hP1;rw [<- hP1] at Mh;have ajv:P1.length=4096:=by rw [hP1,length_splice _ _ _ (by omega)];exact pR
 clear hP1;obtain ⟨C,hC⟩:∃ C,C=(fe s).map (Value.int .u8):=⟨_,rfl⟩;have hCl:C.length=4:=by rw [hC];rfl
 have hC1:∀ v∈C,v.oneCell'=true:=by rw [hC];exact ints_oneCell _ _
 have HC:=hJ hC
 have HW:Hid (∀ W:World,W.heap=(w2.alloc (.cells #[Value.int IntKind.u8 ((s:Int) % 256),Value.int IntKind.u8 ((s:Int) / 256 % 256),Value.int IntKind.u8 ((s:Int) / 65536 % 256),Value.int IntKind.u8 ((s:Int) / 16777216 % 256)] 101 (0,0))).heap ->
   W.heap[w.heap.size]?=some (.cells P1.toArray 5 (0,0))/\∀ j v,C[j]?=some v->W.cell? ((⟨w2.heap.size,0,none⟩:Addr).add j)=some v):=by
  intro W hW;rw [hW];refine ⟨(heap_alloc_old w2 _ hs2).trans Mh.out,fun j v hv=>?_⟩;rw [Addr.add_lit,Nat.zero_add,cell_of_row W w2.heap.size j _ _ (0,0) (by rw [hW];exact heap_alloc_new w2 _)];rw [hC] at hv;simpa [fe] using hv
 have G3:=fun o=>hJ (gQ G2.out (World.grownBy_alloc w2 o none))
 clear hC Mh G2
 go_wp2_with fail
 go_region_law
  (refine step_copy_splice rfl (.tmp 16) (.tmp 17) 25 25 (by rfl) 5 Tryz.underlying25 (by rw [hi];exact congrArg some hz1) _ _ _ _ _ _ (by rfl) (by rfl) w.heap.size 4092 P1 5 (by exact (HW.out _ rfl).1) C (by rw [hCl];rfl) (fun _=>⟨rfl,_,rfl,by exact (HW.out _ rfl).2⟩) (by omega) hC1 w.heap.size w (by have h:=pS (G3 (.cells #[Value.int IntKind.u8 ((s:Int) % 256),Value.int IntKind.u8 ((s:Int) / 256 % 256),Value.int IntKind.u8 ((s:Int) / 65536 % 256),Value.int IntKind.u8 ((s:Int) / 16777216 % 256)] 101 (0,0))).out;exact ⟨h.os,h.tape,h.output,h.size,h.block⟩) (Nat.le_refl _) ?_;intro w4 HR4 hB4)
 all_goals
  go_wp2
  go_ret2
  rw [HS.out];refine ⟨rfl,?_,gJ hB4⟩;unfold Rw;rw [List.map_append,<- HX.out,<- HC.out,<- AZ pR LD hCl,<- HP1.out];exact HR4.out
theorem aJ {cs zs:List Int}{p:Nat}(h:p+zs.length<=cs.length):(splice cs p zs).length=cs.length:=length_splice cs p zs h
theorem Ec (cs:List Int)(p:Nat):splice cs p []=cs:=by simp [splice]
theorem dx {cs xs ys:List Int}{p:Nat}(h:p+xs.length+ys.length<=cs.length):splice (splice cs p xs) (p+xs.length) ys=splice cs p (xs++ys):=by
 unfold splice
 have e1:(cs.take p++(xs++cs.drop (p+xs.length))).take (p+xs.length)=cs.take p++xs:=by
  rw [<- List.append_assoc,List.take_left' (by simp;omega)]
 have e2:(cs.take p++(xs++cs.drop (p+xs.length))).drop (p+xs.length+ys.length)=cs.drop (p+xs.length+ys.length):=by
  rw [<- List.append_assoc,<- List.drop_drop,List.drop_left' (by simp;omega),List.drop_drop]
 rw [e1,e2];simp [Nat.add_assoc]
theorem Wt.kept {R G:Nat}(h:Wt w R G p)(hg:w.grownBy w' none):Wt w' R G p:=(hg.block R h.lt (by simp)).trans h
theorem Wt.two (h:Wt w R' G p)(hg:Two w w' R G)(h1:R'≠R)(h2:R'≠G):Wt w' R' G p:=(hg.block R' h.lt h1 h2).trans h
theorem ai.two {c:Nat}(h:ai w ao n c zs)(hg:Two w w' R G)(hne:∀ ad,ao=some ad->0<n->ad.block≠R/\ad.block≠G):ai w' ao n c zs:=by
 refine ⟨h.len,h.nil,fun ad had j u hu=>?_⟩;have hj:j<zs.length:=by have:=(List.getElem?_eq_some_iff.1 hu).1;simpa using this
 have hc:=h.cells ad had j u hu;have hb:(ad.add j).block=ad.block:=by unfold Addr.add;split <;> rfl
 have hn:=hne ad had (by have:=h.len;omega);have hlt:=World.block_lt_of_cell? w _ hc;rw [World.cell?_of_block (hg.block _ hlt (by rw [hb];exact hn.1) (by rw [hb];exact hn.2))];exact hc
theorem ai.lt {c:Nat}(h:ai w ao n c zs){ad:Addr}(e:ao=some ad)(hn:0<n):ad.block<w.heap.size:=by
 obtain ⟨b,off,e2,hb,_⟩:=h.at hn;rw [e] at e2;obtain rfl:=Option.some.inj e2;exact hb
theorem ai.drop {b off:Nat}{c:Nat}(h:ai w (some ⟨b,off,none⟩) n c zs)(k c':Nat)(hk:k<=n):ai w (some ⟨b,off+k,none⟩) (n - k) c' (zs.drop k):=by
 have hl:=h.len;refine ai.eZ (by rw [List.length_drop];omega) fun i hi=>?_
 obtain ⟨b',off',e,_,hc⟩:=h.at (by omega);simp only [Option.some.injEq,Addr.mk.injEq] at e;obtain ⟨rfl,rfl,_⟩:=e;rw [Nat.add_assoc,hc (k+i) (by omega)];simp [List.getD]
theorem ai.VL (w:World)(b off c:Nat):ai w (some ⟨b,off,none⟩) 0 c []:=ai.eZ rfl fun i hi=>by omega
theorem jm (x:Nat)(w:World)(hx:x<256) :
  Calls Tryz.prog 219 #[.slice none 0 0,.int .u8 x] w fun e w'=>e=.returned (.slice (some ⟨w.heap.size,0,none⟩) 1 1)/\ai w' (some ⟨w.heap.size,0,none⟩) 1 1 (lb 1 x)/\w.grownBy w' none/\w.heap.size<w'.heap.size:=by
 refine (Mg none 0 0 [] x w (ai.empty w) (by omega) hx).mono ?_;rintro e w' ⟨rfl,h1,h2,h3⟩;exact ⟨rfl,ai.aP h1,h2,h3⟩
theorem ir (x:Nat)(w:World)(hx:x<65536) :
  Calls Tryz.prog 234 #[.slice none 0 0,.int .u16 x] w fun e w'=>e=.returned (.slice (some ⟨w.heap.size,0,none⟩) 2 2)/\ai w' (some ⟨w.heap.size,0,none⟩) 2 2 (lb 2 x)/\w.grownBy w' none/\w.heap.size<w'.heap.size:=by
 refine (Gj none 0 0 [] x w (ai.empty w) (by omega) hx).mono ?_;rintro e w' ⟨rfl,h1,h2,h3⟩;exact ⟨rfl,ai.aP h1,h2,h3⟩
theorem fQ (x:Nat)(w:World)(hx:x<4294967296) :
  Calls Tryz.prog 215 #[.slice none 0 0,.int .u32 x] w fun e w'=>e=.returned (.slice (some ⟨w.heap.size,0,none⟩) 4 4)/\ai w' (some ⟨w.heap.size,0,none⟩) 4 4 (lb 4 x)/\w.grownBy w' none/\w.heap.size<w'.heap.size:=by
 refine (xR none 0 0 [] x w (ai.empty w) (by omega) hx).mono ?_;rintro e w' ⟨rfl,h1,h2,h3⟩;exact ⟨rfl,ai.aP h1,h2,h3⟩
theorem eK {cs A B C D:List Int}{q a b c:Nat}(ha:A.length=a)(hb:B.length=b)(hc:C.length=c)(h:q+a+b+c+D.length<=cs.length) :
  splice (splice (splice (splice cs q A) (q+a) B) (q+a+b) C) (q+a+b+c) D=splice cs q (A++(B++(C++D))):=by
 subst ha hb hc;have e1:=dx (cs:=cs) (xs:=A) (ys:=B) (p:=q) (by omega);have e2:=dx (cs:=cs) (xs:=A++B) (ys:=C) (p:=q) (by simp only [List.length_append];omega);have e3:=dx (cs:=cs) (xs:=A++B++C) (ys:=D) (p:=q) (by simp only [List.length_append];omega);simp only [List.length_append,<- Nat.add_assoc] at e2 e3;rw [e1,e2,e3];simp only [List.append_assoc]
theorem Ba (R G q:Nat)(cs:List Int)(b off n c:Nat)(bo:Option Addr)(m d:Nat)(s f:Int)(p:Nat)(x:It)(w:World)(hw:Wt w R G q)(hr:Rw w G cs)(hcs:cs.length=4092)(sI:R≠G)
  (hk:ai w (some ⟨b,off,none⟩) n c x.key) (hv:ai w bo m d x.val) (hs:x.size=s) (hf:x.first=f) (h1:ws x=false) (h2:wv x=false) (hp:p<=n) (hnc:n<=c) (hq:q+(cb p x).length<=4092)
  (hkb:b≠R/\b≠G) (dZ:∀ ad,bo=some ad->0<m->ad.block≠R/\ad.block≠G) :
  Calls Tryz.prog 236 #[.pointer (some ⟨R,0,none⟩),.agg #[.slice (some ⟨b,off,none⟩) n c,.slice bo m d,.int .i64 s,.int .i64 f],.int .i64 p] w fun en w'=>en=.returned (.tuple #[])/\Wt w' R G (q+(cb p x).length)/\Rw w' G (splice cs q (cb p x))/\Two w w' R G:=by
 obtain ⟨a1,a2,a3,a4⟩:=cQ h1;have hlk:=hk.len;have htg:=AJ h1 h2;have htt:=AH x.size;obtain ⟨t,ht⟩:∃ t,tg x.size=t:=⟨_,rfl⟩;obtain ⟨r,hr2⟩:∃ r,n - p=r:=⟨_,rfl⟩;obtain ⟨k,hk2⟩:∃ k,x.size=((k:Nat):Int):=⟨x.size.toNat,by omega⟩;obtain rfl:s=(k:Int):=by rw [<- hs,hk2]
 have VM:k<=262144:=by omega
 have HT:Hid ((if 512<k then 2*k+1 else 2*k)=t):=by
  show _=_
  rw [<- ht];unfold tg;rw [Mr a3 a4,hk2];rfl
 have PB:=hw.lt;have Ml:=hr.lt;have g1:(p:Int)<=(n:Int):=by omega
 have g2:(0:Int)<=(p:Int):=by omega
 have g3:(p:Int)<=(c:Int):=by omega
 obtain ⟨y,hy⟩:∃ y,(if 512<x.size then lb 4 x.first.toNat else x.val).length=y:=⟨_,rfl⟩;have Ed:Hid (cb p x=ah r++(x.key.drop p++(ah t++(if 512<x.size then lb 4 x.first.toNat else x.val)))):=by show _=_;unfold cb;rw [hlk,hr2,ht]
 have MG:(cb p x).length=(ah r).length+r+(ah t).length+y:=by
  rw [Ed.out];simp only [List.length_append,List.length_drop];omega
 have hq':q+(ah r).length+r+(ah t).length+y<=4092:=by omega
 have HD:Hid ((x.key.drop p).length=r):=by show _=_;rw [List.length_drop];omega
 have hvl:=nJ h2;obtain ⟨l1,jQ⟩:∃ l1,(ah r).length=l1:=⟨_,rfl⟩;obtain ⟨l2,hl2⟩:∃ l2,(ah t).length=l2:=⟨_,rfl⟩;have P1:=hJ (fun W:World=>jT r W (by omega));have P2:=hJ (fun W:World=>jT t W (by omega));rw [jQ] at hq' MG P1;rw [hl2] at hq' MG P2;have HA:=hJ jQ;have HC:=hJ hl2;clear jQ hl2;generalize ah r=A at *;generalize ah t=C at *;generalize hB:x.key.drop p=B at *;have HB:=hJ hB;have GA:=hJ MG;have G1:=hJ (World.grownBy_alloc w (.cells #[.slice (some ⟨b,off,none⟩) n c,.slice bo m d,.int .i64 (k:Int),.int .i64 f] 63) none);have HW:=hJ (hw.kept G1.out);have HR:=hJ (hr.ae G1.out);have HV:=hJ (hv.ae G1.out);have HK0:=hJ (hk.ae G1.out);have HYV:=hJ hy;have hlv:=hv.len;clear hw hr hk hv MG hq hy;have b1':Hid ((w.alloc (.cells #[.slice (some ⟨b,off,none⟩) n c,.slice bo m d,.int .i64 (k:Int),.int .i64 f] 63)).cell? ⟨w.heap.size,1,none⟩=some (.slice bo m d)):=by show _=_;rw [cell_of_row _ w.heap.size 1 _ _ (0,0) (heap_alloc_new w _)];rfl
 have b2':Hid ((w.alloc (.cells #[.slice (some ⟨b,off,none⟩) n c,.slice bo m d,.int .i64 (k:Int),.int .i64 f] 63)).cell? ⟨w.heap.size,2,none⟩=some (.int .i64 (k:Int))):=by show _=_;rw [cell_of_row _ w.heap.size 2 _ _ (0,0) (heap_alloc_new w _)];rfl
 have b3':Hid ((w.alloc (.cells #[.slice (some ⟨b,off,none⟩) n c,.slice bo m d,.int .i64 (k:Int),.int .i64 f] 63)).cell? ⟨w.heap.size,3,none⟩=some (.int .i64 f)):=by show _=_;rw [cell_of_row _ w.heap.size 3 _ _ (0,0) (heap_alloc_new w _)];rfl
 have WL:=hJ PB;have RL:=hJ Ml;clear PB Ml
 by_cases VN:c=p
 ·subst VN
  have HK:Hid (ai (w.alloc (.cells #[.slice (some ⟨b,off,none⟩) n c,.slice bo m d,.int .i64 (k:Int),.int .i64 f] 63)) (some ⟨b,off,none⟩) r 0 B):=by
   obtain rfl:r=0:=by omega
   have e:B=[]:=List.length_eq_zero_iff.1 HD.out;rw [e];exact ai.VL _ _ _ _
  go_enter Tryz.func236,Tryz.ntmps236
  go_wp2_with fail
  have Q1:=b1'.out;have Q2:=b2'.out;have Q3:=b3'.out;clear b1' b2' b3';generalize w.alloc (.cells #[.slice (some ⟨b,off,none⟩) n c,.slice bo m d,.int .i64 (k:Int),.int .i64 f] 63)=w1 at *;refine (P1.out _).mono ?_;rintro en w2 ⟨rfl,hb2,hg2,hs2⟩;have W2:=hJ (HW.out.kept hg2);have R2:=hJ (HR.out.ae hg2);have B2:=hJ hb2;have K2:=hJ (HK.out.ae hg2);have V2:=hJ (HV.out.ae hg2);have T2:=hJ (Two.iM (R:=R) (G:=G) (gQ G1.out hg2));have b1:=hg2.cell Q1 (by simp);have b2:=hg2.cell Q2 (by simp);have b3:=hg2.cell Q3 (by simp);have eT:Hid (w.heap.size≠R/\w.heap.size≠G):=⟨fun e=>by have:=WL.out;omega,fun e=>by have:=RL.out;omega⟩;clear hb2 hg2 hs2 HW HR HK HV Q1 Q2 Q3
  go_wp2_with fail
  refine (cM R G q cs _ _ _ A _ W2.out R2.out hcs B2.out sI (by omega)).mono ?_;rintro en w3 ⟨rfl,hw3,hr3,wX,hs3⟩;have W3:=hJ hw3;have R3:=hJ hr3;have K3:=hJ (K2.out.two wX (fun ad e _=>by obtain rfl:=Option.some.inj e;exact hkb));have V3:=hJ (V2.out.two wX dZ);have T3:=hJ (T2.out.trans wX);have d1:w3.cell? ⟨w.heap.size,1,none⟩=some (.slice bo m d):=(World.cell?_of_block (wX.block w.heap.size (World.block_lt_of_cell? _ _ b1) eT.out.1 eT.out.2)).trans b1;have d2:w3.cell? ⟨w.heap.size,2,none⟩=some (.int .i64 (k:Int)):=(World.cell?_of_block (wX.block w.heap.size (World.block_lt_of_cell? _ _ b1) eT.out.1 eT.out.2)).trans b2;have d3:w3.cell? ⟨w.heap.size,3,none⟩=some (.int .i64 f):=(World.cell?_of_block (wX.block w.heap.size (World.block_lt_of_cell? _ _ b1) eT.out.1 eT.out.2)).trans b3;clear hw3 hr3 wX hs3 W2 R2 B2 K2 V2 T2 b1 b2 b3;have L1:Hid ((splice cs q A).length=4092):=by show _=_;rw [aJ (by rw [HA.out,hcs];omega)];exact hcs
  go_wp2_with fail
  refine (cM R G _ _ _ _ _ _ _ W3.out R3.out L1.out K3.out sI (by omega)).mono ?_;rintro en w4 ⟨rfl,hw4,hr4,IP,tP⟩;have W4:=hJ hw4;have R4:=hJ hr4;have V4:=hJ (V3.out.two IP dZ);have T4:=hJ (T3.out.trans IP);have e1:w4.cell? ⟨w.heap.size,1,none⟩=some (.slice bo m d):=(World.cell?_of_block (IP.block w.heap.size (World.block_lt_of_cell? _ _ d1) eT.out.1 eT.out.2)).trans d1;have e2:w4.cell? ⟨w.heap.size,2,none⟩=some (.int .i64 (k:Int)):=(World.cell?_of_block (IP.block w.heap.size (World.block_lt_of_cell? _ _ d1) eT.out.1 eT.out.2)).trans d2;have e3:w4.cell? ⟨w.heap.size,3,none⟩=some (.int .i64 f):=(World.cell?_of_block (IP.block w.heap.size (World.block_lt_of_cell? _ _ d1) eT.out.1 eT.out.2)).trans d3;clear hw4 hr4 IP tP W3 R3 K3 V3 T3 d1 d2 d3;have L2:Hid ((splice (splice cs q A) (q+l1) B).length=4092):=by show _=_;rw [aJ (by rw [L1.out,HD.out];omega)];exact L1.out
  go_wp2_with fail
  refine (pP k _ VM).mono ?_;rintro en w5 ⟨rfl,rfl⟩;rw [HT.out]
  go_wp2_with fail
  refine (P2.out _).mono ?_;rintro en w5 ⟨rfl,kr,aK,hs5⟩;have W5:=hJ (W4.out.kept aK);have R5:=hJ (R4.out.ae aK);have B5:=hJ kr;have V5:=hJ (V4.out.ae aK);have T5:=hJ (T4.out.trans (Two.iM aK));have b1:=aK.cell e1 (by simp);have b2:=aK.cell e2 (by simp);have b3:=aK.cell e3 (by simp);clear kr aK hs5 W4 R4 V4 T4 e1 e2 e3
  go_wp2_with fail
  refine (cM R G _ _ _ _ _ _ _ W5.out R5.out L2.out B5.out sI (by omega)).mono ?_;rintro en w6 ⟨rfl,PC,ku,vG,zZ⟩;have W6:=hJ PC;have R6:=hJ ku;have V6:=hJ (V5.out.two vG dZ);have T6:=hJ (T5.out.trans vG);have e1:w6.cell? ⟨w.heap.size,1,none⟩=some (.slice bo m d):=(World.cell?_of_block (vG.block w.heap.size (World.block_lt_of_cell? _ _ b1) eT.out.1 eT.out.2)).trans b1;have e2:w6.cell? ⟨w.heap.size,2,none⟩=some (.int .i64 (k:Int)):=(World.cell?_of_block (vG.block w.heap.size (World.block_lt_of_cell? _ _ b1) eT.out.1 eT.out.2)).trans b2;have e3:w6.cell? ⟨w.heap.size,3,none⟩=some (.int .i64 f):=(World.cell?_of_block (vG.block w.heap.size (World.block_lt_of_cell? _ _ b1) eT.out.1 eT.out.2)).trans b3;clear PC ku vG zZ W5 R5 B5 V5 T5 b1 b2 b3;have L3:Hid ((splice (splice (splice cs q A) (q+l1) B) (q+l1+r) C).length=4092):=by show _=_;rw [aJ (by rw [L2.out,HC.out];omega)];exact L2.out
  go_wp2_with fail
  refine (eJ _ _).mono ?_;rintro en w7 ⟨rfl,rfl⟩
  by_cases h5:512<k
  ·have hd:decide ((512:Int)<(k:Int))=true:=decide_eq_true (by omega)
   rw [hd];have QA:y=4:=by have:=HYV.out;rw [if_pos (by omega),aL] at this;omega
   obtain ⟨fn,hfn⟩:∃ fn:Nat,f=(fn:Int):=⟨f.toNat,by omega⟩;subst hfn;have HF2:Hid (x.first.toNat=fn):=by show _=_;rw [hf];rfl
   go_wp2_with fail
   refine (fQ fn _ (by omega)).mono ?_;rintro en w8 ⟨rfl,ig,bU,Uh⟩;have W8:=hJ (W6.out.kept bU);have R8:=hJ (R6.out.ae bU);have B8:=hJ ig;have T8:=hJ (T6.out.trans (Two.iM bU));clear ig bU Uh W6 R6 V6 T6
   go_wp2_with fail
   refine (cM R G _ _ _ _ _ _ _ W8.out R8.out L3.out B8.out sI (by omega)).mono ?_;rintro en w9 ⟨rfl,Aa,nR,Bb,xZ⟩;have W9:=hJ Aa;have R9:=hJ nR;have T9:=hJ (T8.out.trans Bb);clear Aa nR Bb xZ W8 R8 B8 T8;go_wp2;refine bodyPost_ret (results_none rfl _ _ _) rfl ?_;refine ⟨rfl,?_,?_,T9.out⟩
   ·rw [GA.out,QA];exact (by have:=W9.out;simpa [Nat.add_assoc] using this)
   ·rw [Ed.out,if_pos (by omega),HF2.out,<- eK HA.out HD.out HC.out (by rw [aL,hcs];omega)]
    exact R9.out
  ·have hd:decide ((512:Int)<(k:Int))=false:=decide_eq_false (by omega)
   rw [hd];obtain rfl:y=m:=by have:=HYV.out;rw [if_neg (by omega)] at this;omega
   go_wp2_with fail
   refine (cM R G _ _ _ _ _ _ _ W6.out R6.out L3.out V6.out sI (by omega)).mono ?_;rintro en w9 ⟨rfl,Aa,nR,Bb,xZ⟩;have W9:=hJ Aa;have R9:=hJ nR;have T9:=hJ (T6.out.trans Bb);clear Aa nR Bb xZ W6 R6 V6 T6;go_wp2;refine Go.Great.bodyPost_end0 rfl rfl ?_;refine ⟨rfl,?_,?_,T9.out⟩
   ·rw [GA.out];exact (by have:=W9.out;simpa [Nat.add_assoc] using this)
   ·rw [Ed.out,if_neg (by omega),<- eK HA.out HD.out HC.out (by rw [hcs];omega)]
    exact R9.out
 ·have HK:Hid (ai (w.alloc (.cells #[.slice (some ⟨b,off,none⟩) n c,.slice bo m d,.int .i64 (k:Int),.int .i64 f] 63)) (some ⟨b,off+p,none⟩) r (c - p) B):=by
   have:=HK0.out.drop p (c - p) hp
   rwa [hr2,HB.out] at this
  go_enter Tryz.func236,Tryz.ntmps236
  go_wp2_with fail
  have Q1:=b1'.out;have Q2:=b2'.out;have Q3:=b3'.out;clear b1' b2' b3';generalize w.alloc (.cells #[.slice (some ⟨b,off,none⟩) n c,.slice bo m d,.int .i64 (k:Int),.int .i64 f] 63)=w1 at *;refine (P1.out _).mono ?_;rintro en w2 ⟨rfl,hb2,hg2,hs2⟩;have W2:=hJ (HW.out.kept hg2);have R2:=hJ (HR.out.ae hg2);have B2:=hJ hb2;have K2:=hJ (HK.out.ae hg2);have V2:=hJ (HV.out.ae hg2);have T2:=hJ (Two.iM (R:=R) (G:=G) (gQ G1.out hg2));have b1:=hg2.cell Q1 (by simp);have b2:=hg2.cell Q2 (by simp);have b3:=hg2.cell Q3 (by simp);have eT:Hid (w.heap.size≠R/\w.heap.size≠G):=⟨fun e=>by have:=WL.out;omega,fun e=>by have:=RL.out;omega⟩;clear hb2 hg2 hs2 HW HR HK HV Q1 Q2 Q3
  go_wp2_with fail
  refine (cM R G q cs _ _ _ A _ W2.out R2.out hcs B2.out sI (by omega)).mono ?_;rintro en w3 ⟨rfl,hw3,hr3,wX,hs3⟩;have W3:=hJ hw3;have R3:=hJ hr3;have K3:=hJ (K2.out.two wX (fun ad e _=>by obtain rfl:=Option.some.inj e;exact hkb));have V3:=hJ (V2.out.two wX dZ);have T3:=hJ (T2.out.trans wX);have d1:w3.cell? ⟨w.heap.size,1,none⟩=some (.slice bo m d):=(World.cell?_of_block (wX.block w.heap.size (World.block_lt_of_cell? _ _ b1) eT.out.1 eT.out.2)).trans b1;have d2:w3.cell? ⟨w.heap.size,2,none⟩=some (.int .i64 (k:Int)):=(World.cell?_of_block (wX.block w.heap.size (World.block_lt_of_cell? _ _ b1) eT.out.1 eT.out.2)).trans b2;have d3:w3.cell? ⟨w.heap.size,3,none⟩=some (.int .i64 f):=(World.cell?_of_block (wX.block w.heap.size (World.block_lt_of_cell? _ _ b1) eT.out.1 eT.out.2)).trans b3;clear hw3 hr3 wX hs3 W2 R2 B2 K2 V2 T2 b1 b2 b3;have L1:Hid ((splice cs q A).length=4092):=by show _=_;rw [aJ (by rw [HA.out,hcs];omega)];exact hcs
  go_wp2_with fail
  refine (cM R G _ _ _ _ _ _ _ W3.out R3.out L1.out K3.out sI (by omega)).mono ?_;rintro en w4 ⟨rfl,hw4,hr4,IP,tP⟩;have W4:=hJ hw4;have R4:=hJ hr4;have V4:=hJ (V3.out.two IP dZ);have T4:=hJ (T3.out.trans IP);have e1:w4.cell? ⟨w.heap.size,1,none⟩=some (.slice bo m d):=(World.cell?_of_block (IP.block w.heap.size (World.block_lt_of_cell? _ _ d1) eT.out.1 eT.out.2)).trans d1;have e2:w4.cell? ⟨w.heap.size,2,none⟩=some (.int .i64 (k:Int)):=(World.cell?_of_block (IP.block w.heap.size (World.block_lt_of_cell? _ _ d1) eT.out.1 eT.out.2)).trans d2;have e3:w4.cell? ⟨w.heap.size,3,none⟩=some (.int .i64 f):=(World.cell?_of_block (IP.block w.heap.size (World.block_lt_of_cell? _ _ d1) eT.out.1 eT.out.2)).trans d3;clear hw4 hr4 IP tP W3 R3 K3 V3 T3 d1 d2 d3;have L2:Hid ((splice (splice cs q A) (q+l1) B).length=4092):=by show _=_;rw [aJ (by rw [L1.out,HD.out];omega)];exact L1.out
  go_wp2_with fail
  refine (pP k _ VM).mono ?_;rintro en w5 ⟨rfl,rfl⟩;rw [HT.out]
  go_wp2_with fail
  refine (P2.out _).mono ?_;rintro en w5 ⟨rfl,kr,aK,hs5⟩;have W5:=hJ (W4.out.kept aK);have R5:=hJ (R4.out.ae aK);have B5:=hJ kr;have V5:=hJ (V4.out.ae aK);have T5:=hJ (T4.out.trans (Two.iM aK));have b1:=aK.cell e1 (by simp);have b2:=aK.cell e2 (by simp);have b3:=aK.cell e3 (by simp);clear kr aK hs5 W4 R4 V4 T4 e1 e2 e3
  go_wp2_with fail
  refine (cM R G _ _ _ _ _ _ _ W5.out R5.out L2.out B5.out sI (by omega)).mono ?_;rintro en w6 ⟨rfl,PC,ku,vG,zZ⟩;have W6:=hJ PC;have R6:=hJ ku;have V6:=hJ (V5.out.two vG dZ);have T6:=hJ (T5.out.trans vG);have e1:w6.cell? ⟨w.heap.size,1,none⟩=some (.slice bo m d):=(World.cell?_of_block (vG.block w.heap.size (World.block_lt_of_cell? _ _ b1) eT.out.1 eT.out.2)).trans b1;have e2:w6.cell? ⟨w.heap.size,2,none⟩=some (.int .i64 (k:Int)):=(World.cell?_of_block (vG.block w.heap.size (World.block_lt_of_cell? _ _ b1) eT.out.1 eT.out.2)).trans b2;have e3:w6.cell? ⟨w.heap.size,3,none⟩=some (.int .i64 f):=(World.cell?_of_block (vG.block w.heap.size (World.block_lt_of_cell? _ _ b1) eT.out.1 eT.out.2)).trans b3;clear PC ku vG zZ W5 R5 B5 V5 T5 b1 b2 b3;have L3:Hid ((splice (splice (splice cs q A) (q+l1) B) (q+l1+r) C).length=4092):=by show _=_;rw [aJ (by rw [L2.out,HC.out];omega)];exact L2.out
  go_wp2_with fail
  refine (eJ _ _).mono ?_;rintro en w7 ⟨rfl,rfl⟩
  by_cases h5:512<k
  ·have hd:decide ((512:Int)<(k:Int))=true:=decide_eq_true (by omega)
   rw [hd];have QA:y=4:=by have:=HYV.out;rw [if_pos (by omega),aL] at this;omega
   obtain ⟨fn,hfn⟩:∃ fn:Nat,f=(fn:Int):=⟨f.toNat,by omega⟩;subst hfn;have HF2:Hid (x.first.toNat=fn):=by show _=_;rw [hf];rfl
   go_wp2_with fail
   refine (fQ fn _ (by omega)).mono ?_;rintro en w8 ⟨rfl,ig,bU,Uh⟩;have W8:=hJ (W6.out.kept bU);have R8:=hJ (R6.out.ae bU);have B8:=hJ ig;have T8:=hJ (T6.out.trans (Two.iM bU));clear ig bU Uh W6 R6 V6 T6
   go_wp2_with fail
   refine (cM R G _ _ _ _ _ _ _ W8.out R8.out L3.out B8.out sI (by omega)).mono ?_;rintro en w9 ⟨rfl,Aa,nR,Bb,xZ⟩;have W9:=hJ Aa;have R9:=hJ nR;have T9:=hJ (T8.out.trans Bb);clear Aa nR Bb xZ W8 R8 B8 T8;go_wp2;refine bodyPost_ret (results_none rfl _ _ _) rfl ?_;refine ⟨rfl,?_,?_,T9.out⟩
   ·rw [GA.out,QA];exact (by have:=W9.out;simpa [Nat.add_assoc] using this)
   ·rw [Ed.out,if_pos (by omega),HF2.out,<- eK HA.out HD.out HC.out (by rw [aL,hcs];omega)]
    exact R9.out
  ·have hd:decide ((512:Int)<(k:Int))=false:=decide_eq_false (by omega)
   rw [hd];obtain rfl:y=m:=by have:=HYV.out;rw [if_neg (by omega)] at this;omega
   go_wp2_with fail
   refine (cM R G _ _ _ _ _ _ _ W6.out R6.out L3.out V6.out sI (by omega)).mono ?_;rintro en w9 ⟨rfl,Aa,nR,Bb,xZ⟩;have W9:=hJ Aa;have R9:=hJ nR;have T9:=hJ (T6.out.trans Bb);clear Aa nR Bb xZ W6 R6 V6 T6;go_wp2;refine Go.Great.bodyPost_end0 rfl rfl ?_;refine ⟨rfl,?_,?_,T9.out⟩
   ·rw [GA.out];exact (by have:=W9.out;simpa [Nat.add_assoc] using this)
   ·rw [Ed.out,if_neg (by omega),<- eK HA.out HD.out HC.out (by rw [hcs];omega)]
    exact R9.out
structure Ls (w:World)(H S C G p0 c0 cl i:Nat)(B:List Int):Prop where
 h:Wt w H G p0
 s:Wt w S G (p0+2*i)
 c:Wt w C G (c0+cl)
 b:Rw w G B
theorem Ee (a:Option Addr)(n cap:Nat)(L:List It)(w:World)(hl:Il w a L)(hn:L.length=n)(hw:wrong L=0)(hs:size L<=4092) :
  Calls Tryz.prog 198 #[.slice a n cap] w fun en w'=>∃ G,en=.returned (.slice (some ⟨G,0,none⟩) 4092 4092)/\Rw w' G (body L)/\w.grownBy w' none/\w.heap.size<=G:=by
 obtain ⟨i0,hi,hz0,hz1,hz2⟩:=info_parts bF;obtain ⟨tM,MH⟩:=nM hw hs;obtain ⟨Zu,LF,VO,VQ⟩:=bW hw;have IQ:=hJ (Eb hw hs);have IR:L≠[]:=fun e=>Zu (by rw [e];rfl)
 have yc:=nK IR;have hc0:=Eb hw hs 0;have HL:=hJ hl;have hm:n<=2046:=by omega
 have QB:0<n:=by omega
 obtain ⟨b,off,ao,n0,c0,bo,m0,d0,rfl,q2,q3,q4,q5,q6,q7,q8,q9,zY,DY⟩:=hl.row 0 (by omega)
 have hpl:pre L<=n0:=by
  have:=(dw _ (cR (L:=L) (i:=0) (by omega))).1;have e:=q6.len;omega
 have ye:Hid (aZ L=lb 1 1++(lb 2 n++(ah (pre L)++(L.getD 0 aG).key.take (pre L)))):=by
  show _=_
  unfold aZ;rw [hn];cases L with
  | nil=>exact absurd rfl IR
  | cons x L=>rfl
 rw [Nat.zero_mul,Nat.add_zero] at q2;have Dg:=hJ q2;have XS:=hJ q6;have wY:=hJ LF;have HWV:=hJ VO;clear hl q2 q3 q4 q5 q6 q9 LF VO VQ Zu IR;go_enter Tryz.func198,Tryz.ntmps198
 go_wp2_with fail
 refine (qE _ n cap L _ HL.out hn (by omega)).mono ?_;rintro en w1 ⟨rfl,hg1⟩;have G1:=hJ hg1;clear hg1;have P1:=hJ (fun W:World=>jT (pre L) W (by omega));have hvl:vl (pre L)=(ah (pre L)).length:=rfl;have pB:Hid (∀ i,i<L.length->(aZ L).length=3+vl (pre L)+pre L):=fun _ _=>yc
 obtain ⟨l1,jQ⟩:∃ l1,(ah (pre L)).length=l1:=⟨_,rfl⟩;rw [jQ] at P1 hvl;rw [hvl] at yc;have IU:cst L=(aZ L).length+2*n:=by unfold cst;rw [hn]
 have IV:=hJ IU;have MI:=hJ yc;have MJ:=hJ jQ;have hb1:3+l1+pre L+2*n<=4092:=by rw [IU,yc] at hc0;omega
 clear hc0 hvl pB jQ IU yc;generalize MK:pre L=p at *;have GC:=hJ MK;clear MK
 go_wp2_with (at_make;refine wpList_make_full _ rfl _ _ 25 rfl w1.heap.size 5 i0 (.int .u8 0) 1 Tryz.underlying25 hi hz0 hz1 _ _ _ _ 4092 rfl rfl rfl rfl ?b2 ?b3 (Nat.le_refl _) ?_)
 case b2=>rw [hz2];omega
 case b3=>unfold maxLen;omega
 intro w2 hown2 hg2;rw [made] at hown2;have R2:=hJ (Rw.aP hown2);have hG0:w.heap.size<=w1.heap.size:=G1.out.size;have qG:=hJ hG0;have G2:=hJ (gQ G1.out hg2);clear hown2 hg2 hG0 G1;generalize w1.heap.size=G at *;have G3:=hJ (gQ G2.out (World.grownBy_alloc w2 (.cells #[.slice (some ⟨G,0,none⟩) 4092 4092,.int .i64 0] 231) none));have R3:=hJ (R2.out.ae (World.grownBy_alloc w2 (.cells #[.slice (some ⟨G,0,none⟩) 4092 4092,.int .i64 0] 231) none))
 have W3:Hid (Wt (w2.alloc (.cells #[.slice (some ⟨G,0,none⟩) 4092 4092,.int .i64 0] 231)) w2.heap.size G 0):=by
  show _=_
  exact heap_alloc_new w2 _
 have LG:Hid (w2.heap.size≠G):=fun e=>by have:=R2.out.lt;omega
 have ML:Hid (w.heap.size<=w2.heap.size):=by have:=R2.out.lt;have:=qG.out;show _<=_;omega
 go_wp2_with fail
 generalize w2.alloc (.cells #[.slice (some ⟨G,0,none⟩) 4092 4092,.int .i64 0] 231)=w3 at *;clear R2 G2;generalize w2.heap.size=H at *;refine (jm 1 _ (by omega)).mono ?_;rintro en w4 ⟨rfl,hb4,hg4,tP⟩;have B4:=hJ hb4;have W4:=hJ (W3.out.kept hg4);have R4:=hJ (R3.out.ae hg4);have G4:=hJ (gQ G3.out hg4);clear hb4 hg4 tP W3 R3 G3
 go_wp2_with fail
 refine (cM H G 0 _ _ _ _ (lb 1 1) _ W4.out R4.out (by rw [List.length_replicate]) B4.out LG.out (by omega)).mono ?_;rintro en w5 ⟨rfl,Bd,kz,Zv,hs5⟩;have W5:=hJ Bd;have R5:=hJ kz;have G5:=hJ (Zv.grown G4.out ML.out qG.out);clear Bd kz Zv hs5 W4 R4 G4 B4;have L1:Hid ((splice (List.replicate 4092 0) 0 (lb 1 1)).length=4092):=by show _=_;rw [aJ (by rw [aL,List.length_replicate];omega),List.length_replicate]
 go_wp2_with fail
 refine (ir n _ (by omega)).mono ?_;rintro en w6 ⟨rfl,jF,bE,zZ⟩;have B6:=hJ jF;have W6:=hJ (W5.out.kept bE);have R6:=hJ (R5.out.ae bE);have G6:=hJ (gQ G5.out bE);clear jF bE zZ W5 R5 G5
 go_wp2_with fail
 refine (cM H G _ _ _ _ _ (lb 2 n) _ W6.out R6.out L1.out B6.out LG.out (by omega)).mono ?_;rintro en w7 ⟨rfl,LH,nj,PF,Ab⟩;have W7:=hJ LH;have R7:=hJ nj;have G7:=hJ (PF.grown G6.out ML.out qG.out);clear LH nj PF Ab W6 R6 G6 B6;have L2:Hid ((splice (splice (List.replicate 4092 0) 0 (lb 1 1)) (0+1) (lb 2 n)).length=4092):=by show _=_;rw [aJ (by rw [L1.out,aL];omega)];exact L1.out
 go_wp2_with fail
 refine (P1.out _).mono ?_;rintro en w8 ⟨rfl,ig,bU,Uh⟩;have B8:=hJ ig;have W8:=hJ (W7.out.kept bU);have R8:=hJ (R7.out.ae bU);have G8:=hJ (gQ G7.out bU);clear ig bU Uh W7 R7 G7
 go_wp2_with fail
 refine (cM H G _ _ _ _ _ (ah p) _ W8.out R8.out L2.out B8.out LG.out (by omega)).mono ?_;rintro en w9 ⟨rfl,Aa,nR,Bb,xZ⟩;have W9:=hJ Aa;have R9:=hJ nR;have G9:=hJ (Bb.grown G8.out ML.out qG.out);clear Aa nR Bb xZ W8 R8 G8 B8;have L3:Hid ((splice (splice (splice (List.replicate 4092 0) 0 (lb 1 1)) (0+1) (lb 2 n)) (0+1+2) (ah p)).length=4092):=by show _=_;rw [aJ (by rw [L2.out,MJ.out];omega)];exact L2.out
 have e0:w9.cell? ⟨b,off,none⟩=some (.slice ao n0 c0):=G9.out.cell Dg.out (by simp);have B9:=hJ ((XS.out.ae G9.out).take p c0 hpl (fun e=>by have:=((XS.out).nil e).2;omega));have g1:(0:Int)<=(p:Int):=by omega
 have g2:(p:Int)<=(c0:Int):=by omega
 have g3:(0:Int)<(n:Int):=by omega
 go_wp2_with fail
 refine (cM H G _ _ _ _ _ _ _ W9.out R9.out L3.out B9.out LG.out (by omega)).mono ?_;rintro en fI ⟨rfl,Zw,tQ,Zx,Ef⟩;have Zy:0+1+2+l1+p=(aZ L).length:=by have:=MI.out;omega
 have VR:Hid (Wt fI H G (aZ L).length):=by rw [<- Zy];exact Zw
 have IW:Hid (Rw fI G (laid L 0)):=by
  have e:=eK (cs:=List.replicate 4092 0) (A:=lb 1 1) (B:=lb 2 n) (C:=ah p) (D:=(L.getD 0 aG).key.take p) (q:=0) (a:=1) (b:=2) (c:=l1) (aL _ _) (aL _ _) MJ.out (by rw [List.length_replicate,List.length_take];omega);have e2:=IL L (by have:=IQ.out 0;omega);rw [ye.out,<- e] at e2
  show Rw _ _ _
  rw [<- e2];exact tQ
 have wZ:=hJ (Zx.grown G9.out ML.out qG.out);have HHt:=hJ VR.out.lt;have HGt:=hJ IW.out.lt;have hb2:(aZ L).length+2*n<=4092:=by rw [MI.out];omega
 have HHC:=hJ MI.out;clear Zw tQ Zx Ef W9 R9 G9 B9 Zy L1 L2 L3 ye P1 Dg XS;obtain ⟨k0,k1,_⟩:=VR.out.cells;generalize Ui:(aZ L).length=h0 at *;have XT:=hJ Ui;clear Ui
 have HS:Hid (∀ v:Int,v=((h0+2*n:Nat):Int)->Ls ((fI.alloc (.cells #[.slice (some ⟨G,0,none⟩) 4092 4092,.int .i64 (h0:Int)] 231)).alloc (.cells #[.slice (some ⟨G,0,none⟩) 4092 4092,.int .i64 v] 231)) H fI.heap.size (fI.heap.size+1) G h0 (h0+2*n) 0 0 (laid L 0)/\w.grownBy ((fI.alloc (.cells #[.slice (some ⟨G,0,none⟩) 4092 4092,.int .i64 (h0:Int)] 231)).alloc (.cells #[.slice (some ⟨G,0,none⟩) 4092 4092,.int .i64 v] 231)) none):=by
  intro v hv;subst hv;have ga:=World.grownBy_alloc fI (.cells #[.slice (some ⟨G,0,none⟩) 4092 4092,.int .i64 (h0:Int)] 231) none;have wa:Wt (fI.alloc (.cells #[.slice (some ⟨G,0,none⟩) 4092 4092,.int .i64 (h0:Int)] 231)) fI.heap.size G h0:=heap_alloc_new fI _;have hsa:(fI.alloc (.cells #[.slice (some ⟨G,0,none⟩) 4092 4092,.int .i64 (h0:Int)] 231)).heap.size=fI.heap.size+1:=by simp
  have Wa:=VR.out.kept ga;have Ra:=IW.out.ae ga;have Ga:=gQ wZ.out ga;generalize fI.alloc (.cells #[.slice (some ⟨G,0,none⟩) 4092 4092,.int .i64 (h0:Int)] 231)=VS at *;have gb:=World.grownBy_alloc VS (.cells #[.slice (some ⟨G,0,none⟩) 4092 4092,.int .i64 ((h0+2*n:Nat):Int)] 231) none;have wb:Wt (VS.alloc (.cells #[.slice (some ⟨G,0,none⟩) 4092 4092,.int .i64 ((h0+2*n:Nat):Int)] 231)) (fI.heap.size+1) G (h0+2*n):=by rw [<- hsa];exact heap_alloc_new VS _
  exact ⟨⟨Wa.kept gb,wa.kept gb,wb,Ra.ae gb⟩,gQ Ga gb⟩
 have g5:(0:Int)<=(h0:Int):=by omega
 go_wp2;have HSl:=hJ (wZ.out.size);clear k0 k1;go_loopw [8,42] (fun _ si wr=>∃ i:Nat,i<=n/\si=.int .i64 i/\Ls wr H fI.heap.size (fI.heap.size+1) G h0 (h0+2*n) (cells p (L.take i)).length i (laid L i)/\w.grownBy wr none) (fun _ si _=>n - (intOf si).toNat)
 case atStart =>
  obtain ⟨x1,x2⟩:=HS.out _ (by go_num);exact ⟨0,Nat.zero_le _,rfl,x1,x2⟩
 case round =>
  obtain ⟨i,hi',rfl,hls,hg⟩:=hrel;have yf:=hJ hls;have HG:=hJ hg;have ajz:=HHt.out;have ajA:=HGt.out;have ajB:=HSl.out;clear hls hg HS VR IW wZ HHt HGt HSl
  by_cases hlt:i<n
  ·obtain ⟨b',off',eX,m,c',sH,m2,d2,e1,r2,r3,r4,r5,r6,r7,r8,r9,Zs,Zt⟩:=HL.out.row i (by omega)
   simp only [Option.some.injEq,Addr.mk.injEq] at e1;obtain ⟨rfl,rfl,_⟩:=e1;have hx:=cR (L:=L) (i:=i) (by omega);have x1:=wY.out _ hx;have x2:=HWV.out _ hx;have x3:=(cQ x1).1;have x4:=r6.len;obtain ⟨kb,ko,rfl,hkb,_⟩:=r6.at (by omega);have hbv:∀ ad,sH=some ad->0<m2->ad.block<w.heap.size:=fun ad e h=>r9.lt e h
   have Zz:p<=m:=by
    have:=(dw _ hx).1;rw [GC.out] at this;omega
   have u0:=HG.out.cell r2 (by simp);have u1:=HG.out.cell r3 (by simp);have u2:=HG.out.cell r4 (by simp);have u3:=HG.out.cell r5 (by simp);have xa:=IQ.out (i+1);have lT:=fH p L i (by omega);have hst:=IM L i (by omega) (by rw [GC.out];rw [lT,List.length_append] at xa;omega);rw [XT.out,IV.out,GC.out] at hst;rw [lT,List.length_append,IV.out,<- Nat.add_assoc] at xa;have Eg:Hid ((cells p (L.take (i+1))).length=(cells p (L.take i)).length+(cb p (L.getD i aG)).length):=by show _=_;rw [lT,List.length_append]
   have ZA:=ME L i (by omega) (IQ.out i |> fun h=>by rw [GC.out];exact h);have ZC:=hJ r6;have HVl:=hJ r9;have HLC:=yf.out.c;have adW:=hJ HLC;obtain ⟨A,hA⟩:∃ A,h0+2*n+(cells p (L.take i)).length=A:=⟨_,rfl⟩;rw [hA] at HLC hst xa;have QC:=hJ hA;have HST:=hJ hst;have Be:=hJ ZA;have QD:=hJ HLC;have hA9:A<=4092:=by omega
   clear r2 r3 r4 r5 r6 r9 lT hst ZA HLC hA adW hx;generalize hxx:L.getD i aG=x at *;generalize hBi:laid L i=Bi at *;have HBi:=hJ hBi;clear hBi;have HSz:Hid (x.size=x.size):=rfl;obtain ⟨sz,hsz⟩:∃ sz,x.size=sz:=⟨_,rfl⟩;obtain ⟨fs,IX⟩:∃ fs,x.first=fs:=⟨_,rfl⟩
   rw [hsz] at u2;rw [IX] at u3;have VT:=hJ hsz;have ZE:=hJ IX;have jK:=hJ x1;have ZF:=hJ x2;have HX4:=hJ x4;have PG:=hJ hxx;clear hsz IX x1 x2 x3 x4 hxx HSz;have ga:=World.grownBy_alloc wr (.cells #[.slice (some ⟨kb,ko,none⟩) m c',.slice sH m2 d2,.int .i64 sz,.int .i64 fs] 63) none;have k0:Hid ((wr.alloc (.cells #[.slice (some ⟨kb,ko,none⟩) m c',.slice sH m2 d2,.int .i64 sz,.int .i64 fs] 63)).cell? ⟨wr.heap.size,0,none⟩=some (.slice (some ⟨kb,ko,none⟩) m c')):=by show _=_;rw [cell_of_row _ wr.heap.size 0 _ _ (0,0) (heap_alloc_new wr _)];rfl
   have k1:Hid ((wr.alloc (.cells #[.slice (some ⟨kb,ko,none⟩) m c',.slice sH m2 d2,.int .i64 sz,.int .i64 fs] 63)).cell? ⟨wr.heap.size,1,none⟩=some (.slice sH m2 d2)):=by show _=_;rw [cell_of_row _ wr.heap.size 1 _ _ (0,0) (heap_alloc_new wr _)];rfl
   have k2:Hid ((wr.alloc (.cells #[.slice (some ⟨kb,ko,none⟩) m c',.slice sH m2 d2,.int .i64 sz,.int .i64 fs] 63)).cell? ⟨wr.heap.size,2,none⟩=some (.int .i64 sz)):=by show _=_;rw [cell_of_row _ wr.heap.size 2 _ _ (0,0) (heap_alloc_new wr _)];rfl
   have k3:Hid ((wr.alloc (.cells #[.slice (some ⟨kb,ko,none⟩) m c',.slice sH m2 d2,.int .i64 sz,.int .i64 fs] 63)).cell? ⟨wr.heap.size,3,none⟩=some (.int .i64 fs)):=by show _=_;rw [cell_of_row _ wr.heap.size 3 _ _ (0,0) (heap_alloc_new wr _)];rfl
   have Hh:=hJ (yf.out.h.kept ga);have Hs:=hJ (yf.out.s.kept ga);have Hc:=hJ (QD.out.kept ga);have Hb:=hJ (yf.out.b.ae ga);have Hg:=hJ (gQ HG.out ga)
   have eT:Hid (wr.heap.size≠fI.heap.size/\wr.heap.size≠fI.heap.size+1/\wr.heap.size≠G):=by
    have a1:=yf.out.s.lt;have a2:=QD.out.lt;have a3:=yf.out.b.lt;exact ⟨by omega,by omega,by omega⟩
   obtain ⟨_,j1,_⟩:=(QD.out.kept ga).cells;clear ga yf QD HG
   go_wp2_with fail
   have k0':=k0.out;have MN:=k1.out;have QE:=k2.out;have qH:=k3.out;clear k0 k1 k2 k3 u0 u1 u2 u3 j1;generalize wr.alloc (.cells #[.slice (some ⟨kb,ko,none⟩) m c',.slice sH m2 d2,.int .i64 sz,.int .i64 fs] 63)=wq at *;generalize wr.heap.size=Q at *;refine (ir A _ (by omega)).mono ?_;rintro en w5 ⟨rfl,kr,aK,hs5⟩;have B5:=hJ kr;have Hh5:=hJ (Hh.out.kept aK);have Hs5:=hJ (Hs.out.kept aK);have Hc5:=hJ (Hc.out.kept aK);have Hb5:=hJ (Hb.out.ae aK);have Hg5:=hJ (gQ Hg.out aK);have z0:=aK.cell k0' (by simp);have z1:=aK.cell MN (by simp);have z2:=aK.cell QE (by simp);have z3:=aK.cell qH (by simp);clear kr aK hs5 Hh Hs Hc Hb Hg k0' MN QE qH
   go_wp2_with fail
   refine (cM fI.heap.size G _ _ _ _ _ (lb 2 A) _ Hs5.out Hb5.out Be.out B5.out (by omega) (by omega)).mono ?_;rintro en w6 ⟨rfl,PC,ku,vG,zZ⟩;have Hs6:=hJ PC;have Hb6:=hJ ku;have Hh6:=hJ (Hh5.out.two vG (by omega) LG.out);have Hc6:=hJ (Hc5.out.two vG (by omega) (by omega));have Hg6:=hJ (vG.grown Hg5.out (by omega) qG.out);have y0:w6.cell? ⟨Q,0,none⟩=some (.slice (some ⟨kb,ko,none⟩) m c'):=(World.cell?_of_block (vG.block Q (World.block_lt_of_cell? _ _ z0) eT.out.1 eT.out.2.2)).trans z0;have y1:w6.cell? ⟨Q,1,none⟩=some (.slice sH m2 d2):=(World.cell?_of_block (vG.block Q (World.block_lt_of_cell? _ _ z0) eT.out.1 eT.out.2.2)).trans z1;have y2:w6.cell? ⟨Q,2,none⟩=some (.int .i64 sz):=(World.cell?_of_block (vG.block Q (World.block_lt_of_cell? _ _ z0) eT.out.1 eT.out.2.2)).trans z2;have y3:w6.cell? ⟨Q,3,none⟩=some (.int .i64 fs):=(World.cell?_of_block (vG.block Q (World.block_lt_of_cell? _ _ z0) eT.out.1 eT.out.2.2)).trans z3;have L6:Hid ((splice Bi (h0+2*i) (lb 2 A)).length=4092):=by show _=_;rw [aJ (by rw [Be.out,aL];omega)];exact Be.out
   clear PC ku vG zZ Hs5 Hb5 Hh5 Hc5 Hg5 B5 z0 z1 z2 z3;have hg0:=qG.out
   go_wp2_with fail
   refine (Ba (fI.heap.size+1) G A _ kb ko m c' sH m2 d2 sz fs p x _ Hc6.out Hb6.out L6.out (by omega) (ZC.out.ae Hg6.out) (HVl.out.ae Hg6.out) VT.out ZE.out jK.out ZF.out Zz r7 (by omega) ⟨by omega,by omega⟩ (fun ad e h=>by have:=hbv ad e h;exact ⟨by omega,by omega⟩)).mono ?_;rintro en w7 ⟨rfl,LH,nj,PF⟩;have Hc7:=hJ LH;have Hb7:=hJ nj;have Hh7:=hJ (Hh6.out.two PF (by omega) LG.out);have Hs7:=hJ (Hs6.out.two PF (by omega) (by omega));have Hg7:=hJ (PF.grown Hg6.out (by omega) qG.out);clear LH nj PF Hc6 Hb6 Hh6 Hs6 Hg6 y0 y1 y2 y3;go_wp2;go_roundw
   case rel =>
    refine ⟨i+1,by omega,by go_num,⟨Hh7.out,?_,?_,?_⟩,Hg7.out⟩
    ·exact (by have:=Hs7.out;simpa [Nat.mul_add,Nat.add_assoc] using this)
    ·rw [Eg.out,<- Nat.add_assoc,QC.out];exact Hc7.out
    ·rw [<- HST.out];exact Hb7.out
   case measure=>simp [intOf];omega
  ·have hin:i=n:=by omega
   subst hin;obtain ⟨k0,k1,_⟩:=yf.out.h.cells;go_wp2;go_ret;refine ⟨G,rfl,?_,HG.out,qG.out⟩;have:=yf.out.b;rw [<- hn,MD] at this;exact this
theorem yg (a:Option Addr)(n cap:Nat)(L:List It)(w:World)(hl:Il w a L)(hb:Ib L)(hn:L.length=n)(hm:n<=5000)(h:wrong L≠0) :
  Calls Tryz.prog 179 #[.slice a n cap] w fun en w'=>en=.returned (.tuple #[.slice none 0 0,.int .i64 (wrong L)])/\w.grownBy w' none:=by
 have HE:=hJ (fun (W:World) (hW:Il W a L)=>kq a n cap L W hW hb hn hm);generalize wrong L=e at *;have h1:¬ e=0:=h;go_enter Tryz.func179,Tryz.ntmps179
 go_wp2_with fail
 refine (HE.out _ hl).mono ?_;rintro en w1 ⟨rfl,hg⟩;have HG:=hJ hg;clear hg hl;go_wp2
 go_ret2
 exact ⟨rfl,HG.out⟩
theorem Eh (a:Option Addr)(n cap:Nat)(L:List It)(w:World)(hl:Il w a L)(hb:Ib L)(hn:L.length=n)(hm:n<=5000)(h:wrong L=0)(hs:4092<size L) :
  Calls Tryz.prog 179 #[.slice a n cap] w fun en w'=>en=.returned (.tuple #[.slice none 0 0,.int .i64 42])/\w.grownBy w' none:=by
 obtain ⟨_,LF,_,_⟩:=bW h;have hk:∀ x∈L,x.key.length<=1000000:=fun x hx=>by have:=(cQ (LF x hx)).2.1;omega
 have HL:=hJ hl;go_enter Tryz.func179,Tryz.ntmps179
 go_wp2_with fail
 refine (kq a n cap L _ hl hb hn hm).mono ?_;rintro en w1 ⟨rfl,hg⟩;have HG:=hJ hg;clear hg hl;rw [h]
 go_wp2_with fail
 refine (AY a n cap L _ (HL.out.ae HG.out) hn hm hk).mono ?_;rintro en w2 ⟨rfl,hg⟩;have eu:=hJ (gQ HG.out hg);clear hg;generalize size L=s at *;go_wp2
 go_ret2
 exact ⟨rfl,eu.out⟩
theorem IY (a:Option Addr)(n cap:Nat)(L:List It)(w:World)(hl:Il w a L)(hb:Ib L)(hn:L.length=n)(hm:n<=5000)(h:wrong L=0)(hs:size L<=4092) :
  Calls Tryz.prog 179 #[.slice a n cap] w fun en w'=>∃ G,en=.returned (.tuple #[.slice (some ⟨G,0,none⟩) 4092 4092,.int .i64 0])/\Rw w' G (body L)/\w.grownBy w' none/\w.heap.size<=G:=by
 obtain ⟨_,LF,_,_⟩:=bW h;have hk:∀ x∈L,x.key.length<=1000000:=fun x hx=>by have:=(cQ (LF x hx)).2.1;omega
 have HL:=hJ hl;have HO:=hJ (fun (W:World) (hW:Il W a L)=>Ee a n cap L W hW hn h hs);go_enter Tryz.func179,Tryz.ntmps179
 go_wp2_with fail
 refine (kq a n cap L _ hl hb hn hm).mono ?_;rintro en w1 ⟨rfl,hg⟩;have HG:=hJ hg;clear hg hl;rw [h]
 go_wp2_with fail
 refine (AY a n cap L _ (HL.out.ae HG.out) hn hm hk).mono ?_;rintro en w2 ⟨rfl,hg⟩;have eu:=hJ (gQ HG.out hg);clear hg;generalize size L=s at *
 go_wp2_with fail
 refine (HO.out _ (HL.out.ae eu.out)).mono ?_;rintro en w3 ⟨G,rfl,h1,h2,h3⟩;have H1:=hJ h1;have H2:=hJ (gQ eu.out h2);have H3:=hJ (Nat.le_trans eu.out.size h3);clear h1 h2 h3;go_wp2
 go_ret2
 exact ⟨G,rfl,H1.out,H2.out,H3.out⟩
def enc (L:List It):List Int × Int:=if wrong L=0 then (if size L<=4092 then (body L,0) else ([],42)) else ([],wrong L)
theorem tR (a:Option Addr)(n cap:Nat)(L:List It)(w:World)(hl:Il w a L)(hb:Ib L)(hn:L.length=n)(hm:n<=5000) :
  Calls Tryz.prog 179 #[.slice a n cap] w fun en w'=>(∃ ao k c,en=.returned (.tuple #[.slice ao k c,.int .i64 (enc L).2])/\ai w' ao k c (enc L).1/\k<=4092)/\w.grownBy w' none:=by
 by_cases h:wrong L=0
 ·by_cases hs:size L<=4092
  ·refine (IY a n cap L w hl hb hn hm h hs).mono ?_
   rintro en w' ⟨G,rfl,h1,h2,h3⟩;have e:enc L=(body L,0):=by unfold enc;rw [if_pos h,if_pos hs]
   rw [e];exact ⟨⟨_,_,_,rfl,h1.all 4092 4092 (nL h hs).symm,Nat.le_refl _⟩,h2⟩
  ·refine (Eh a n cap L w hl hb hn hm h (by omega)).mono ?_
   rintro en w' ⟨rfl,h2⟩;have e:enc L=([],42):=by unfold enc;rw [if_pos h,if_neg hs]
   rw [e];exact ⟨⟨_,_,_,rfl,ai.empty _,by omega⟩,h2⟩
 ·refine (yg a n cap L w hl hb hn hm h).mono ?_
  rintro en w' ⟨rfl,h2⟩;have e:enc L=([],wrong L):=by unfold enc;rw [if_neg h]
  rw [e];exact ⟨⟨_,_,_,rfl,ai.empty _,by omega⟩,h2⟩
theorem iE (k x:Nat):Bt (lb k x):=jC k x
theorem kA (x:Nat):Bt (ah x):=TV 10 x
theorem Uj (p:Nat){x:It}(h:Qy x):Bt (cb p x):=by
 unfold cb;refine (kA _).app ((h.key.drop p).app ((kA _).app ?_))
 split
 ·exact iE _ _
 ·exact h.val
theorem Bf (p:Nat):∀ (L:List It) (a:Nat),Bt (slots p a L)
 | [],_=>Bt.nil
 | _::L,_=>(iE _ _).app (Bf p L _)
theorem Bg (p:Nat):∀ {L:List It},Ib L->Bt (cells p L)
 | [],_=>Bt.nil
 | x::_,h=>(Uj p (h x List.mem_cons_self)).app (Bg p (fun y hy=>h y (List.mem_cons_of_mem _ hy)))
theorem GF {L:List It}(h:Ib L):Bt (body L):=by
 unfold body used aZ;refine Bt.app (Bt.app ((iE _ _).app ((iE _ _).app ((kA _).app ?_))) ((Bf _ _ _).app (Bg _ h))) ?_
 ·cases L with
  | nil=>exact Bt.take Bt.nil _
  | cons x L=>exact (h x List.mem_cons_self).key.take _
 ·intro z hz
  obtain ⟨_,rfl⟩:=List.mem_replicate.1 hz;omega
theorem MO {L:List It}(h:Ib L):Bt (enc L).1:=by
 unfold enc
 split
 ·split
  ·exact GF h
  ·exact Bt.nil
 ·exact Bt.nil
theorem lC (ao bo:Option Addr)(n m c d:Nat)(za zb:List Int)(w:World)(ha:ai w ao n c za)(hb:ai w bo m d zb)(e:za=zb) :
  Calls Tryz.prog 201 #[.slice ao n c,.slice bo m d] w fun en w'=>en=.returned (.bool true)/\w'=w:=by
 subst e;have h1:=dS ha;have h2:=dS hb;clear ha hb;go_enter Tryz.func201,Tryz.ntmps201;go_wp2;go_ret;exact ⟨rfl,rfl⟩
theorem nT (ao bo:Option Addr)(n m c d:Nat)(za zb:List Int)(w:World)(ha:ai w ao n c za)(hb:ai w bo m d zb)(ba:Bt za)(bb:Bt zb)(e:za≠zb) :
  Calls Tryz.prog 201 #[.slice ao n c,.slice bo m d] w fun en w'=>en=.returned (.bool false)/\w'=w:=by
 have hne:((strOfNums za).toList==(strOfNums zb).toList)=false:=by
  rw [beq_eq_false_iff_ne,ByteArray.toList_eq,ByteArray.toList_eq];intro h;refine e (str_inj ba bb ?_);have:=Array.toList_inj.1 h;cases hx:strOfNums za;cases hy:strOfNums zb;simp_all
 have h1:=dS ha;have h2:=dS hb;clear ha hb;go_enter Tryz.func201,Tryz.ntmps201;go_wp2;go_ret;exact ⟨rfl,rfl⟩
theorem ai.zero (w:World)(ao:Option Addr):ai w ao 0 0 []:=⟨rfl,fun _=>⟨rfl,rfl⟩,fun ad _ j u hu=>by simp at hu⟩
theorem QF (R G:Nat)(zs:List Int)(s:Nat × Int)(w:World)(h:Rd w R G zs s.1 s.2)(bp:Bt zs) :
  Calls Tryz.prog 239 #[.pointer (some ⟨R,0,none⟩)] w fun en w'=>en=.returned (.int .u64 ((sV zs s).1:Nat))/\Rd w' R G zs (sV zs s).2.1 (sV zs s).2.2/\w.grownBy w' (some R):=by
 obtain ⟨p,e⟩:=s
 by_cases he:e=0
 ·subst he
  by_cases h0:(rv (zs.drop p)).2.2=0
  ·have e1:sV zs (p,0)=((rv (zs.drop p)).1,(p+(rv (zs.drop p)).2.1,0)):=by unfold sV;rw [if_pos rfl,if_pos h0]
   rw [e1];exact adO R G zs p _ _ w h bp (by rw [<- h0])
  ·have e1:sV zs (p,0)=(0,(p,(rv (zs.drop p)).2.2)):=by unfold sV;rw [if_pos rfl,if_neg h0]
   rw [e1];refine YR R G zs p _ w h bp ?_ (by simpa using h0);rcases Am 10 0 0 (zs.drop p) with h1 | h1 | h1 | h1
   ·exact absurd h1 h0
   ·show rv _=_;unfold rv;rw [h1]
   ·show rv _=_;unfold rv;rw [h1]
   ·show rv _=_;unfold rv;rw [h1]
 ·have e1:sV zs (p,e)=(0,(p,e)):=by unfold sV;rw [if_neg he]
  rw [e1];exact Mj R G zs p e w h (by simpa using he)
theorem yh (R G:Nat)(zs:List Int)(s:Nat × Int)(m:Int)(w:World)(h:Rd w R G zs s.1 s.2) :
  Calls Tryz.prog 211 #[.pointer (some ⟨R,0,none⟩),.int .i64 m] w fun en w'=>(∃ ao k,en=.returned (.slice ao k k)/\ai w' ao k k (sB zs s m).1/\(0<k->ao=some ⟨G,s.1,none⟩)/\k<=zs.length)/\Rd w' R G zs (sB zs s m).2.1 (sB zs s m).2.2/\w.grownBy w' (some R):=by
 obtain ⟨p,e⟩:=s
 by_cases he:e=0
 ·subst he
  have hp:p<=zs.length:=h.le
  by_cases h0:m<0∨(zs.length:Int) - p<m
  ·have e1:sB zs (p,0) m=([],(p,10)):=by unfold sB;rw [if_pos rfl,if_pos h0]
   rw [e1];rcases h0 with h0 | h0
   ·refine (IC R G zs p m w h h0).mono ?_
    rintro en w' ⟨rfl,h1,h2⟩;exact ⟨⟨_,_,rfl,ai.zero _ _,fun h=>by omega,by omega⟩,h1,h2⟩
   ·refine (ii R G zs p m w h h0).mono ?_
    rintro en w' ⟨rfl,h1,h2⟩;exact ⟨⟨_,_,rfl,ai.zero _ _,fun h=>by omega,by omega⟩,h1,h2⟩
  ·have e1:sB zs (p,0) m=((zs.drop p).take m.toNat,(p+m.toNat,0)):=by unfold sB;rw [if_pos rfl,if_neg h0]
   rw [e1];obtain ⟨k,rfl⟩:∃ k:Nat,m=(k:Int):=⟨m.toNat,by omega⟩;rw [Int.toNat_natCast];refine (fg R G zs p k w h (by omega)).mono ?_;rintro en w' ⟨ao,rfl,h1,h2,h3,h4⟩;exact ⟨⟨ao,k,rfl,h2,h1,by omega⟩,h3,h4⟩
 ·have e1:sB zs (p,e) m=([],(p,e)):=by unfold sB;rw [if_neg he]
  rw [e1];refine (fY R G zs p e m w h (by simpa using he)).mono ?_;rintro en w' ⟨ao,rfl,h1,h2⟩;exact ⟨⟨ao,0,rfl,ai.zero _ _,fun h=>by omega,by omega⟩,h1,h2⟩
theorem Uk (R G:Nat)(zs:List Int)(s:Nat × Int)(w:World)(h:Rd w R G zs s.1 s.2)(bp:Bt zs) :
  Calls Tryz.prog 238 #[.pointer (some ⟨R,0,none⟩)] w fun en w'=>en=.returned (.int .u16 ((sN zs s 2).1:Nat))/\Rd w' R G zs (sN zs s 2).2.1 (sN zs s 2).2.2/\w.grownBy w' (some R):=by
 obtain ⟨p,e⟩:=s
 by_cases he:e=0
 ·subst he
  by_cases h0:zs.length<p+2
  ·have e1:sN zs (p,0) 2=(0,(p,10)):=by unfold sN;rw [if_pos rfl,if_pos h0]
   rw [e1];exact vP R G zs p w h h0
  ·have e1:sN zs (p,0) 2=(le 2 (zs.drop p),(p+2,0)):=by unfold sN;rw [if_pos rfl,if_neg h0]
   rw [e1];exact tv R G zs p w h bp (by omega)
 ·have e1:sN zs (p,e) 2=(0,(p,e)):=by unfold sN;rw [if_neg he]
  rw [e1];exact tx R G zs p e w h (by simpa using he)
theorem MP (R G:Nat)(zs:List Int)(s:Nat × Int)(w:World)(h:Rd w R G zs s.1 s.2)(bp:Bt zs) :
  Calls Tryz.prog 257 #[.pointer (some ⟨R,0,none⟩)] w fun en w'=>en=.returned (.int .u32 ((sN zs s 4).1:Nat))/\Rd w' R G zs (sN zs s 4).2.1 (sN zs s 4).2.2/\w.grownBy w' (some R):=by
 obtain ⟨p,e⟩:=s
 by_cases he:e=0
 ·subst he
  by_cases h0:zs.length<p+4
  ·have e1:sN zs (p,0) 4=(0,(p,10)):=by unfold sN;rw [if_pos rfl,if_pos h0]
   rw [e1];exact vR R G zs p w h h0
  ·have e1:sN zs (p,0) 4=(le 4 (zs.drop p),(p+4,0)):=by unfold sN;rw [if_pos rfl,if_neg h0]
   rw [e1];exact ez R G zs p w h bp (by omega)
 ·have e1:sN zs (p,e) 4=(0,(p,e)):=by unfold sN;rw [if_neg he]
  rw [e1];exact tA R G zs p e w h (by simpa using he)
def Lr (w:World)(Q R:Nat)(po:Option Addr)(pn pc:Nat):Prop:=w.heap[Q]?=some (.cells #[.pointer (some ⟨R,0,none⟩),.slice po pn pc] 204 (0,0))
theorem Lr.cells {w:World}(h:Lr w Q R po pn pc):w.cell? ⟨Q,0,none⟩=some (.pointer (some ⟨R,0,none⟩))/\w.cell? ⟨Q,1,none⟩=some (.slice po pn pc)/\w.frozen? ⟨Q,1,none⟩=false:=by
 refine ⟨?_,?_,frozen_of_row w Q 1 _ _ h⟩
 ·rw [cell_of_row w Q 0 _ _ _ h];rfl
 ·rw [cell_of_row w Q 1 _ _ _ h];rfl
theorem Lr.lt (h:Lr w Q R po pn pc):Q<w.heap.size:=(Array.getElem?_eq_some_iff.1 h).1
theorem Lr.kept {R:Nat}{row:Option Nat}(h:Lr w Q R po pn pc)(hg:w.grownBy w' row)(hne:some Q≠row):Lr w' Q R po pn pc:=(hg.block Q h.lt hne).trans h
theorem Bh (zs:List Int)(s:Nat × Int)(h:Bt zs):(sV zs s).1<18446744073709551616:=by
 unfold sV
 split
 ·split
  ·rename_i h0 h1
   obtain ⟨x,n,e⟩:∃ x n,rv (zs.drop s.1)=(x,n,0):=⟨_,_,by rw [<- h1]⟩;have:=(sw (zs.drop s.1) x n (h.drop _) e).1;rw [e];exact this
  ·exact Nat.zero_lt_succ _
 ·exact Nat.zero_lt_succ _
theorem tS {x:Nat}(h:x<18446744073709551616):IntKind.i64.wrap (x:Int)=i64 x:=by
 unfold i64;simp [IntKind.wrap,IntKind.bits,IntKind.signed]
 split <;> omega
theorem tT {a:Act}{Q:Exit->Act->World->Prop}(hgd:o.guard=none)(d s:Operand)
  (ho:o.op=.call { callee:=.builtin .copy,args:=#[d,s],argTypes:=#[25,25] })
  (dp sp:Option Addr) (dLen dCap sLen sCap:Nat) (hd:a.eval d=.slice dp dLen dCap) (hs:a.eval s=.slice sp sLen sCap)
  (g off:Nat) (cur:List Value) (hg:w.heap[g]?=some (.cells cur.toArray 5 (0,0))) (cs:List Value) (hn:cs.length=Nat.min sLen dLen)
  (hpos:0<cs.length->dp=some ⟨g,off,none⟩/\∃ ad,sp=some ad/\∀ j v,cs[j]?=some v->w.cell? (ad.add j)=some v)
  (hfit:off+cs.length<=cur.length) (h1:∀ v∈cs,v.oneCell'=true) (k:Nat) (hk:cs.length=k)
  (h:∀ w',Ro w w' g (splice cur off cs)->wpList Tryz.prog ops Q rest (a.put o.dst (.int .i64 (k:Int))) w'):wpList Tryz.prog ops Q (o::rest) a w:=by
 obtain ⟨i0,hi,hz0,hz1,hz2⟩:=info_parts bF;have hsz:(Tryz.prog.info? 5).map (·.size)=some 1:=by rw [hi];exact congrArg some hz1
 subst hk
 by_cases h0:cs.length=0
 ·obtain rfl:cs=[]:=List.eq_nil_of_length_eq_zero h0
  refine wpList_copy_nothing hgd d s 25 25 ho 5 Tryz.underlying25 hsz dp sp dLen dCap sLen sCap hd hs (by simpa using hn.symm) ?_;exact h w ⟨by simpa [splice] using hg,fun _ _=>rfl,rfl,rfl,rfl,rfl⟩
 ·obtain ⟨rfl,ad,rfl,hsrc⟩:=hpos (by omega)
  refine wpList_copy_own hgd d s 25 25 ho 5 Tryz.underlying25 hsz g off dLen dCap ad sLen sCap hd hs cur.toArray 5 hg cs hn hsrc (by simpa using hfit) h1 ?_;exact h _ ⟨by simpa [splice] using setRow_heap w g _ _ _ _ hg,fun k hk=>setRow_other w g k _ hk,by simp [World.setRow],rfl,rfl,rfl⟩
theorem fh {a:Act}{Q:Exit->Act->World->Prop}(hgd:o.guard=none)(d s:Operand)
  (ho:o.op=.call { callee:=.builtin .copy,args:=#[d,s],argTypes:=#[25,25] })
  (dp sp:Option Addr) (dLen dCap sLen sCap:Nat) (hd:a.eval d=.slice dp dLen dCap) (hs:a.eval s=.slice sp sLen sCap)
  (g off:Nat) (cs ts:List Int) (hg:Rw w g cs) (hb:ai w sp sLen sCap ts) (hn:sLen<=dLen) (VU:0<sLen->dp=some ⟨g,off,none⟩) (hfit:off+sLen<=cs.length)
  (h:∀ w',Rw w' g (splice cs off ts)->w.grownBy w' (some g)->wpList Tryz.prog ops Q rest (a.put o.dst (.int .i64 (sLen:Int))) w'):wpList Tryz.prog ops Q (o::rest) a w:=by
 have hl:=hb.len;refine tT hgd d s ho dp sp dLen dCap sLen sCap hd hs g off (cs.map (Value.int .u8)) hg (ts.map (Value.int .u8)) (by rw [List.length_map,hl];exact (Nat.min_eq_left hn).symm) (fun h0=>?_) (by rw [List.length_map,List.length_map];omega) (ints_oneCell _ _) sLen (by rw [List.length_map,hl]) fun w' hro=>h w' ?_ hro.grown
 ·refine ⟨VU (by simpa [hl] using h0),?_⟩
  cases sp with
  | none=>have:=(hb.nil rfl).1;simp [hl] at h0;omega
  | some ad=>exact ⟨ad,rfl,hb.cells ad rfl⟩
 ·unfold Rw
  rw [<- mI];exact hro.row
theorem cN {a b c:World}(h:a.grownBy b (some R))(k:b.grownBy c (some g))(hg:a.heap.size<=g):a.grownBy c (some R) :=
 ⟨k.os.trans h.os,k.tape.trans h.tape,k.output.trans h.output,Nat.le_trans h.size k.size,
  fun i hi hne=>(k.block i (Nat.lt_of_lt_of_le hi h.size) (by intro e;have:=Option.some.inj e;omega)).trans (h.block i hi hne)⟩
theorem kB {Z X Y:List Int}(hZ:Z.length=X.length+Y.length):splice (splice Z 0 X) X.length Y=X++Y:=by
 have:=dx (cs:=Z) (xs:=X) (ys:=Y) (p:=0) (by omega);rw [Nat.zero_add] at this;rw [this];unfold splice;rw [List.take_zero,List.nil_append,Nat.zero_add,List.drop_eq_nil_of_le (by rw [List.length_append];omega),List.append_nil]
theorem QG (Q R G:Nat)(zs:List Int)(s:Nat × Int)(po:Option Addr)(pn pc:Nat)(P:List Int)(w:World)(hq:Lr w Q R po pn pc)(h:Rd w R G zs s.1 s.2)(bp:Bt zs)(hP:ai w po pn pc P)(ZG:∀ ad,po=some ad->0<pn->ad.block≠R)(wh:Q≠R)(wj:pn<=5000)(hz:zs.length<=5000) :
  Calls Tryz.prog 277 #[.pointer (some ⟨Q,0,none⟩)] w fun en w'=>(∃ g k,en=.returned (.slice (some ⟨g,0,none⟩) k k)/\Rw w' g (aU zs P s).1/\(aU zs P s).1.length=k/\w.heap.size<=g/\k<=10000)/\Rd w' R G zs (aU zs P s).2.1 (aU zs P s).2.2/\w.grownBy w' (some R):=by
 obtain ⟨i0,hi,hz0,hz1,hz2⟩:=info_parts bF;obtain ⟨c0,c1,_⟩:=hq.cells;have QH:Hid (aU zs P s=(P++(sB zs (sV zs s).2 (i64 (sV zs s).1)).1,(sB zs (sV zs s).2 (i64 (sV zs s).1)).2)):=rfl;have HV:=hJ (fun (W:World) (hW:Rd W R G zs s.1 s.2)=>QF R G zs s W hW bp);have HB:=hJ (fun (W:World) (hW:Rd W R G zs (sV zs s).2.1 (sV zs s).2.2)=>yh R G zs (sV zs s).2 (i64 (sV zs s).1) W hW);have hvl:=Bh zs s bp;have hwr:=tS hvl;generalize (sV zs s).2=s1 at *;generalize (sV zs s).1=x at *;generalize i64 x=m at *;have HR:=hJ h;have HQ:=hJ hq;have HP:=hJ hP;clear h hq hP;go_enter Tryz.func277,Tryz.ntmps277
 go_wp2_with fail
 go_region_with (first
  | (go_at_call 239;refine (HV.out _ (by exact HR.out.kept ((Qt.refl w).drew.grown none) (by simp) (by simp))).mono ?_;rintro en w1 ⟨rfl,hr1,hg1⟩;have d0:=hg1.cell (by exact c0) (by intro e;exact wh (Option.some.inj e));have d1:=hg1.cell (by exact c1) (by intro e;exact wh (Option.some.inj e)))
  | (go_at_call 211;refine (HB.out _ hr1).mono ?_;rintro en w2 ⟨⟨ao,k,rfl,hb2,hao,hk⟩,hr2,hg2⟩;have e0:=hg2.cell d0 (by intro e;exact wh (Option.some.inj e));have e1:=hg2.cell d1 (by intro e;exact wh (Option.some.inj e))))
 all_goals
  have hP2:ai w2 po pn pc P:=((HP.out.kept ((Qt.refl w).drew.grown none) (by simp)).kept hg1 (fun ad e h e2=>ZG ad e h (Option.some.inj e2))).kept hg2 (fun ad e h e2=>ZG ad e h (Option.some.inj e2));have Qo:=hJ hP2;have eu:=hJ (gQ (gQ ((Qt.refl w).drew.grown (some R)) hg1) hg2);have Mh:=hJ hr2;have LI:=hJ hb2;have sJ:=hJ hao;have ZH:=HP.out.len;have hlB:=hb2.len;have VV:=hJ ZH;have GG:=hJ hlB;clear hP2 hg1 hg2 hr1 hr2 hb2 hao d0 d1 c0 c1 HV HB HR HQ HP ZH hlB
  go_wp2_with (at_make;refine wpList_make_full _ rfl _ _ 25 rfl w2.heap.size 5 i0 (.int .u8 0) 1 Tryz.underlying25 hi hz0 hz1 _ _ _ _ (pn+k) rfl rfl (by simp) (by simp) ?b2 ?b3 (Nat.le_refl _) ?_)
  case b2=>rw [hz2];omega
  case b3=>unfold maxLen;omega
  intro w3 iN hg3;rw [made] at iN;have R3:=hJ (Rw.aP iN);have rq:=hJ (gQ eu.out (bL hg3));have P3:=hJ (Qo.out.ae hg3);have B3:=hJ (LI.out.ae hg3);have D3:=hJ (Mh.out.kept hg3 (by simp) (by simp));have GH:Hid (w.heap.size<=w2.heap.size):=eu.out.size
  have fA:Hid (w2.heap.size≠R/\w2.heap.size≠G/\w2.heap.size≠Q):=by
   have a1:=Mh.out.lt;have a2:=World.block_lt_of_cell? _ _ e0;exact ⟨by omega,by omega,by intro e;simp at a2;omega⟩
  have e1':=hg3.cell e1 (by simp);have Dh:Hid (∀ ad,po=some ad->0<pn->ad.block<w2.heap.size):=fun ad e h=>Qo.out.lt e h
  have HBC:Hid (∀ ad,ao=some ad->0<k->ad.block<w2.heap.size):=fun ad e h=>LI.out.lt e h
  clear iN hg3 eu Qo LI Mh e0 e1;generalize w2.heap.size=g at *;have hfit:Hid ((List.replicate (pn+k) (0:Int)).length=pn+k):=List.length_replicate
  go_wp2_with (refine fh rfl _ _ rfl _ _ _ _ _ _ rfl rfl g 0 (List.replicate (pn+k) 0) P R3.out P3.out (by omega) (fun _=>rfl) (by rw [hfit.out];omega) ?_)
  intro w4 hr4 hg4;have R4:=hJ hr4;have B4:=hJ (B3.out.kept hg4 (fun ad e h e2=>by have:=HBC.out ad e h;have:=Option.some.inj e2;omega));have D4:=hJ (D3.out.kept hg4 (fun e2=>fA.out.1 (Option.some.inj e2).symm) (fun e2=>fA.out.2.1 (Option.some.inj e2).symm));have jL:=hJ (cN rq.out hg4 GH.out);clear hr4 hg4 R3 B3 D3 rq P3 e1';have g1:(0:Int)<=(pn:Int):=by omega
  have g2:(pn:Int)<=(pn:Int)+(k:Int):=by omega
  have hl4:Hid ((splice (List.replicate (pn+k) 0) 0 P).length=pn+k):=by show _=_;rw [aJ (by rw [hfit.out,VV.out];omega)];exact hfit.out
  by_cases xb:k=0
  ·subst xb
   go_wp2_with (refine fh rfl _ _ rfl _ _ _ _ _ _ rfl rfl g pn (splice (List.replicate (pn+0) 0) 0 P) (sB zs s1 m).1 R4.out B4.out (by omega) (fun h=>by omega) (by rw [hl4.out];exact Nat.le_refl _) ?_)
   intro w5 kz aK;have R5:=hJ kz;have D5:=hJ (D4.out.kept aK (fun e2=>fA.out.1 (Option.some.inj e2).symm) (fun e2=>fA.out.2.1 (Option.some.inj e2).symm));have VW:=hJ (cN jL.out aK GH.out);clear kz aK R4 B4 D4 jL;go_wp2;go_ret;rw [QH.out];refine ⟨⟨g,pn+0,rfl,?_,by rw [List.length_append,VV.out,GG.out],GH.out,by omega⟩,D5.out,VW.out⟩;have e:=kB (Z:=List.replicate (pn+0) 0) (X:=P) (Y:=(sB zs s1 m).1) (by rw [hfit.out,VV.out,GG.out]);rw [VV.out] at e;rw [<- e];exact R5.out
  ·have g3:¬ pn+k=pn:=by omega
   go_wp2_with (refine fh rfl _ _ rfl _ _ _ _ _ _ rfl rfl g pn (splice (List.replicate (pn+k) 0) 0 P) (sB zs s1 m).1 R4.out B4.out (by omega) (fun h=>by first | rfl | simp [Nat.zero_add]) (by rw [hl4.out];exact Nat.le_refl _) ?_)
   intro w5 kz aK;have R5:=hJ kz;have D5:=hJ (D4.out.kept aK (fun e2=>fA.out.1 (Option.some.inj e2).symm) (fun e2=>fA.out.2.1 (Option.some.inj e2).symm));have VW:=hJ (cN jL.out aK GH.out);clear kz aK R4 B4 D4 jL;go_wp2;go_ret;rw [QH.out];refine ⟨⟨g,pn+k,rfl,?_,by rw [List.length_append,VV.out,GG.out],GH.out,by omega⟩,D5.out,VW.out⟩;have e:=kB (Z:=List.replicate (pn+k) 0) (X:=P) (Y:=(sB zs s1 m).1) (by rw [hfit.out,VV.out,GG.out]);rw [VV.out] at e;rw [<- e];exact R5.out
theorem VX (k:Nat)(zs:List Int)(h:Bt zs):le k zs<256 ^ k:=dQ k zs h
theorem tU (zs:List Int)(s:Nat × Int)(k:Nat)(h:Bt zs):(sN zs s k).1<256 ^ k:=by
 unfold sN
 split
 ·split
  ·exact Nat.pow_pos (by omega)
  ·exact VX k _ (h.drop _)
 ·exact Nat.pow_pos (by omega)
def Bx (w:World)(T:Nat)(a b c d:Value):Prop:=w.heap[T]?=some (.cells #[a,b,c,d] 63 (0,0))
theorem Bx.lt (h:Bx w T a b c d):T<w.heap.size:=(Array.getElem?_eq_some_iff.1 h).1
theorem Bx.cells {w:World}(h:Bx w T a b c d):w.cell? ⟨T,0,none⟩=some a/\w.cell? ⟨T,1,none⟩=some b/\w.cell? ⟨T,2,none⟩=some c/\w.cell? ⟨T,3,none⟩=some d:=by
 refine ⟨?_,?_,?_,?_⟩
 ·rw [cell_of_row w T 0 _ _ _ h];rfl
 ·rw [cell_of_row w T 1 _ _ _ h];rfl
 ·rw [cell_of_row w T 2 _ _ _ h];rfl
 ·rw [cell_of_row w T 3 _ _ _ h];rfl
theorem Bx.frozen (h:Bx w T a b c d)(j:Nat):w.frozen? ⟨T,j,none⟩=false:=frozen_of_row w T j _ _ h
theorem Bx.kept {row:Option Nat}(h:Bx w T a b c d)(hg:w.grownBy w' row)(hne:some T≠row):Bx w' T a b c d:=(hg.block T h.lt hne).trans h
theorem Bx.rI (h:Bx w T a b c d)(v:Value):Bx (w.setCell ⟨T,1,none⟩ v) T a v c d:=heap_setCell_same w T 1 _ _ v h
theorem Bx.Bj (h:Bx w T a b c d)(v:Value):Bx (w.setCell ⟨T,2,none⟩ v) T a b v d:=heap_setCell_same w T 2 _ _ v h
theorem Bx.Bk (h:Bx w T a b c d)(v:Value):Bx (w.setCell ⟨T,3,none⟩ v) T a b c v:=heap_setCell_same w T 3 _ _ v h
theorem Bx.new (w:World)(a b c d:Value):Bx (w.alloc (.cells #[a,b,c,d] 63)) w.heap.size a b c d:=heap_alloc_new w _
structure Fr (w w':World)(Q R G U T g:Nat)(po:Option Addr)(pn pc:Nat)(zs:List Int)(st:Nat × Int)(Ky:List Int)(a b c d:Value):Prop where
 rd:Rd w' R G zs st.1 st.2
 lr:Lr w' Q R po pn pc
 u:Bx w' U (.slice none 0 0) (.slice none 0 0) (.int .i64 0) (.int .i64 0)
 t:Bx w' T a b c d
 ky:Rw w' g Ky
 gr:w.grownBy w' (some R)
 hT:T≠R/\T≠G/\T≠Q/\T≠U/\T≠g/\w.heap.size<=T
 hR:U≠R/\g≠R/\Q≠R
theorem Fr.call {Bl:Nat × Int}(h:Fr w w' Q R G U T g po pn pc zs st Ky a b c d)(hr:Rd w'' R G zs Bl.1 Bl.2)(hg:w'.grownBy w'' (some R)):Fr w w'' Q R G U T g po pn pc zs Bl Ky a b c d :=
 ⟨hr,h.lr.kept hg (fun e=>h.hR.2.2 (Option.some.inj e)),h.u.kept hg (fun e=>h.hR.1 (Option.some.inj e)),h.t.kept hg (fun e=>h.hT.1 (Option.some.inj e)),h.ky.kept hg (fun e=>h.hR.2.1 (Option.some.inj e)),gQ h.gr hg,h.hT,h.hR⟩
theorem Fr.drew{w:World}(h:Fr w w' Q R G U T g po pn pc zs st Ky a b c d):Fr w w'.drew Q R G U T g po pn pc zs st Ky a b c d :=
 h.call (h.rd.kept ((Qt.refl w').drew.grown none) (by simp) (by simp)) ((Qt.refl w').drew.grown _)
theorem Fr.frame {a' b' c' d':Value}(h:Fr w w' Q R G U T g po pn pc zs st Ky a b c d)(hg:w'.grownBy w'' (some T))(ht:Bx w'' T a' b' c' d'):Fr w w'' Q R G U T g po pn pc zs st Ky a' b' c' d' :=
 ⟨h.rd.kept hg (fun e=>h.hT.1 (Option.some.inj e).symm) (fun e=>h.hT.2.1 (Option.some.inj e).symm),h.lr.kept hg (fun e=>h.hT.2.2.1 (Option.some.inj e).symm),h.u.kept hg (fun e=>h.hT.2.2.2.1 (Option.some.inj e).symm),ht,h.ky.kept hg (fun e=>h.hT.2.2.2.2.1 (Option.some.inj e).symm),cN h.gr hg h.hT.2.2.2.2.2,h.hT,h.hR⟩
theorem Bx.mJ (h:Bx w T a b c d)(v:Value):Bx (w.setCell ⟨T,0,none⟩ v) T v b c d:=heap_setCell_same w T 0 _ _ v h
theorem IZ:(Tryz.prog.info? 63).map (·.size)=some 4:=by kernel_rfl
theorem nU {fn:Func}{p:Tmp}(h:fn.results=#[.cell p 63])(tmps:Array Value)(w:World)(U:Nat)(a b c d:Value)(hp:tmps.getD p undef=.pointer (some ⟨U,0,none⟩))(hx:Bx w U a b c d) :
  (results fn tmps).run Tryz.prog w=.ok (.agg #[a,b,c,d]) w :=
 results_cell_row h tmps w U 63 #[a,b,c,d] (0,0) _ hp hx Tryz.underlying63 rfl IZ
theorem Fr.done (h:Fr w w' Q R G U T g po pn pc zs st Ky a b c d)(hU:w.heap.size<=U)(hUG:U≠G)(hUg:U≠g) :
  Bx ((((w'.setCell ⟨U,0,none⟩ a).setCell ⟨U,1,none⟩ b).setCell ⟨U,2,none⟩ c).setCell ⟨U,3,none⟩ d) U a b c d/\w'.grownBy ((((w'.setCell ⟨U,0,none⟩ a).setCell ⟨U,1,none⟩ b).setCell ⟨U,2,none⟩ c).setCell ⟨U,3,none⟩ d) (some U) /\
  Rd ((((w'.setCell ⟨U,0,none⟩ a).setCell ⟨U,1,none⟩ b).setCell ⟨U,2,none⟩ c).setCell ⟨U,3,none⟩ d) R G zs st.1 st.2/\Rw ((((w'.setCell ⟨U,0,none⟩ a).setCell ⟨U,1,none⟩ b).setCell ⟨U,2,none⟩ c).setCell ⟨U,3,none⟩ d) g Ky /\
  w.grownBy ((((w'.setCell ⟨U,0,none⟩ a).setCell ⟨U,1,none⟩ b).setCell ⟨U,2,none⟩ c).setCell ⟨U,3,none⟩ d) (some R):=by
 have hg:=gQ (gQ (gQ (ay w' U 0 a) (ay _ U 1 b)) (ay _ U 2 c)) (ay _ U 3 d);refine ⟨(((h.u.mJ a).rI b).Bj c).Bk d,hg,h.rd.kept hg (fun e=>h.hR.1 (Option.some.inj e).symm) (fun e=>hUG (Option.some.inj e).symm),h.ky.kept hg (fun e=>hUg (Option.some.inj e).symm),cN h.gr hg hU⟩
def U8 (w:World)(b:Nat):Prop:=∃ cur,w.heap[b]?=some (.cells cur 5 (0,0))
theorem Rw.u8 {w:World}(h:Rw w g zs):U8 w g:=⟨_,h⟩
theorem Rd.u8 {w:World}{e:Int}(h:Rd w R G zs p e):U8 w G:=by
 obtain ⟨cur,h1,_⟩:=h.row;exact ⟨cur,h1⟩
structure Im (w:World)(R:Nat)(ao:Option Addr)(n c:Nat)(bo:Option Addr)(m d:Nat)(x:It):Prop where
 key:ai w ao n c x.key
 kc:n<=c/\c<=9223372036854775807
 val:ai w bo m d x.val
 vc:m<=d/\d<=9223372036854775807
 kb:∀ ad,ao=some ad->0<n->ad.block≠R/\U8 w ad.block
 vb:∀ ad,bo=some ad->0<m->ad.block≠R/\U8 w ad.block
theorem U8.kept {b:Nat}{row:Option Nat}(h:U8 w b)(hg:w.grownBy w' row)(hne:some b≠row):U8 w' b:=by
 obtain ⟨cur,h1⟩:=h;exact ⟨cur,(hg.block b (Array.getElem?_eq_some_iff.1 h1).1 hne).trans h1⟩
structure Iv (w:World)(R:Nat)(xs:List Value)(L:List It):Prop where
 len:xs.length=L.length*4
 el:∀ j,j<L.length->∃ ao n c bo m d,xs[j*4]?=some (.slice ao n c)/\xs[j*4+1]?=some (.slice bo m d)/\xs[j*4+2]?=some (.int .i64 (L.getD j aG).size)/\xs[j*4+3]?=some (.int .i64 (L.getD j aG).first)/\Im w R ao n c bo m d (L.getD j aG)
theorem Iv.il {L:List It}(h:Iv w R xs L)(ho:w.ownsRow base 63 4 v n xs):∃ a cap,v=.slice a n cap/\Il w a L/\L.length=n/\n<=cap/\cap<=9223372036854775807:=by
 have hl:=h.len;have hn:L.length=n:=by have:=ho.1;omega
 rcases ho.2 with ⟨rfl,rfl⟩ | ⟨g,cap,cur,rfl,_,_,hc,hm,_⟩
 ·obtain rfl:L=[]:=List.length_eq_zero_iff.1 hn
  exact ⟨none,0,rfl,Il.zero _ _,rfl,Nat.le_refl _,by omega⟩
 ·refine ⟨_,cap,rfl,⟨fun i hi=>?_⟩,hn,hc,by unfold maxLen at hm;omega⟩
  obtain ⟨ao,n',c,bo,m,d,h1,h2,h3,h4,h5⟩:=h.el i hi;refine ⟨g,0,ao,n',c,bo,m,d,rfl,?_,?_,?_,?_,h5.key,h5.kc.1,by have:=h5.kc.2;omega,h5.val,h5.vc.1,by have:=h5.vc.2;omega⟩
  ·rw [Nat.zero_add,ho.cellAt _ (by omega)];exact h1
  ·rw [Nat.zero_add,ho.cellAt _ (by omega)];exact h2
  ·rw [Nat.zero_add,ho.cellAt _ (by omega)];exact h3
  ·rw [Nat.zero_add,ho.cellAt _ (by omega)];exact h4
theorem qI (ho:w.ownsRow base 63 4 v n xs):∀ b,U8 w b->some b≠v.ownBlock:=by
 intro b ⟨cur,h1⟩ e;rcases ho.2 with ⟨rfl,_⟩ | ⟨g,cap,cur',rfl,_,hg,_⟩
 ·cases e
 ·obtain rfl:b=g:=Option.some.inj e
  rw [h1] at hg;simp only [Option.some.injEq,Obj.cells.injEq] at hg;exact absurd hg.2.1 (by decide)
theorem pT:(Tryz.prog.info? 63).map (fun i=>(i.zero,i.size,i.bytes))=some (some (.agg #[.slice none 0 0,.slice none 0 0,.int .i64 0,.int .i64 0]),4,64):=by kernel_rfl
theorem dU (w:World)(a b c d:Value)(t:TypeId):∀ j u,[a,b,c,d][j]?=some u->(w.alloc (.cells #[a,b,c,d] t)).cell? ((⟨w.heap.size,0,none⟩:Addr).add j)=some u:=by
 intro j u hu;rw [Addr.add_lit,Nat.zero_add,cell_of_row _ w.heap.size j _ _ (0,0) (heap_alloc_new w _)];simpa using hu
theorem Two.tV {row:Option Nat}(h:Two w w' R Q)(hg:w'.grownBy w'' row)(hr:∀ k,row=some k->k=R∨k=Q∨w.heap.size<=k):Two w w'' R Q :=
 ⟨hg.os.trans h.os,hg.tape.trans h.tape,hg.output.trans h.output,Nat.le_trans h.size hg.size,fun k hk h1 h2=>(hg.block k (Nat.lt_of_lt_of_le hk h.size) (fun e=>by rcases hr k e.symm with e2 | e2 | e2 <;> omega)).trans (h.block k hk h1 h2)⟩
theorem Lr.set (h:Lr w Q R po pn pc)(po':Option Addr)(pn' pc':Nat):Lr (w.setCell ⟨Q,1,none⟩ (.slice po' pn' pc')) Q R po' pn' pc':=heap_setCell_same w Q 1 _ _ _ h
theorem MQ {zs:List Int}{s:Nat × Int}(hb:Bt zs)(h:(sV zs s).2.2=0):s.2=0/\s.1+1<=(sV zs s).2.1/\(sV zs s).2.1<=max s.1 zs.length:=by
 unfold sV at h ⊢
 split
 ·rename_i h0
  rw [if_pos h0] at h
  split
  ·rename_i h1
   rw [if_pos h1] at h;obtain ⟨x,n,e⟩:∃ x n,rv (zs.drop s.1)=(x,n,0):=⟨_,_,by rw [<- h1]⟩;have hb2:=sw (zs.drop s.1) x n (hb.drop _) e;rw [e];simp only [List.length_drop] at hb2 ⊢;exact ⟨h0,by omega,by omega⟩
  ·rename_i h1
   rw [if_neg h1] at h;exact absurd h h1
 ·rename_i h0
  rw [if_neg h0] at h;exact absurd h h0
theorem MR {zs:List Int}{s:Nat × Int}{m:Int}(h:(sB zs s m).2.2=0):s.2=0/\s.1<=(sB zs s m).2.1/\(sB zs s m).2.1<=max s.1 zs.length:=by
 unfold sB at h ⊢
 split
 ·rename_i h0
  rw [if_pos h0] at h
  split
  ·rename_i h1
   rw [if_pos h1] at h;exact absurd h (by simp)
  ·rename_i h1
   exact ⟨h0,by simp,by simp only;omega⟩
 ·rename_i h0
  rw [if_neg h0] at h;exact absurd h h0
theorem MS {zs:List Int}{s:Nat × Int}{k:Nat}(h:(sN zs s k).2.2=0):s.2=0/\s.1<=(sN zs s k).2.1/\(sN zs s k).2.1<=max s.1 zs.length:=by
 unfold sN at h ⊢
 split
 ·rename_i h0
  rw [if_pos h0] at h
  split
  ·rename_i h1
   rw [if_pos h1] at h;exact absurd h (by simp)
  ·rename_i h1
   exact ⟨h0,by simp,by simp only;omega⟩
 ·rename_i h0
  rw [if_neg h0] at h;exact absurd h h0
theorem QI {zs key:List Int}{t:Nat × (Nat × Int)}(h:(tK zs key t).2.2=0):t.2.2=0/\t.2.1<=(tK zs key t).2.1/\(tK zs key t).2.1<=max t.2.1 zs.length:=by
 unfold tK at h ⊢
 split
 ·rename_i h0
  rw [if_pos h0] at h;exact MS h
 ·rename_i h0
  rw [if_neg h0] at h;exact MR h
theorem MT (hb:Bt zs)(h:(dK zs P s).2.2=0):s.1+2<=(dK zs P s).2.1/\(dK zs P s).2.1<=max s.1 zs.length:=by
 have h1:=QI (zs:=zs) (key:=(aU zs P s).1) (t:=sV zs (aU zs P s).2) h;have h2:=MQ hb h1.1;have h3:=MR (zs:=zs) (s:=(sV zs s).2) (m:=i64 (sV zs s).1) h2.1;have h4:=MQ hb h3.1;have e:(aU zs P s).2=(sB zs (sV zs s).2 (i64 (sV zs s).1)).2:=rfl;have e2:dK zs P s=tK zs (aU zs P s).1 (sV zs (aU zs P s).2):=rfl;rw [e] at h2;rw [e2];rw [e] at h1 ⊢;omega
theorem Bn {zs:List Int}(s:Nat × Int)(m:Int)(hb:Bt zs):Bt (sB zs s m).1/\(sB zs s m).1.length<=zs.length:=by
 unfold sB
 split
 ·split
  ·exact ⟨Bt.nil,by simp⟩
  ·exact ⟨(hb.drop _).take _,by simp only [List.length_take,List.length_drop];omega⟩
 ·exact ⟨Bt.nil,by simp⟩
structure Ir (x:It):Prop where
 b:Qy x
 k:x.key.length<=10000
theorem QJ {zs key:List Int}(t:Nat × (Nat × Int))(hb:Bt zs)(hk:Bt key)(hl:key.length<=10000)(ht:t.1<18446744073709551616):Ir (tK zs key t).1:=by
 unfold tK
 split
 ·have:=tU zs t.2 4 hb
  exact ⟨⟨hk,Bt.nil,by simp only;omega,by simp only;omega,by simp only;omega,by simp only;omega⟩,hl⟩
 ·exact ⟨⟨hk,(Bn _ _ hb).1,by simp only;omega,by simp only;omega,by simp only;omega,by simp only;omega⟩,hl⟩
theorem MU (s:Nat × Int)(hb:Bt zs)(hP:Bt P)(hl:P.length+zs.length<=10000):Ir (dK zs P s).1:=by
 have h1:=Bn (zs:=zs) (sV zs s).2 (i64 (sV zs s).1) hb;exact QJ (zs:=zs) (key:=(aU zs P s).1) (sV zs (aU zs P s).2) hb (hP.app h1.1) (by show (P++_).length<=_;rw [List.length_append];omega) (Bh _ _ hb)
theorem Bq (hb:Bt zs)(hP:Bt P)(hl:P.length+zs.length<=10000):∀ (n:Nat) (s:Nat × Int) (acc:List It),(∀ x∈acc,Ir x)->∀ x∈ij zs P n s acc,Ir x
 | 0,_,_,h,x,hx=>h x hx
 | n+1,s,acc,h,x,hx=>by
  rw [ij] at hx
  split at hx
  ·refine Bq hb hP hl n _ _ (fun y hy=>?_) x hx
   rcases List.mem_append.1 hy with hy | hy
   ·exact h y hy
   ·obtain rfl:=List.mem_singleton.1 hy
    exact MU s hb hP hl
  ·cases hx
theorem xd{P:List Int}(hb:Bt zs):∀ (n:Nat) (s:Nat × Int) (acc:List It),s.1<=zs.length->2*acc.length<=s.1->2*(ij zs P n s acc).length<=zs.length
 | 0,s,acc,h1,h2=>by rw [ij];omega
 | n+1,s,acc,h1,h2=>by
  rw [ij]
  split
  ·rename_i h0
   have h3:=MT hb h0;exact xd hb n _ _ (by omega) (by simp;omega)
  ·simp
theorem MV (hb:Bt zs):Bt (jW zs).2.1/\(jW zs).2.1.length<=zs.length:=Bn _ _ hb
theorem Ul (hb:Bt zs)(h:s.1<=zs.length):(sV zs s).2.1<=zs.length:=by
 unfold sV
 split
 ·split
  ·rename_i h0 h1
   obtain ⟨x,n,e⟩:∃ x n,rv (zs.drop s.1)=(x,n,0):=⟨_,_,by rw [<- h1]⟩;have hb2:=sw (zs.drop s.1) x n (hb.drop _) e;rw [e];simp only [List.length_drop] at hb2 ⊢;omega
  ·exact h
 ·exact h
theorem xe {m:Int}(h:s.1<=zs.length):(sB zs s m).2.1<=zs.length:=by
 unfold sB
 split
 ·split
  ·exact h
  ·simp only;omega
 ·exact h
theorem Br {k:Nat}(h:s.1<=zs.length):(sN zs s k).2.1<=zs.length:=by
 unfold sN
 split
 ·split
  ·exact h
  ·simp only;omega
 ·exact h
theorem MW (hb:Bt zs):(jW zs).2.2.1<=zs.length:=xe (xe (Ul hb (Br (xe (Nat.zero_le _)))))
theorem MX (hb:Bt zs)(hl:zs.length<=5000):∀ x∈parse zs,Ir x:=by
 have h:=MV hb;exact Bq hb h.1 (by omega) _ _ _ (fun x hx=>by cases hx)
theorem Ja (hb:Bt zs)(hl:zs.length<=5000):(parse zs).length<=5000:=by
 have:=xd (P:=(jW zs).2.1) hb (jW zs).1 (jW zs).2.2 [] (MW hb) (by simp);unfold parse;omega
theorem MZ (zs:List Int)(L:List It):((enc L).1=zs/\(enc L).2=0->Good zs L)/\(Good zs L->(enc L).1=zs/\(enc L).2=0):=by
 unfold enc;constructor
 ·rintro ⟨h1,h2⟩
  split at h1
  ·rename_i hw
   rw [if_pos hw] at h2
   split at h1
   ·rename_i hs
    exact ⟨hw,hs,h1⟩
   ·rename_i hs
    rw [if_neg hs] at h2;exact absurd h2 (by simp)
  ·rename_i hw
   rw [if_neg hw] at h2;exact absurd h2 hw
 ·rintro ⟨h1,h2,h3⟩
  rw [if_pos h1,if_pos h2];exact ⟨h3,rfl⟩
def Um (zs:List Int)(L:List It)(e:Int):Prop:=(e=0/\Good zs L/\zs.length=4092)∨(e=40/\L=[]/\∀ M,¬ (Good zs M/\zs.length=4092))
theorem Ei (ao:Option Addr)(n c:Nat)(w:World)(h:n≠4092):Calls Tryz.prog 180 #[.slice ao n c] w fun en w'=>en=.returned (.tuple #[.slice none 0 0,.int .i64 40])/\w'=w:=by
 go_enter Tryz.func180,Tryz.ntmps180;go_wp2
 go_ret2
 exact ⟨rfl,rfl⟩
theorem ZI (R G:Nat)(zs:List Int)(s:Nat × Int)(w:World)(h:Rd w R G zs s.1 s.2)(bp:Bt zs) :
  Calls Tryz.prog 221 #[.pointer (some ⟨R,0,none⟩)] w fun en w'=>en=.returned (.int .u8 ((sN zs s 1).1:Nat))/\Rd w' R G zs (sN zs s 1).2.1 (sN zs s 1).2.2/\w.grownBy w' (some R):=by
 obtain ⟨p,e⟩:=s
 by_cases he:e=0
 ·subst he
  by_cases h0:zs.length<p+1
  ·have e1:sN zs (p,0) 1=(0,(p,10)):=by unfold sN;rw [if_pos rfl,if_pos h0]
   rw [e1];exact xS R G zs p w h h0
  ·have e1:sN zs (p,0) 1=(le 1 (zs.drop p),(p+1,0)):=by unfold sN;rw [if_pos rfl,if_neg h0]
   rw [e1];exact pG R G zs p w h bp (by omega)
 ·have e1:sN zs (p,e) 1=(0,(p,e)):=by unfold sN;rw [if_neg he]
  rw [e1];exact vQ R G zs p e w h (by simpa using he)
def Rt (w:World)(g:Nat)(t:TypeId)(zs:List Int):Prop:=w.heap[g]?=some (.cells (zs.map (Value.int .u8)).toArray t (0,0))
theorem Rt.lt (h:Rt w g t zs):g<w.heap.size:=(Array.getElem?_eq_some_iff.1 h).1
theorem Rt.cell {zs:List Int}(h:Rt w g t zs)(i:Nat)(hi:i<zs.length):w.cell? ⟨g,i,none⟩=some (.int .u8 (zs.getD i 0)):=by
 rw [cell_of_row w g i _ _ (0,0) h];simp [List.getD,List.getElem?_eq_getElem hi]
theorem Rt.AL (h:Rt w g t zs)(off n cap:Nat)(hn:off+n<=zs.length):ai w (some ⟨g,off,none⟩) n cap ((zs.drop off).take n):=by
 refine ai.eZ (by rw [List.length_take,List.length_drop];omega) fun i hi=>?_
 rw [h.cell (off+i) (by omega)];simp [List.getD,hi]
theorem Rt.all (h:Rt w g t zs)(n cap:Nat)(hn:n=zs.length):ai w (some ⟨g,0,none⟩) n cap zs:=by
 have:=h.AL 0 n cap (by omega)
 rwa [List.drop_zero,List.take_of_length_le (by omega)] at this
theorem Rt.kept {row:Option Nat}(h:Rt w g t zs)(hg:w.grownBy w' row)(hne:some g≠row):Rt w' g t zs:=(hg.block g h.lt hne).trans h
theorem Rt.ae (h:Rt w g t zs)(hg:w.grownBy w' none):Rt w' g t zs:=h.kept hg (by simp)
structure Rp (w w':World)(g:Nat)(t:TypeId)(xs:List Value):Prop where
 row:w'.heap[g]?=some (.cells xs.toArray t (0,0))
 Ug:∀ k,k≠g->w'.heap[k]?=w.heap[k]?
 size:w'.heap.size=w.heap.size
 os:w'.os=w.os
 tape:w'.tape=w.tape
 output:w'.output=w.output
theorem Rp.grown (h:Rp w w' g t xs):w.grownBy w' (some g) :=
 ⟨h.os,h.tape,h.output,by rw [h.size];exact Nat.le_refl _,fun k _ hne=>h.Ug k (fun e=>hne (by rw [e]))⟩
theorem wm {a:Act}{K:Act->World->Prop}{Q:Exit->Act->World->Prop}(d s:Operand)
  (ho:o.op=.call { callee:=.builtin .copy,args:=#[d,s],argTypes:=#[25,25] })
  (dp sp:Option Addr) (dLen dCap sLen sCap:Nat) (hd:a.eval d=.slice dp dLen dCap) (hs:a.eval s=.slice sp sLen sCap)
  (g off:Nat) (t:TypeId) (cur:List Value) (hg:w.heap[g]?=some (.cells cur.toArray t (0,0))) (cs:List Value) (hn:cs.length=Nat.min sLen dLen)
  (hpos:0<cs.length->dp=some ⟨g,off,none⟩/\∃ ad,sp=some ad/\∀ j v,cs[j]?=some v->w.cell? (ad.add j)=some v)
  (hfit:off+cs.length<=cur.length) (h1:∀ v∈cs,v.oneCell'=true) (k:Nat) (hk:cs.length=k)
  (h:∀ w',Rp w w' g t (splice cur off cs)->K (a.put o.dst (.int .i64 (k:Int))) w'):Oper.wp Tryz.prog o a w K Q:=by
 obtain ⟨i0,hi,hz0,hz1,hz2⟩:=info_parts bF;have hsz:(Tryz.prog.info? 5).map (·.size)=some 1:=by rw [hi];exact congrArg some hz1
 subst hk
 by_cases h0:cs.length=0
 ·obtain rfl:cs=[]:=List.eq_nil_of_length_eq_zero h0
  have hrun:=run_copy_none (P:=Tryz.prog) w 25 25 o.type 5 dp sp dLen dCap sLen sCap Tryz.underlying25 hsz (by simpa using hn.symm);unfold Oper.wp;simp [execOp,ho,resolve,invoke,builtin,hd,hs,hrun,Result.andThen];exact h w ⟨by simpa [splice] using hg,fun _ _=>rfl,rfl,rfl,rfl,rfl⟩
 ·obtain ⟨rfl,ad,rfl,hsrc⟩:=hpos (by omega)
  have hrun:=run_copy_row (P:=Tryz.prog) w 25 25 o.type 5 g off dLen dCap ad sLen sCap cur.toArray t cs Tryz.underlying25 hsz hg hn hsrc (by simpa using hfit) h1;unfold Oper.wp;simp [execOp,ho,resolve,invoke,builtin,hd,hs,hrun,Result.andThen];exact h _ ⟨by simpa [splice] using setRow_heap w g _ _ _ _ hg,fun k hk=>setRow_other w g k _ hk,by simp [World.setRow],rfl,rfl,rfl⟩
theorem nV {a:Act}{K:Act->World->Prop}{Q:Exit->Act->World->Prop}(d s:Operand)
  (ho:o.op=.call { callee:=.builtin .copy,args:=#[d,s],argTypes:=#[25,25] })
  (dp sp:Option Addr) (dLen dCap sLen sCap:Nat) (hd:a.eval d=.slice dp dLen dCap) (hs:a.eval s=.slice sp sLen sCap)
  (g off:Nat) (t:TypeId) (cs ts:List Int) (hg:Rt w g t cs) (hb:ai w sp sLen sCap ts) (hn:sLen<=dLen) (VU:0<sLen->dp=some ⟨g,off,none⟩) (hfit:off+sLen<=cs.length)
  (h:∀ w',Rt w' g t (splice cs off ts)->w.grownBy w' (some g)->w'.heap.size=w.heap.size->K (a.put o.dst (.int .i64 (sLen:Int))) w'):Oper.wp Tryz.prog o a w K Q:=by
 have hl:=hb.len;refine wm d s ho dp sp dLen dCap sLen sCap hd hs g off t (cs.map (Value.int .u8)) hg (ts.map (Value.int .u8)) (by rw [List.length_map,hl];exact (Nat.min_eq_left hn).symm) (fun h0=>?_) (by rw [List.length_map,List.length_map];omega) (ints_oneCell _ _) sLen (by rw [List.length_map,hl]) fun w' hro=>h w' ?_ hro.grown hro.size
 ·refine ⟨VU (by simpa [hl] using h0),?_⟩
  cases sp with
  | none=>have:=(hb.nil rfl).1;simp [hl] at h0;omega
  | some ad=>exact ⟨ad,rfl,hb.cells ad rfl⟩
 ·show _=_
  rw [<- mI];exact hro.row
theorem bX {a:Act}{K:Act->World->Prop}{Q:Exit->Act->World->Prop}{E:Prop}(hgd:o.guard=none)(d s:Operand)
  (ho:o.op=.call { callee:=.builtin .copy,args:=#[d,s],argTypes:=#[25,25] })
  (dp sp:Option Addr) (dLen dCap sLen sCap:Nat) (hd:a.eval d=.slice dp dLen dCap) (hs:a.eval s=.slice sp sLen sCap)
  (g off:Nat) (t:TypeId) (cs ts:List Int) (hg:Rt w g t cs) (hb:ai w sp sLen sCap ts) (hn:sLen<=dLen) (VU:0<sLen->dp=some ⟨g,off,none⟩) (hfit:off+sLen<=cs.length)
  (h:∀ w',Rt w' g t (splice cs off ts)->w.grownBy w' (some g)->w'.heap.size=w.heap.size->K (a.put o.dst (.int .i64 (sLen:Int))) w') :
  if Region.wanted o (yielded ops a.tmps)=true then Oper.wp Tryz.prog o a w K Q else E:=by
 have hw:Region.wanted o (yielded ops a.tmps)=true:=by simp [Region.wanted,hgd]
 rw [if_pos hw];exact nV d s ho dp sp dLen dCap sLen sCap hd hs g off t cs ts hg hb hn VU hfit h
theorem aS {a:Act}{Q:Exit->Act->World->Prop}(hgd:o.guard=none)(d s:Operand)
  (ho:o.op=.call { callee:=.builtin .copy,args:=#[d,s],argTypes:=#[25,25] })
  (dp sp:Option Addr) (dLen dCap sLen sCap:Nat) (hd:a.eval d=.slice dp dLen dCap) (hs:a.eval s=.slice sp sLen sCap)
  (g off:Nat) (t:TypeId) (cs ts:List Int) (hg:Rt w g t cs) (hb:ai w sp sLen sCap ts) (hn:sLen<=dLen) (VU:0<sLen->dp=some ⟨g,off,none⟩) (hfit:off+sLen<=cs.length)
  (h:∀ w',Rt w' g t (splice cs off ts)->w.grownBy w' (some g)->w'.heap.size=w.heap.size->wpList Tryz.prog ops Q rest (a.put o.dst (.int .i64 (sLen:Int))) w'):wpList Tryz.prog ops Q (o::rest) a w:=by
 refine wpList_plain hgd fun K hK=>?_
 exact nV d s ho dp sp dLen dCap sLen sCap hd hs g off t cs ts hg hb hn VU hfit fun w' h1 h2 h3=>hK _ _ (h w' h1 h2 h3)
structure Kd where
 no:Int
 keys:Int
def dO:Kd:=⟨0,0⟩
structure Sk where
 sep:List Int
 kid:Kd
def jn:Sk:=⟨[],dO⟩
def aF:List (List Int)->Nat
 | []=>0
 | x::L=>bw x x.length L
def Di (p:Nat)(s:List Int):Nat:=vl (s.length - p)+(s.length - p)+8
def cJ (p:Nat):List (List Int)->Nat
 | []=>0
 | x::L=>2+Di p x+cJ p L
def bsize (L:List (List Int)):Nat:=12+vl (aF L)+aF L+cJ (aF L) L
def wk (k:Kd):Bool:=decide (k.no<2) || decide (524287<=k.no) || decide (k.keys<1) || decide (4294967295<k.keys)
def cW (s:List Int):Bool:=!(decide (1<=s.length) && decide (s.length<=255))
def bUp (L:List (List Int)):Prop:=∀ i,i<L.length - 1->cL (L.getD i []) (L.getD (i+1) [])<0
def nW (L:List (List Int)):Bool:=(List.range (L.length - 1)).all fun i=>decide (cL (L.getD i []) (L.getD (i+1) [])<0)
theorem iO (L:List (List Int)):nW L=true↔bUp L:=by
 unfold nW bUp;simp
def bA (lv:Int)(L:List (List Int))(K:List Kd):Int :=
 if lv<1∨15<lv∨K.length≠L.length+1 then 50 else if K.any wk then 51 else if L.any cW then 41 else if nW L then (if 4092<bsize L then 42 else 0) else 30
def aj (M:List Sk):List (List Int):=M.map Sk.sep
def kids (k:Kd)(M:List Sk):List Kd:=k::M.map Sk.kid
def kb (k:Kd):List Int:=lb 4 k.no.toNat++lb 4 k.keys.toNat
def vH (p:Nat)(x:Sk):List Int:=ah (x.sep.length - p)++(x.sep.drop p++kb x.kid)
def bV (p a:Nat):List Sk->List Int
 | []=>[]
 | x::L=>lb 2 a++bV p (a+(vH p x).length) L
def aI (p:Nat):List Sk->List Int
 | []=>[]
 | x::L=>vH p x++aI p L
def bg (lv:Int)(M:List Sk):List Int:=lb 1 2++(lb 1 lv.toNat++(lb 2 (M.length+1)++(ah (aF (aj M))++(M.headD jn).sep.take (aF (aj M)))))
def rJ (lv:Int)(M:List Sk):Nat:=(bg lv M).length+2*M.length
def dV (lv:Int)(k:Kd)(M:List Sk):List Int:=bg lv M++(bV (aF (aj M)) (rJ lv M+8) M++(kb k++aI (aF (aj M)) M))
def eO (lv:Int)(k:Kd)(M:List Sk):List Int:=dV lv k M++List.replicate (4092 - (dV lv k M).length) 0
def kC (zs:List Int)(lv:Int)(k:Kd)(M:List Sk):Prop:=bA lv (aj M) (kids k M)=0/\eO lv k M=zs
theorem gK (k:Kd):(kb k).length=8:=by unfold kb;rw [List.length_append,aL,aL]
theorem cU :∀ x∈L,aF L<=x.length/\x.take (aF L)=(L.headD []).take (aF L):=by
 cases L with
 | nil=>intro x h;cases h
 | cons y L =>
  intro x h;have hp:aF (y::L)=bw y y.length L:=rfl;rcases List.mem_cons.1 h with rfl | h
  ·exact ⟨by rw [hp];exact fF _ _ _,rfl⟩
  ·have h1:aF (y::L)<=gy y x:=by rw [hp];exact jV _ _ _ _ h
   exact ⟨Nat.le_trans h1 (sy _ _),(gI _ _ _ h1).symm⟩
theorem dW {M:List Sk}{x:Sk}(h:x∈M):x.sep∈aj M:=List.mem_map_of_mem h
theorem Jb (M:List Sk):(aj M).headD []=(M.headD jn).sep:=by cases M <;> rfl
theorem bY (M:List Sk):(aj M).length=M.length:=List.length_map ..
theorem dX (k:Kd)(M:List Sk):(kids k M).length=M.length+1:=by unfold kids;simp
theorem Na {M:List Sk}{x:Sk}(h:x∈M):(M.headD jn).sep.take (aF (aj M))++x.sep.drop (aF (aj M))=x.sep:=by
 rw [<- Jb,<- (cU x.sep (dW h)).2,List.take_append_drop]
theorem Nb (p:Nat)(x:List Int):Di p x<=x.length+18:=by
 have h1:=eI (x.length - p);unfold Di;omega
theorem Bu (p K:Nat):∀ L:List (List Int),(∀ x∈L,x.length<=K)->cJ p L<=L.length*(K+20)
 | [],_=>by simp [cJ]
 | x::L,h=>by
  have h1:=Nb p x;have h2:=h x List.mem_cons_self;have h3:=Bu p K L (fun y hy=>h y (List.mem_cons_of_mem _ hy));rw [cJ,List.length_cons,Nat.add_mul];omega
theorem mK (p:Nat):∀ (L:List (List Int)) (i:Nat),i<L.length->cJ p (L.take (i+1))=cJ p (L.take i)+(2+Di p (L.getD i []))
 | x::L,0,_=>by simp [cJ]
 | x::L,i+1,h=>by
  have:=mK p L i (by simpa using h);simp only [List.take_succ_cons,cJ,List.getD_cons_succ];omega
structure Fit (lv:Int)(L:List (List Int))(K:List Kd):Prop where
 l1:1<=lv
 l2:lv<=15
 len:K.length=L.length+1
 kid:∀ k∈K,wk k=false
 sep:∀ s∈L,cW s=false
 up:bUp L
 size:bsize L<=4092
theorem dy {K:List Kd}:bA lv L K=0↔Fit lv L K:=by
 constructor
 ·intro h
  unfold bA at h
  split at h
  ·omega
  ·rename_i h0
   split at h
   ·omega
   ·rename_i h1
    split at h
    ·omega
    ·rename_i h2
     split at h
     ·rename_i h3
      split at h
      ·omega
      ·rename_i h4
       exact ⟨by omega,by omega,by omega,fun x hx=>by simpa using fun e=>h1 (List.any_eq_true.2 ⟨x,hx,e⟩),fun x hx=>by simpa using fun e=>h2 (List.any_eq_true.2 ⟨x,hx,e⟩),(iO L).1 h3,by omega⟩
     ·omega
 ·intro h
  have h1:K.any wk=false:=by
   rw [List.any_eq_false];intro x hx;rw [h.kid x hx];simp
  have h2:L.any cW=false:=by
   rw [List.any_eq_false];intro x hx;rw [h.sep x hx];simp
  have a1:=h.l1;have a2:=h.l2;have a3:=h.len;unfold bA;rw [if_neg (by omega),h1,h2,(iO L).2 h.up];simp [h.size]
theorem tW {k:Kd}(h:wk k=false):2<=k.no/\k.no<524287/\1<=k.keys/\k.keys<=4294967295:=by
 unfold wk at h;simp at h;omega
theorem eA {s:List Int}(h:cW s=false):1<=s.length/\s.length<=255:=by
 unfold cW at h;simp at h;omega
theorem ym (p:Nat)(x:Sk):(vH p x).length=Di p x.sep:=by
 unfold vH Di vl;rw [List.length_append,List.length_append,gK,List.length_drop];omega
theorem dz (p:Nat):∀ (L:List Sk) (a:Nat),(bV p a L).length=2*L.length
 | [],_=>rfl
 | x::L,a=>by rw [bV,List.length_append,aL,dz p L,List.length_cons];omega
theorem tX (p:Nat):∀ M:List Sk,(aI p M).length+2*M.length=cJ p (aj M)
 | []=>rfl
 | x::M=>by
  have:=tX p M;rw [aI,List.length_append,ym,List.length_cons]
  show _=2+Di p x.sep+cJ p (aj M)
  omega
theorem pU (lv:Int)(M:List Sk):(bg lv M).length=4+vl (aF (aj M))+aF (aj M):=by
 have:aF (aj M)<=(M.headD jn).sep.length:=by
  cases M with
  | nil=>exact Nat.zero_le _
  | cons x L=>exact (cU x.sep (dW (M:=x::L) List.mem_cons_self)).1
 unfold bg vl;simp only [List.length_append,aL,List.length_take];omega
theorem pV (lv:Int)(k:Kd)(M:List Sk):(dV lv k M).length=bsize (aj M):=by
 have:=tX (aF (aj M)) M;unfold dV bsize;rw [List.length_append,List.length_append,List.length_append,dz,pU,gK];omega
theorem gA {lv:Int}{k:Kd}{M:List Sk}(h2:bsize (aj M)<=4092):(eO lv k M).length=4092:=by
 unfold eO;rw [List.length_append,List.length_replicate,pV];omega
theorem iP {M:List Sk}(h:∀ s∈aj M,cW s=false)(h2:bsize (aj M)<=4092):M.length<=400/\aF (aj M)<=255:=by
 have hs:∀ L:List (List Int),11*L.length<=cJ (aF (aj M)) L:=by
  intro L
  induction L with
  | nil=>simp
  | cons x L ih =>
   have:=DN (x.length - aF (aj M));rw [cJ,List.length_cons];unfold Di;omega
 have h3:=hs (aj M);rw [bY] at h3;have h4:=DN (aF (aj M));refine ⟨by unfold bsize at h2;omega,?_⟩;cases M with
 | nil=>exact Nat.zero_le _
 | cons x L =>
  have a:=(cU x.sep (dW (M:=x::L) List.mem_cons_self)).1;have b:=(eA (h x.sep (dW (M:=x::L) List.mem_cons_self))).2;omega
def sK (zs:List Int)(s:Nat × Int):Kd × (Nat × Int):=(⟨(sN zs s 4).1,(sN zs (sN zs s 4).2 4).1⟩,(sN zs (sN zs s 4).2 4).2)
def kD (zs P:List Int)(s:Nat × Int):Sk × (Nat × Int):=(⟨(aU zs P s).1,(sK zs (aU zs P s).2).1⟩,(sK zs (aU zs P s).2).2)
def iu (zs P:List Int):Nat->Nat × Int->List Sk->List Sk
 | 0,_,acc=>acc
 | n+1,s,acc=>if (kD zs P s).2.2=0 then iu zs P n (kD zs P s).2 (acc++[(kD zs P s).1]) else acc++[(kD zs P s).1]
def eC (zs:List Int):Nat × (Nat × Int):=sN zs (sB zs (0,0) 1).2 1
def cy (zs:List Int):Nat × (Nat × Int):=sN zs (eC zs).2 2
def jM (zs:List Int):List Int × (Nat × Int):=aU zs [] (cy zs).2
def pW (zs:List Int):Kd × (Nat × Int):=sK zs (sB zs (jM zs).2 (2*((cy zs).1 - 1:Int))).2
def fk (zs:List Int):List Sk:=iu zs (jM zs).1 ((cy zs).1 - 1) (pW zs).2 []
theorem Nc{t:List Int}{k:Kd}(hk:wk k=false)(h:zs.drop p=kb k++t)(hp:p<=zs.length):sK zs (p,0)=(k,(p+8,0)):=by
 have a:=tW hk;have e:=h;unfold kb at e;rw [List.append_assoc] at e;have r1:=wV e hp;have e1:=bJ e;have p1:=bn e hp;rw [aL] at e1 p1;have r2:=wV e1 p1;unfold sK;rw [r1];simp only;rw [r2];obtain ⟨no,ks⟩:=k;simp only at a ⊢;rw [Nat.mod_eq_of_lt (by omega),Nat.mod_eq_of_lt (by omega),Int.toNat_of_nonneg (by omega),Int.toNat_of_nonneg (by omega)]
theorem Nd{P y t:List Int}(h:zs.drop p=ah y.length++(y++t))(hy:y.length<9223372036854775808)(hp:p<=zs.length):aU zs P (p,0)=(P++y,(p+vl y.length+y.length,0)):=by
 have r1:=Gu (x:=y.length) h (by omega);have e1:=bJ h;have p1:=bn h hp;have r2:=qC e1 p1 (i64 y.length) (pL hy);unfold aU;rw [r1];simp only [vl,r2]
theorem Nf{t:List Int}{q:Nat}{x:Sk}(h1:cW x.sep=false)(h2:wk x.kid=false)(hk:P++x.sep.drop q=x.sep)(h:zs.drop p=vH q x++t)(hp:p<=zs.length) :
  kD zs P (p,0)=(x,(p+(vH q x).length,0)):=by
 have a:=eA h1;have e:=h;unfold vH at e;simp only [List.append_assoc] at e;have hd:(x.sep.drop q).length=x.sep.length - q:=List.length_drop ..;have e':=e;rw [<- hd] at e';have r1:=Nd (P:=P) e' (by omega) hp;have e1:=bJ e;have p1:=bn e hp;have e2:=bJ e1;have p2:=bn e1 p1;have r2:=Nc h2 e2 p2;unfold kD;rw [r1,hk];simp only;rw [hd];rw [hd] at r2;unfold vl;rw [r2,ym];unfold Di vl;simp only [Prod.mk.injEq];refine ⟨trivial,?_,trivial⟩;omega
theorem Bv{P t:List Int}{q:Nat}:∀ {M:List Sk} {p:Nat} (acc:List Sk),(∀ x∈M,cW x.sep=false)->(∀ x∈M,wk x.kid=false)->(∀ x∈M,P++x.sep.drop q=x.sep)->zs.drop p=aI q M++t->p<=zs.length ->
  iu zs P M.length (p,0) acc=acc++M
 | [],_,acc,_,_,_,_,_=>by simp [iu]
 | x::L,p,acc,h1,h2,hk,h,hp=>by
  rw [aI,List.append_assoc] at h;have r:=Nf (h1 x List.mem_cons_self) (h2 x List.mem_cons_self) (hk x List.mem_cons_self) h hp;rw [List.length_cons,iu,r,if_pos rfl,Bv (t:=t) (q:=q) _ (fun y hy=>h1 y (List.mem_cons_of_mem _ hy)) (fun y hy=>h2 y (List.mem_cons_of_mem _ hy)) (fun y hy=>hk y (List.mem_cons_of_mem _ hy)) (bJ h) (bn h hp)];simp
theorem kE {k:Kd}{M:List Sk}(h:kC zs lv k M):((eC zs).1:Int)=lv/\(pW zs).1=k/\fk zs=M/\(cy zs).1=M.length+1:=by
 obtain ⟨hw,hb⟩:=h;have hf:=dy.1 hw;obtain ⟨hm,hp⟩:=iP hf.sep hf.size;have f1:=hf.l1;have f2:=hf.l2;have adY:wk k=false:=hf.kid k List.mem_cons_self;have hks:∀ x∈M,wk x.kid=false:=fun x hx=>hf.kid _ (List.mem_cons_of_mem _ (List.mem_map_of_mem hx))
 have XV:∀ x∈M,cW x.sep=false:=fun x hx=>hf.sep _ (dW hx)
 have hl:zs.length=4092:=by rw [<- hb];exact gA hf.size
 have hpl:((M.headD jn).sep.take (aF (aj M))).length=aF (aj M):=by
  rw [List.length_take];cases M with
  | nil=>rfl
  | cons x L=>have:=(cU x.sep (dW (M:=x::L) List.mem_cons_self)).1;rw [List.headD_cons];omega
 have e0:zs.drop 0=lb 1 2++(lb 1 lv.toNat++(lb 2 (M.length+1)++(ah (aF (aj M))++((M.headD jn).sep.take (aF (aj M))++(bV (aF (aj M)) (rJ lv M+8) M++(kb k++(aI (aF (aj M)) M++List.replicate (4092 - (dV lv k M).length) 0))))))):=by
  rw [List.drop_zero,<- hb];unfold eO;generalize (dV lv k M).length=z;unfold dV;generalize rJ lv M=y;unfold bg;simp only [List.append_assoc]
 have r0:=qC e0 (Nat.zero_le _) 1 rfl;have e1:=bJ e0;have p1:=bn e0 (Nat.zero_le _);have r1:=wV e1 p1;have e2:=bJ e1;have p2:=bn e1 p1;rw [aL 1 lv.toNat] at e2 p2;have r2:=wV e2 p2;have e3:=bJ e2;have p3:=bn e2 p2;rw [aL 2] at e3 p3;have e3':=e3;rw [<- hpl] at e3';rw [hpl] at e3';have r3:=Nd (P:=[]) (y:=(M.headD jn).sep.take (aF (aj M))) (by rw [hpl];exact e3) (by omega) p3;have e4:=bJ e3;have p4:=bn e3 p3;have e5:=bJ e4;have p5:=bn e4 p4;have r5:=qC e5 p5 (((2*M.length:Nat)):Int) (by rw [dz]);have e6:=bJ e5;have p6:=bn e5 p5;have r6:=Nc adY e6 p6;have e7:=bJ e6;have p7:=bn e6 p6;rw [gK] at e7 p7;have r7:=Bv (P:=(M.headD jn).sep.take (aF (aj M))) (q:=aF (aj M)) [] XV hks (fun x hx=>Na hx) e7 p7
 have q1:eC zs=(lv.toNat,(0+(lb 1 2).length+1,0)):=by
  unfold eC;rw [r0];simp only;rw [r1,Nat.mod_eq_of_lt (by omega)]
 have q2:cy zs=(M.length+1,(0+(lb 1 2).length+1+2,0)):=by
  unfold cy;rw [q1];simp only;rw [r2,Nat.mod_eq_of_lt (by omega)]
 have q3:jM zs=((M.headD jn).sep.take (aF (aj M)),(0+(lb 1 2).length+1+2+(ah (aF (aj M))).length+((M.headD jn).sep.take (aF (aj M))).length,0)):=by
  unfold jM;rw [q2];simp only;rw [r3,List.nil_append,hpl]
  rfl
 have q4:pW zs=(k,(0+(lb 1 2).length+1+2+(ah (aF (aj M))).length+((M.headD jn).sep.take (aF (aj M))).length+(bV (aF (aj M)) (rJ lv M+8) M).length+8,0)):=by
  unfold pW;rw [q3,q2];simp only;have e:(2*(((M.length+1:Nat):Int) - 1))=((2*M.length:Nat):Int):=by omega
  rw [e,r5];simp only;rw [r6]
 refine ⟨?_,?_,?_,?_⟩
 ·rw [q1];simp only;omega
 ·rw [q4]
 ·unfold fk
  rw [q4,q3,q2];simp only [Nat.add_sub_cancel];rw [r7,List.nil_append]
 ·rw [q2]
theorem Jc {GJ:Int}{k k':Kd}{M M':List Sk}(h:kC zs lv k M)(g:kC zs GJ k' M'):lv=GJ/\k=k'/\M=M':=by
 have a:=kE h;have b:=kE g;exact ⟨a.1.symm.trans b.1,a.2.1.symm.trans b.2.1,a.2.2.1.symm.trans b.2.2.1⟩
def Fl (w:World)(R G p:Nat):Prop:=w.heap[R]?=some (.cells #[.pointer (some ⟨G,0,none⟩),.int .i64 p] 249 (0,0))
theorem Fl.cells {w:World}(h:Fl w R G p):w.cell? ⟨R,0,none⟩=some (.pointer (some ⟨G,0,none⟩))/\w.cell? ⟨R,1,none⟩=some (.int .i64 p)/\w.frozen? ⟨R,1,none⟩=false:=by
 refine ⟨?_,?_,frozen_of_row w R 1 _ _ h⟩
 ·rw [cell_of_row w R 0 _ _ _ h];rfl
 ·rw [cell_of_row w R 1 _ _ _ h];rfl
theorem Fl.lt (h:Fl w R G p):R<w.heap.size:=(Array.getElem?_eq_some_iff.1 h).1
theorem Fl.set (h:Fl w R G p)(q:Nat)(v:Int)(hv:v=(q:Int)):Fl (w.setCell ⟨R,1,none⟩ (.int .i64 v)) R G q:=by
 have:=heap_setCell_same w R 1 _ _ (.int .i64 v) h;subst hv;exact this
theorem Fl.kept {R G:Nat}{row:Option Nat}(h:Fl w R G p)(hg:w.grownBy w' row)(hne:some R≠row):Fl w' R G p:=(hg.block R h.lt hne).trans h
theorem Fl.two (h:Fl w R' G p)(hg:Two w w' R G)(h1:R'≠R)(h2:R'≠G):Fl w' R' G p:=(hg.block R' h.lt h1 h2).trans h
theorem Fl.qt (h:Fl w R G p)(q:Qt w w'):Fl w' R G p:=by
 show _=_
 rw [q.heap];exact h
theorem nX (R G p n:Nat)(w:World)(hw:Fl w R G p)(hp:p+n<=4092) :
  Calls Tryz.prog 251 #[.pointer (some ⟨R,0,none⟩),.int .i64 n] w fun en w'=>(∃ ao,en=.returned (.slice ao n n)/\(0<n->ao=some ⟨G,p,none⟩)/\ao≠none)/\Fl w' R G (p+n)/\w.grownBy w' (some R)/\w'.heap.size=w.heap.size:=by
 obtain ⟨c0,c1,f1⟩:=hw.cells;have hwr:Hid (IntKind.i64.wrap ((p:Int)+(n:Int))=((p+n:Nat):Int)):=by show _=_;simp [IntKind.wrap,IntKind.bits,IntKind.signed];omega
 have HF:Hid (∀ v:Int,v=((p+n:Nat):Int)->Fl (w.setCell ⟨R,1,none⟩ (.int .i64 v)) R G (p+n)/\w.grownBy (w.setCell ⟨R,1,none⟩ (.int .i64 v)) (some R)/\(w.setCell ⟨R,1,none⟩ (.int .i64 v)).heap.size=w.heap.size) :=
  fun v hv=>⟨hw.set _ v hv,ay _ _ _ _,by simp⟩
 have g1:(p:Int)+(n:Int)<=4092:=by omega
 have g2:(0:Int)<=(p:Int):=by omega
 have g3:(0:Int)<=(n:Int):=by omega
 have g4:(0:Int)<=(p:Int)+(n:Int):=by omega
 have g5:(p:Int)<=(p:Int)+(n:Int):=by omega
 have g6:(p:Int)<=4092:=by omega
 clear hw
 by_cases h0:n=0
 ·subst h0
  go_enter Tryz.func251,Tryz.ntmps251;go_wp2
  go_quiet (fail)
  go_wp2;go_ret;obtain ⟨x1,x2,x3⟩:=HF.out _ (by first | rfl | omega);exact ⟨⟨_,rfl,fun h=>by omega,by simp⟩,x1.qt (Qt.drewN _ _),gQ x2 ((Qt.drewN _ _).grown _),x3⟩
 ·have h1:(0:Int)<(n:Int):=by omega
  go_enter Tryz.func251,Tryz.ntmps251;go_wp2
  go_quiet (fail)
  go_wp2;go_ret;obtain ⟨x1,x2,x3⟩:=HF.out _ (by first | rfl | omega);exact ⟨⟨some ⟨G,p,none⟩,by show Ending.returned (Value.slice _ (p+n - p) (p+n - p))=_;rw [Nat.add_sub_cancel_left],fun h=>rfl,by simp⟩,x1.qt (Qt.drewN _ _),gQ x2 ((Qt.drewN _ _).grown _),x3⟩
theorem Two.yn (h:w.grownBy w' (some G)):Two w w' R G:=⟨h.os,h.tape,h.output,h.size,fun k hk _ h2=>h.block k hk (fun e=>h2 (Option.some.inj e))⟩
theorem Two.nY {R G:Nat}(h:w.grownBy w' (some R)):Two w w' R G:=⟨h.os,h.tape,h.output,h.size,fun k hk h1 _=>h.block k hk (fun e=>h1 (Option.some.inj e))⟩
theorem iQ (R G p:Nat)(cs:List Int)(ao:Option Addr)(n c:Nat)(zs:List Int)(w:World)(hw:Fl w R G p)(hr:Rt w G 210 cs)(hcs:cs.length=4092)(hb:ai w ao n c zs)(sI:R≠G)(hbR:∀ ad,ao=some ad->0<n->ad.block≠R)(hp:p+n<=4092) :
  Calls Tryz.prog 249 #[.pointer (some ⟨R,0,none⟩),.slice ao n c] w fun en w'=>en=.returned (.tuple #[])/\Fl w' R G (p+n)/\Rt w' G 210 (splice cs p zs)/\Two w w' R G/\w'.heap.size=w.heap.size:=by
 have HR:=hJ hr;have HB:=hJ hb;have HW:=hJ hw;clear hr hb hw;go_enter Tryz.func249,Tryz.ntmps249
 go_wp2_with fail
 refine (nX R G p n _ HW.out hp).mono ?_;rintro en w1 ⟨⟨bo,rfl,ZJ,hbn⟩,Dy,hg1,hs1⟩;have R1:=hJ (HR.out.kept hg1 (fun e=>sI (Option.some.inj e).symm));have B1:=hJ (HB.out.kept hg1 (fun ad e h e2=>hbR ad e h (Option.some.inj e2)));have F1:=hJ Dy;have G1:=hJ hg1;have S1:=hJ hs1;clear Dy hg1 hs1 HR HB HW
 go_wp2_with (refine aS rfl _ _ rfl _ _ _ _ _ _ rfl rfl G p 210 cs zs R1.out B1.out (Nat.le_refl _) ZJ (by omega) ?_)
 intro w2 hr2 hg2 hs2;go_wp2;refine Go.Great.bodyPost_end0 rfl rfl ?_;exact ⟨rfl,F1.out.kept hg2 (fun e=>sI (Option.some.inj e)),hr2,(Two.nY G1.out).trans (Two.yn hg2),hs2.trans S1.out⟩
theorem tY (G q:Nat)(cs:List Int)(k:Kd)(no ks:Int)(w:World)(hr:Rt w G 210 cs)(hk:wk k=false)(h1:k.no=no)(h2:k.keys=ks)(hq:q+8<=cs.length) :
  Calls Tryz.prog 250 #[.slice (some ⟨G,q,none⟩) 8 8,.agg #[.int .i64 no,.int .i64 ks]] w fun en w'=>en=.returned (.tuple #[])/\Rt w' G 210 (splice cs q (kb k))/\w.grownBy w' (some G):=by
 have hp:=tW hk;obtain ⟨a,ha⟩:∃ a:Nat,no=(a:Int):=⟨no.toNat,by omega⟩;obtain ⟨b,hb⟩:∃ b:Nat,ks=(b:Int):=⟨ks.toNat,by omega⟩;subst ha hb;have ha2:a<4294967296:=by omega
 have hb2:b<4294967296:=by omega
 have hwa:IntKind.u32.wrap (a:Int)=(a:Int):=by simp [IntKind.wrap,IntKind.bits,IntKind.signed];omega
 have hwb:IntKind.u32.wrap (b:Int)=(b:Int):=by simp [IntKind.wrap,IntKind.bits,IntKind.signed];omega
 have HKB:Hid (kb k=lb 4 a++lb 4 b):=by show _=_;unfold kb;rw [h1,h2];rfl
 have Jd:Hid (splice (splice cs q (lb 4 a)) (q+4) (lb 4 b)=splice cs q (lb 4 a++lb 4 b)):=by
  have:=dx (cs:=cs) (xs:=lb 4 a) (ys:=lb 4 b) (p:=q) (by rw [aL,aL];omega);rw [aL] at this;exact this
 have MJ:Hid ((splice cs q (lb 4 a)).length=cs.length):=aJ (by rw [aL];omega);have ga:=World.grownBy_alloc w (.cells #[.int .i64 (a:Int),.int .i64 (b:Int)] 69) none;have k1:Hid ((w.alloc (.cells #[.int .i64 (a:Int),.int .i64 (b:Int)] 69)).cell? ⟨w.heap.size,1,none⟩=some (.int .i64 (b:Int))):=by show _=_;rw [cell_of_row _ w.heap.size 1 _ _ (0,0) (heap_alloc_new w _)];rfl
 have HG:=hJ ga;have HR:=hJ (hr.ae ga);have ZK:=hr.lt;have hBl:w.heap.size<(w.alloc (.cells #[.int .i64 (a:Int),.int .i64 (b:Int)] 69)).heap.size:=by simp
 have eT:Hid (w.heap.size≠G):=fun e=>by omega
 clear hr hk h1 h2 hp ga ZK;go_enter Tryz.func250,Tryz.ntmps250
 go_wp2_with fail
 go_region_law
  (first
   | (have z2:=R2;refine bX rfl (.tmp 5) (.tmp 9) (by rfl) _ _ _ _ _ _ (by rfl) (by rfl) G q 210 cs (lb 4 a) (by exact R2) (by exact hb3) (by omega) (fun _=>rfl) (by omega) ?_;intro w3 hr3 hg3 hs3;have d1:=hg3.cell e1 (fun e=>eT.out (Option.some.inj e)))
   | (go_simp;go_at_call 215;refine (fQ a _ ha2).mono ?_;rintro en w2 ⟨rfl,ZL,hg2,hs2⟩;have hb3:ai w2 (some ⟨w.heap.size+1,0,none⟩) 4 4 (lb 4 a):=(by simpa using ZL);have R2:=HR.out.ae (gQ ((Qt.refl _).drew.grown none) hg2);have e1:=(gQ ((Qt.refl _).drew.grown none) hg2).cell k1.out (by simp)))
 all_goals
  have T3:=hJ (gQ (bL (gQ HG.out (gQ ((Qt.refl _).drew.grown none) hg2))) hg3);have R3:=hJ hr3;have D1:=hJ d1;clear ZL hb3 hg2 hs2 hg3 hs3 hr3 R2 e1 d1 HR HG k1;have d1:=D1.out
  go_wp2_with fail
  go_region_law
   (first
    | (have z4:=R4;refine bX rfl (.tmp 12) (.tmp 16) (by rfl) _ _ _ _ _ _ (by rfl) (by rfl) G (q+4) 210 (splice cs q (lb 4 a)) (lb 4 b) (by exact R4) (by exact hb4) (by omega) (fun _=>rfl) (by rw [MJ.out];omega) ?_;intro w5 kz aK hs5)
    | (go_simp;go_at_call 215;refine (fQ b _ hb2).mono ?_;rintro en w4 ⟨rfl,hb4,hg4,tP⟩;have R4:=R3.out.ae (gQ ((Qt.refl _).drew.grown none) hg4)))
  all_goals
   go_wp2;refine Go.Great.bodyPost_end0 rfl rfl ?_;refine ⟨rfl,?_,gQ T3.out (gQ (bL (gQ ((Qt.refl _).drew.grown none) hg4)) aK)⟩;rw [HKB.out,<- Jd.out];exact kz
theorem yo {cs A B C:List Int}{q a b:Nat}(ha:A.length=a)(hb:B.length=b)(h:q+a+b+C.length<=cs.length) :
  splice (splice (splice cs q A) (q+a) B) (q+a+b) C=splice cs q (A++(B++C)):=by
 subst ha hb;have e1:=dx (cs:=cs) (xs:=A) (ys:=B) (p:=q) (by omega);have e2:=dx (cs:=cs) (xs:=A++B) (ys:=C) (p:=q) (by simp only [List.length_append];omega);simp only [List.length_append,<- Nat.add_assoc] at e2;rw [e1,e2,List.append_assoc]
theorem nZ (G q:Nat)(cs:List Int)(so:Option Addr)(r c:Nat)(p:Nat)(x:Sk)(no ks:Int)(m:Nat)(w:World)(hr:Rt w G 210 cs)(hs:ai w so r c (x.sep.drop p))(hsb:∀ ad,so=some ad->0<r->ad.block≠G)(hk:wk x.kid=false)(h1:x.kid.no=no)(h2:x.kid.keys=ks)(hm:(vH p x).length=m)(hq:q+m<=cs.length)(kz:r<=1000) :
  Calls Tryz.prog 252 #[.slice (some ⟨G,q,none⟩) m m,.slice so r c,.agg #[.int .i64 no,.int .i64 ks]] w fun en w'=>en=.returned (.tuple #[])/\Rt w' G 210 (splice cs q (vH p x))/\w.grownBy w' (some G):=by
 have hl:=hs.len;have hl2:x.sep.length - p=r:=by rw [<- hl,List.length_drop]
 have Ed:Hid (vH p x=ah r++(x.sep.drop p++kb x.kid)):=by show _=_;unfold vH;rw [hl2]
 have P1:=hJ (fun W:World=>jT r W (by omega));obtain ⟨l1,jQ⟩:∃ l1,(ah r).length=l1:=⟨_,rfl⟩;have hl9:l1<=10:=by rw [<- jQ];exact eI r
 have MH:m=l1+r+8:=by rw [<- hm,Ed.out,List.length_append,List.length_append,gK,hl,jQ];omega
 rw [jQ] at P1;have MJ:=hJ jQ;have GG:=hJ hl;clear jQ hl2 hl hm;generalize hB:x.sep.drop p=B at *;have Dh:=hJ hB;generalize ah r=A at *;clear hB;have Jd:Hid (splice (splice (splice cs q A) (q+l1) B) (q+l1+r) (kb x.kid)=splice cs q (A++(B++kb x.kid))):=yo MJ.out GG.out (by rw [gK];omega);have ZM:Hid ((splice cs q A).length=cs.length):=aJ (by rw [MJ.out];omega);have HS2:Hid ((splice (splice cs q A) (q+l1) B).length=cs.length):=by show _=_;rw [aJ (by rw [ZM.out,GG.out];omega)];exact ZM.out
 have ga:=World.grownBy_alloc w (.cells #[.int .i64 no,.int .i64 ks] 69) none;have k0:Hid ((w.alloc (.cells #[.int .i64 no,.int .i64 ks] 69)).cell? ⟨w.heap.size,0,none⟩=some (.int .i64 no)):=by show _=_;rw [cell_of_row _ w.heap.size 0 _ _ (0,0) (heap_alloc_new w _)];rfl
 have k1:Hid ((w.alloc (.cells #[.int .i64 no,.int .i64 ks] 69)).cell? ⟨w.heap.size,1,none⟩=some (.int .i64 ks)):=by show _=_;rw [cell_of_row _ w.heap.size 1 _ _ (0,0) (heap_alloc_new w _)];rfl
 have HG:=hJ ga;have HR:=hJ (hr.ae ga);have HS:=hJ (hs.ae ga);have ZK:=hr.lt;have eT:Hid (w.heap.size≠G):=fun e=>by omega
 have g1:(l1:Int)<=(m:Int):=by omega
 have g2:(0:Int)<=(l1:Int):=by omega
 have g3:¬ m=l1:=by omega
 have g4:(l1:Int)+(r:Int)+8<=(m:Int):=by omega
 have g5:(0:Int)<=(l1:Int)+(r:Int):=by omega
 clear hr hs ga ZK;go_enter Tryz.func252,Tryz.ntmps252
 go_wp2_with fail
 have K0:=k0.out;have K1:=k1.out;clear k0 k1;generalize w.alloc (.cells #[.int .i64 no,.int .i64 ks] 69)=w1 at *;generalize w.heap.size=Q at *;refine (P1.out _).mono ?_;rintro en w2 ⟨rfl,hb2,hg2,hs2⟩;have R2:=hJ (HR.out.ae hg2);have B2:=hJ hb2;have S2:=hJ (HS.out.ae hg2);have G2:=hJ (gQ HG.out hg2);have u0:=hg2.cell K0 (by simp);have u1:=hg2.cell K1 (by simp);clear hb2 hg2 hs2 HR HS HG K0 K1
 go_wp2_with (refine aS rfl _ _ rfl _ _ _ _ _ _ rfl rfl G q 210 cs A R2.out B2.out (by omega) (fun _=>rfl) (by omega) ?_)
 intro w3 hr3 hg3 hs3;have R3:=hJ hr3;have S3:=hJ (S2.out.kept hg3 (fun ad e h e2=>hsb ad e h (Option.some.inj e2)));have G3:=hJ (gQ (bL G2.out) hg3);have v0:=hg3.cell u0 (fun e=>eT.out (Option.some.inj e));have v1:=hg3.cell u1 (fun e=>eT.out (Option.some.inj e));clear hr3 hg3 hs3 R2 B2 S2 G2 u0 u1
 go_wp2_with (refine aS rfl _ _ rfl _ _ _ _ _ _ rfl rfl G (q+l1) 210 (splice cs q A) B R3.out S3.out (by omega) (fun _=>rfl) (by rw [ZM.out];omega) ?_)
 intro w4 hr4 hg4 tP;have R4:=hJ hr4;have G4:=hJ (gQ G3.out hg4);have u0:=hg4.cell v0 (fun e=>eT.out (Option.some.inj e));have u1:=hg4.cell v1 (fun e=>eT.out (Option.some.inj e));clear hr4 hg4 tP R3 S3 G3 v0 v1
 go_wp2_with fail
 obtain ⟨d,hd⟩:∃ d,l1+r=d:=⟨_,rfl⟩;have hdd:(l1:Int)+(r:Int)=(d:Int):=by omega
 rw [hdd];have HD:=hJ hd;obtain ⟨D,hD⟩:∃ D,d+8=D:=⟨_,rfl⟩;have e7:IntKind.i64.wrap ((d:Int)+8)=(D:Int):=by simp [IntKind.wrap,IntKind.bits,IntKind.signed];omega
 have e8:D - d=8:=by omega
 have e9:(D:Int)<=(l1:Int)+(r:Int)+8:=by omega
 have e10:max (D:Int) 0=(D:Int):=by omega
 have e11:d<=D:=by omega
 have e12:¬ D=d:=by omega
 have e13:(0:Int)<=(D:Int):=by omega
 have hqd:q+d+8<=cs.length:=by omega
 clear hdd hd MH g1 g2 g3 g4 g5 hq hD
 go_region_law ((go_simp;go_at_call 250;refine (tY G (q+d) (splice (splice cs q A) (q+l1) B) x.kid no ks _ (by exact R4.out.ae ((Qt.refl _).drew.grown none)) hk h1 h2 (by rw [HS2.out];omega)).mono ?_;rintro en w5 ⟨rfl,ZN,aK⟩))
 all_goals
  have HR5:=hJ ZN;have VW:=hJ (gQ (gQ G4.out ((Qt.refl _).drew.grown _)) aK);clear ZN aK;go_wp2;refine Go.Great.bodyPost_end0 rfl rfl ?_;refine ⟨rfl,?_,VW.out⟩;rw [Ed.out,<- Jd.out,Nat.add_assoc q l1 r,HD.out];exact HR5.out
theorem fR (p:Nat):∀ (L:List Sk) (i:Nat),i<L.length->aI p (L.take (i+1))=aI p (L.take i)++vH p (L.getD i jn)
 | x::L,0,_=>by simp [aI]
 | x::L,i+1,h=>by
  have:=fR p L i (by simpa using h);simp only [List.take_succ_cons,aI,List.getD_cons_succ];rw [this,List.append_assoc]
theorem kF (p:Nat):∀ (L:List Sk) (a i:Nat),i<L.length->bV p a (L.take (i+1))=bV p a (L.take i)++lb 2 (a+(aI p (L.take i)).length)
 | x::L,a,0,_=>by simp [bV,aI]
 | x::L,a,i+1,h=>by
  have:=kF p L (a+(vH p x).length) i (by simpa using h);simp only [List.take_succ_cons,bV,aI];rw [this,List.append_assoc,List.length_append,Nat.add_assoc]
def cI (lv:Int)(L:List Sk):Nat:=rJ lv L+8
def gL (lv:Int)(k:Kd)(L:List Sk)(i:Nat):List Int :=
 bg lv L++(bV (aF (aj L)) (cI lv L) (L.take i)++(List.replicate (2*(L.length - i)) 0++(kb k++(aI (aF (aj L)) (L.take i)++List.replicate (4092 - (cI lv L+(aI (aF (aj L)) (L.take i)).length)) 0))))
theorem qJ (p:Nat):∀ (L:List Sk) (i:Nat),(aI p (L.take i)).length<=(aI p L).length
 | [],i=>by simp [aI]
 | x::L,0=>by simp [aI]
 | x::L,i+1=>by
  have:=qJ p L i;simp only [List.take_succ_cons,aI,List.length_append];omega
theorem Ej (lv:Int)(k:Kd)(L:List Sk)(h:cI lv L<=4092):splice (splice (List.replicate 4092 0) 0 (bg lv L)) (rJ lv L) (kb k)=gL lv k L 0:=by
 have h':(bg lv L).length+2*L.length+8<=4092:=h
 have e1:splice (List.replicate 4092 0) 0 (bg lv L)=(bg lv L++List.replicate (2*L.length) 0)++(List.replicate 8 0++List.replicate (4092 - cI lv L) 0):=by
  unfold splice;rw [List.take_zero,List.nil_append,Nat.zero_add,List.drop_replicate,List.replicate_append_replicate,List.append_assoc,List.replicate_append_replicate]
  congr 2
  have:cI lv L=(bg lv L).length+2*L.length+8:=rfl;omega
 rw [e1,bQ (by rw [List.length_append,List.length_replicate];rfl) (by rw [gK,List.length_replicate])];unfold gL;simp only [List.take_zero,bV,aI,List.nil_append,List.length_nil,Nat.add_zero,Nat.sub_zero,List.append_assoc]
theorem Je (lv:Int)(k:Kd)(L:List Sk):gL lv k L L.length=eO lv k L:=by
 unfold gL eO;rw [List.take_length,Nat.sub_self,Nat.mul_zero,List.replicate_zero,List.nil_append]
 have e:4092 - (cI lv L+(aI (aF (aj L)) L).length)=4092 - (dV lv k L).length:=by
  unfold dV;rw [List.length_append,List.length_append,List.length_append,dz,gK];unfold cI rJ;omega
 rw [e];generalize 4092 - (dV lv k L).length=z;unfold dV cI;simp only [List.append_assoc]
theorem Ek (lv:Int)(k:Kd)(L:List Sk)(i:Nat)(hi:i<L.length)(h:cI lv L+(aI (aF (aj L)) (L.take i)).length+(vH (aF (aj L)) (L.getD i jn)).length<=4092) :
  splice (splice (gL lv k L i) ((bg lv L).length+2*i) (lb 2 (cI lv L+(aI (aF (aj L)) (L.take i)).length))) (cI lv L+(aI (aF (aj L)) (L.take i)).length) (vH (aF (aj L)) (L.getD i jn))=gL lv k L (i+1):=by
 have hs:=dz (aF (aj L)) (L.take i) (cI lv L);rw [List.length_take] at hs
 have e1:splice (gL lv k L i) ((bg lv L).length+2*i) (lb 2 (cI lv L+(aI (aF (aj L)) (L.take i)).length)) =
   (bg lv L++bV (aF (aj L)) (cI lv L) (L.take (i+1)))++(List.replicate (2*(L.length - (i+1))) 0++(kb k++(aI (aF (aj L)) (L.take i)++List.replicate (4092 - (cI lv L+(aI (aF (aj L)) (L.take i)).length)) 0))):=by
  unfold gL;rw [show 2*(L.length - i)=2+2*(L.length - (i+1)) by omega,<- List.replicate_append_replicate,List.append_assoc (List.replicate 2 0),<- List.append_assoc (bg lv L),bQ (by rw [List.length_append,hs];omega) (by rw [aL,List.length_replicate]),kF _ _ _ _ hi];simp only [List.append_assoc]
 rw [e1];have hs1:=dz (aF (aj L)) (L.take (i+1)) (cI lv L);rw [List.length_take] at hs1
 have hX:((bg lv L++bV (aF (aj L)) (cI lv L) (L.take (i+1)))++(List.replicate (2*(L.length - (i+1))) 0++(kb k++aI (aF (aj L)) (L.take i)))).length=cI lv L+(aI (aF (aj L)) (L.take i)).length:=by
  simp only [List.length_append,hs1,List.length_replicate,gK];unfold cI rJ;omega
 rw [show (bg lv L++bV (aF (aj L)) (cI lv L) (L.take (i+1)))++(List.replicate (2*(L.length - (i+1))) 0++(kb k++(aI (aF (aj L)) (L.take i)++List.replicate (4092 - (cI lv L+(aI (aF (aj L)) (L.take i)).length)) 0))) =
  ((bg lv L++bV (aF (aj L)) (cI lv L) (L.take (i+1)))++(List.replicate (2*(L.length - (i+1))) 0++(kb k++aI (aF (aj L)) (L.take i))))++(List.replicate (vH (aF (aj L)) (L.getD i jn)).length 0++List.replicate (4092 - (cI lv L+(aI (aF (aj L)) (L.take (i+1))).length)) 0) by
   rw [List.replicate_append_replicate,fR _ _ _ hi,List.length_append];simp only [List.append_assoc];rw [show (vH (aF (aj L)) (L.getD i jn)).length+(4092 - (cI lv L+((aI (aF (aj L)) (L.take i)).length+(vH (aF (aj L)) (L.getD i jn)).length)))=4092 - (cI lv L+(aI (aF (aj L)) (L.take i)).length) by omega]]
 rw [bQ hX (by simp)];unfold gL;rw [fR _ _ _ hi];simp only [List.append_assoc]
theorem Jf (lv:Int)(k:Kd)(L:List Sk)(i:Nat)(hi:i<=L.length)(h:cI lv L+(aI (aF (aj L)) (L.take i)).length<=4092):(gL lv k L i).length=4092:=by
 unfold gL;simp only [List.length_append,dz,List.length_replicate,List.length_take,gK];have:cI lv L=(bg lv L).length+2*L.length+8:=rfl;omega
theorem sM (lv:Int)(k:Kd){L:List Sk}(h2:bsize (aj L)<=4092)(i:Nat):cI lv L+(aI (aF (aj L)) (L.take i)).length<=4092:=by
 have h1:=pV lv k L;have h3:=qJ (aF (aj L)) L i;unfold dV at h1;rw [List.length_append,List.length_append,List.length_append,dz,gK] at h1;unfold cI rJ;omega
theorem Jg:((Tryz.prog.info? 210).bind (fun i=>i.zero)).map (fun z=>z.cells)=some ((List.replicate 4092 (Value.int .u8 0)).toArray):=by kernel_rfl
theorem tZ:∃ i z,Tryz.prog.info? 210=some i/\i.zero=some z/\z.cells=((List.replicate 4092 (0:Int)).map (Value.int .u8)).toArray:=by
 obtain ⟨z,h1,h2⟩:=Option.map_eq_some_iff.1 Jg;obtain ⟨i,h3,h4⟩:=Option.bind_eq_some_iff.1 h1;exact ⟨i,z,h3,h4,by rw [List.map_replicate];exact h2⟩
theorem pX {a:Act}{Q:Exit->Act->World->Prop}(hgd:o.guard=none)(ho:o.op=.alloc 210)(Z:List Int)(hZ:Z=List.replicate 4092 0)
  (h:∀ w',Rt w' w.heap.size 210 Z->w.grownBy w' none->w'.heap.size=w.heap.size+1->wpList Tryz.prog ops Q rest (a.put o.dst (.pointer (some ⟨w.heap.size,0,none⟩))) w'):wpList Tryz.prog ops Q (o::rest) a w:=by
 obtain ⟨i,z,h1,h2,h3⟩:=tZ;refine Go.Great.wpList_allocTo hgd o.dst rfl (.pointer (some ⟨w.heap.size,0,none⟩)) (.cells z.cells 210) ?_ (h _ ?_ (World.grownBy_alloc w _ none) (by simp))
 ·simp [execOp,ho,Instr.alloc,zeroValue,typeInfo,newVar,newRow,h1,h2]
 ·rw [h3,hZ]
  exact heap_alloc_new w _
def by8 (zs:List Int)(q:Nat):Nat:=(zs.getD q 0).toNat
def nm (zs:List Int)(q:Nat):Nat:=by8 zs q+by8 zs (q+1)*256+by8 zs (q+2)*65536+by8 zs (q+3)*16777216
end Go.Proofs.YtgldkdbkaachkaaGreatDoor
