import Derived.Test.YtgldkdbkaachkaaGreatDoorK16
import Derived.Laws.ResultCell
set_option maxRecDepth 100000
set_option maxHeartbeats 4000000
namespace Go.Proofs.YtgldkdbkaachkaaGreatDoor
open Go.RowKit
variable {a:Act}{ops:Array Oper}{Q:Exit->Act->World->Prop}{c f k n r t v:Int}{es fs ss zs:List Int}{rest:List Oper}{E F G N R S T U p p':Nat}{o:Oper}{w w' w'':World}
theorem bG (hgd:o.guard=none)(p x:Operand)(ho:o.op=.store 28 p x)(g:Nat)(v c r t k f n v' c' r' t' k' f' n':Int)(hp:a.eval p=.pointer (some ⟨g,0,none⟩))(hx:a.eval x=.agg #[.int .i64 v,.int .i64 c,.int .i64 r,.int .i64 t,.int .i64 k,.int .i64 f,.int .i64 n])(hr:Hx w g v' c' r' t' k' f' n')
  (h:∀ w',Hx w' g v c r t k f n->w.grownBy w' (some g)->w'.heap.size=w.heap.size->wpList Tryz.prog ops Q rest (a.put o.dst undef) w'):wpList Tryz.prog ops Q (o::rest) a w:=by
 refine wpList_plain hgd fun K hK=>?_
 unfold Oper.wp;have hv:=run_storeVar_row (P:=Tryz.prog) w g 28 28 _ #[.int .i64 v,.int .i64 c,.int .i64 r,.int .i64 t,.int .i64 k,.int .i64 f,.int .i64 n] hr lI rfl (by simp [Value.oneCell'])
 have hr2:(execOp a.eval o).run Tryz.prog w=.ok .skip (w.setRow g #[.int .i64 v,.int .i64 c,.int .i64 r,.int .i64 t,.int .i64 k,.int .i64 f,.int .i64 n]):=by
  simp [execOp,ho,hp,hx,Instr.storeAt,Instr.sureAddr,hv,Result.andThen]
 rw [hr2,Oper.upon_skip];have hro:Rp w (w.setRow g #[.int .i64 v,.int .i64 c,.int .i64 r,.int .i64 t,.int .i64 k,.int .i64 f,.int .i64 n]) g 28 [.int .i64 v,.int .i64 c,.int .i64 r,.int .i64 t,.int .i64 k,.int .i64 f,.int .i64 n]:=⟨setRow_heap w g _ _ _ _ hr,fun k hk=>setRow_other w g k _ hk,by simp [World.setRow],rfl,rfl,rfl⟩;exact hK _ _ (h _ hro.row hro.grown hro.size)
theorem cO {fn:Func}{p u:Tmp}(h:fn.results=#[.cell p 28,.tmp u])(tmps:Array Value)(w:World)(U:Nat)(v c r t k f n:Int)(hp:tmps.getD p undef=.pointer (some ⟨U,0,none⟩))(hx:Hx w U v c r t k f n) :
  (results fn tmps).run Tryz.prog w=.ok (.tuple #[.agg #[.int .i64 v,.int .i64 c,.int .i64 r,.int .i64 t,.int .i64 k,.int .i64 f,.int .i64 n],tmps.getD u undef]) w:=by
 rw [results_cell_tmp h,hp];have:=run_loadVar_row (P:=Tryz.prog) w U 28 28 _ (0,0) _ hx Tryz.underlying28 rfl lI;simp [asAddr,this,Result.andThen]
theorem Hx.mJ (h:Hx w T v c r t k f n)(x:Int):Hx (w.setCell ⟨T,0,none⟩ (.int .i64 x)) T x c r t k f n:=heap_setCell_same w T 0 _ _ _ h
theorem Hx.rI (h:Hx w T v c r t k f n)(x:Int):Hx (w.setCell ⟨T,1,none⟩ (.int .i64 x)) T v x r t k f n:=heap_setCell_same w T 1 _ _ _ h
theorem Hx.Bj (h:Hx w T v c r t k f n)(x:Int):Hx (w.setCell ⟨T,2,none⟩ (.int .i64 x)) T v c x t k f n:=heap_setCell_same w T 2 _ _ _ h
theorem Hx.Bk (h:Hx w T v c r t k f n)(x:Int):Hx (w.setCell ⟨T,3,none⟩ (.int .i64 x)) T v c r x k f n:=heap_setCell_same w T 3 _ _ _ h
theorem Hx.WU (h:Hx w T v c r t k f n)(x:Int):Hx (w.setCell ⟨T,4,none⟩ (.int .i64 x)) T v c r t x f n:=heap_setCell_same w T 4 _ _ _ h
theorem Hx.WV (h:Hx w T v c r t k f n)(x:Int):Hx (w.setCell ⟨T,5,none⟩ (.int .i64 x)) T v c r t k x n:=heap_setCell_same w T 5 _ _ _ h
theorem Hx.WW (h:Hx w T v c r t k f n)(x:Int):Hx (w.setCell ⟨T,6,none⟩ (.int .i64 x)) T v c r t k f x:=heap_setCell_same w T 6 _ _ _ h
theorem xA {x:Nat}(h:x<18446744073709551616):wrap64 (x:Int)=sg x:=by
 unfold wrap64 sg
 split <;> omega
structure Rs (w w':World)(R G U T:Nat)(zs:List Int)(p:Nat)(v c r t k f n:Int):Prop where
 rd:Rd w' R G zs p 0
 u:Hx w' U 0 0 0 0 0 0 0
 t:Hx w' T v c r t k f n
 gr:w.grownBy w' (some R)
 hT:T≠R/\T≠G/\T≠U/\w.heap.size<=T
 hU:U≠R/\U≠G/\w.heap.size<=U
theorem Rs.call (h:Rs w w' R G U T zs p v c r t k f n)(hr:Rd w'' R G zs p' 0)(hg:w'.grownBy w'' (some R)):Rs w w'' R G U T zs p' v c r t k f n :=
 ⟨hr,h.u.kept hg (fun e=>h.hU.1 (Option.some.inj e)),h.t.kept hg (fun e=>h.hT.1 (Option.some.inj e)),gQ h.gr hg,h.hT,h.hU⟩
theorem Rs.put{w:World}{v n v' c' r' t' k' f' n':Int}(h:Rs w w' R G U T zs p v c r t k f n)(j:Nat)(x:Value)(ht:Hx (w'.setCell ⟨T,j,none⟩ x) T v' c' r' t' k' f' n'):Rs w (w'.setCell ⟨T,j,none⟩ x) R G U T zs p v' c' r' t' k' f' n' :=
 ⟨h.rd.kept (ay w' T j x) (fun e=>h.hT.1 (Option.some.inj e).symm) (fun e=>h.hT.2.1 (Option.some.inj e).symm),h.u.kept (ay w' T j x) (fun e=>h.hT.2.2.1 (Option.some.inj e).symm),ht,cN h.gr (ay w' T j x) h.hT.2.2.2,h.hT,h.hU⟩
theorem wI (R G:Nat)(zs:List Int)(w:World)(h:Rd w R G zs 4 0)(bp:Bt zs)(hl:zs.length=4092)(sI:R<w.heap.size/\G<w.heap.size) :
  Calls Tryz.prog 222 #[.pointer (some ⟨R,0,none⟩)] w fun en w'=>en=.returned (.agg #[.int .i64 (rH zs).v,.int .i64 (rH zs).c,.int .i64 (rH zs).r,.int .i64 (rH zs).h,.int .i64 (rH zs).k,.int .i64 (rH zs).f,.int .i64 (rH zs).n])/\Rd w' R G zs 37 0/\w.grownBy w' (some R):=by
 obtain ⟨v,hv⟩:∃ v,v=le 8 (zs.drop 4):=⟨_,rfl⟩;obtain ⟨c,hc⟩:∃ c,c=le 4 (zs.drop 12):=⟨_,rfl⟩;obtain ⟨r,hr⟩:∃ r,r=le 4 (zs.drop 16):=⟨_,rfl⟩;obtain ⟨t,ht⟩:∃ t,t=le 1 (zs.drop 20):=⟨_,rfl⟩;obtain ⟨k,hk⟩:∃ k,k=le 8 (zs.drop 21):=⟨_,rfl⟩;obtain ⟨f,hf⟩:∃ f,f=le 4 (zs.drop 29):=⟨_,rfl⟩;obtain ⟨n,hn⟩:∃ n,n=le 4 (zs.drop 33):=⟨_,rfl⟩;have wv:IntKind.i64.wrap (v:Int)=sg v:=Gx (by rw [hv];have:=dQ 8 _ (bp.drop 4);omega);have wv2:wrap64 (v:Int)=sg v:=xA (by rw [hv];have:=dQ 8 _ (bp.drop 4);omega);have wk2:wrap64 (k:Int)=sg k:=xA (by rw [hk];have:=dQ 8 _ (bp.drop 21);omega);have wk:IntKind.i64.wrap (k:Int)=sg k:=Gx (by rw [hk];have:=dQ 8 _ (bp.drop 21);omega);have wc:IntKind.i64.wrap (c:Int)=(c:Int):=by have:c<4294967296:=(by rw [hc];have:=dQ 4 _ (bp.drop 12);omega);simp [IntKind.wrap,IntKind.bits,IntKind.signed];omega
 have wr:IntKind.i64.wrap (r:Int)=(r:Int):=by have:r<4294967296:=(by rw [hr];have:=dQ 4 _ (bp.drop 16);omega);simp [IntKind.wrap,IntKind.bits,IntKind.signed];omega
 have wt:IntKind.i64.wrap (t:Int)=(t:Int):=by have:t<256:=(by rw [ht];have:=dQ 1 _ (bp.drop 20);omega);simp [IntKind.wrap,IntKind.bits,IntKind.signed];omega
 have wf:IntKind.i64.wrap (f:Int)=(f:Int):=by have:f<4294967296:=(by rw [hf];have:=dQ 4 _ (bp.drop 29);omega);simp [IntKind.wrap,IntKind.bits,IntKind.signed];omega
 have wn:IntKind.i64.wrap (n:Int)=(n:Int):=by have:n<4294967296:=(by rw [hn];have:=dQ 4 _ (bp.drop 33);omega);simp [IntKind.wrap,IntKind.bits,IntKind.signed];omega
 have E:Hid ((rH zs).v=sg v/\(rH zs).c=c/\(rH zs).r=r/\(rH zs).h=t/\(rH zs).k=sg k/\(rH zs).f=f/\(rH zs).n=n):=by
  refine ⟨?_,?_,?_,?_,?_,?_,?_⟩
  ·rw [Zg,hv]
  ·rw [Zh,hc]
  ·rw [Zi,hr]
  ·rw [Zj,ht]
  ·rw [Zk,hk]
  ·rw [Zl,hf]
  ·rw [Zm,hn]
 rw [E.out.1,E.out.2.1,E.out.2.2.1,E.out.2.2.2.1,E.out.2.2.2.2.1,E.out.2.2.2.2.2.1,E.out.2.2.2.2.2.2];have HV:=hJ hv;clear hv;have HC:=hJ hc;clear hc;have HR:=hJ hr;clear hr;have HT:=hJ ht;clear ht;have HK:=hJ hk;clear hk;have HF:=hJ hf;clear hf;have HN:=hJ hn;clear hn;clear E;go_enter Tryz.func222,Tryz.ntmps222;go_upto_region 2 with fail
 have S0:Hid (Rs w ((w.alloc (.cells #[.int .i64 0,.int .i64 0,.int .i64 0,.int .i64 0,.int .i64 0,.int .i64 0,.int .i64 0] 28)).alloc (.cells #[.int .i64 0,.int .i64 0,.int .i64 0,.int .i64 0,.int .i64 0,.int .i64 0,.int .i64 0] 28)) R G w.heap.size (w.heap.size+1) zs 4 0 0 0 0 0 0 0) :=
  ⟨h.kept (aN w _ _) (by simp) (by simp),(Hx.new w 0 0 0 0 0 0 0).ae (World.grownBy_alloc _ _ none),Hx.WR w _ 0 0 0 0 0 0 0,bL (aN w _ _),⟨by omega,by omega,by omega,by omega⟩,⟨by omega,by omega,Nat.le_refl _⟩⟩
 clear h;obtain ⟨ak5,ak6⟩:=sI;generalize (w.alloc (.cells #[.int .i64 0,.int .i64 0,.int .i64 0,.int .i64 0,.int .i64 0,.int .i64 0,.int .i64 0] 28)).alloc (.cells #[.int .i64 0,.int .i64 0,.int .i64 0,.int .i64 0,.int .i64 0,.int .i64 0,.int .i64 0] 28)=w0 at *;obtain ⟨c0,c1,c2,c3,c4,c5,c6⟩:=S0.out.t.cells
 go_wp2_with fail
 refine (tB R G zs 4 _ S0.out.rd bp (by omega)).mono ?_;rw [<- HV.out];rintro en w1 ⟨rfl,hr1,hg1⟩;have S1:=hJ (S0.out.call hr1 hg1);clear S0 hr1 hg1 c0 c1 c2 c3 c4 c5 c6;obtain ⟨c0,c1,c2,c3,c4,c5,c6⟩:=S1.out.t.cells;have f0:=S1.out.t.frozen 0;go_upto_region 3 with fail
 have S2:=hJ (S1.out.put 0 (.int .i64 (sg v)) (S1.out.t.mJ (sg v)));clear S1 c0 c1 c2 c3 c4 c5 c6 f0;generalize w1.setCell ⟨w.heap.size+1,0,none⟩ (.int .i64 (sg v))=w2 at *;obtain ⟨c0,c1,c2,c3,c4,c5,c6⟩:=S2.out.t.cells
 go_wp2_with fail
 refine (ez R G zs 12 _ S2.out.rd bp (by omega)).mono ?_;rw [<- HC.out];rintro en w3 ⟨rfl,hr3,hg3⟩;have S3:=hJ (S2.out.call hr3 hg3);clear S2 hr3 hg3 c0 c1 c2 c3 c4 c5 c6;obtain ⟨c0,c1,c2,c3,c4,c5,c6⟩:=S3.out.t.cells;have f1:=S3.out.t.frozen 1;go_upto_region 4 with fail
 have S4:=hJ (S3.out.put 1 (.int .i64 (c:Int)) (S3.out.t.rI (c:Int)));clear S3 c0 c1 c2 c3 c4 c5 c6 f1;generalize w3.setCell ⟨w.heap.size+1,1,none⟩ (.int .i64 (c:Int))=w4 at *;obtain ⟨c0,c1,c2,c3,c4,c5,c6⟩:=S4.out.t.cells
 go_wp2_with fail
 refine (ez R G zs 16 _ S4.out.rd bp (by omega)).mono ?_;rw [<- HR.out];rintro en w5 ⟨rfl,kz,aK⟩;have S5:=hJ (S4.out.call kz aK);clear S4 kz aK c0 c1 c2 c3 c4 c5 c6;obtain ⟨c0,c1,c2,c3,c4,c5,c6⟩:=S5.out.t.cells;have f2:=S5.out.t.frozen 2;go_upto_region 5 with fail
 have S6:=hJ (S5.out.put 2 (.int .i64 (r:Int)) (S5.out.t.Bj (r:Int)));clear S5 c0 c1 c2 c3 c4 c5 c6 f2;generalize w5.setCell ⟨w.heap.size+1,2,none⟩ (.int .i64 (r:Int))=w6 at *;obtain ⟨c0,c1,c2,c3,c4,c5,c6⟩:=S6.out.t.cells
 go_wp2_with fail
 refine (pG R G zs 20 _ S6.out.rd bp (by omega)).mono ?_;rw [<- HT.out];rintro en w7 ⟨rfl,nj,cG⟩;have S7:=hJ (S6.out.call nj cG);clear S6 nj cG c0 c1 c2 c3 c4 c5 c6;obtain ⟨c0,c1,c2,c3,c4,c5,c6⟩:=S7.out.t.cells;have f3:=S7.out.t.frozen 3;go_upto_region 6 with fail
 have S8:=hJ (S7.out.put 3 (.int .i64 (t:Int)) (S7.out.t.Bk (t:Int)));clear S7 c0 c1 c2 c3 c4 c5 c6 f3;generalize w7.setCell ⟨w.heap.size+1,3,none⟩ (.int .i64 (t:Int))=w8 at *;obtain ⟨c0,c1,c2,c3,c4,c5,c6⟩:=S8.out.t.cells
 go_wp2_with fail
 refine (tB R G zs 21 _ S8.out.rd bp (by omega)).mono ?_;rw [<- HK.out];rintro en w9 ⟨rfl,nR,qQ⟩;have S9:=hJ (S8.out.call nR qQ);clear S8 nR qQ c0 c1 c2 c3 c4 c5 c6;obtain ⟨c0,c1,c2,c3,c4,c5,c6⟩:=S9.out.t.cells;have f4:=S9.out.t.frozen 4;go_upto_region 7 with fail
 have Yn:=hJ (S9.out.put 4 (.int .i64 (sg k)) (S9.out.t.WU (sg k)));clear S9 c0 c1 c2 c3 c4 c5 c6 f4;generalize w9.setCell ⟨w.heap.size+1,4,none⟩ (.int .i64 (sg k))=fI at *;obtain ⟨c0,c1,c2,c3,c4,c5,c6⟩:=Yn.out.t.cells
 go_wp2_with fail
 refine (ez R G zs 29 _ Yn.out.rd bp (by omega)).mono ?_;rw [<- HF.out];rintro en BN ⟨rfl,rO,gY⟩;have S11:=hJ (Yn.out.call rO gY);clear Yn rO gY c0 c1 c2 c3 c4 c5 c6;obtain ⟨c0,c1,c2,c3,c4,c5,c6⟩:=S11.out.t.cells;have f5:=S11.out.t.frozen 5;go_upto_region 8 with fail
 have S12:=hJ (S11.out.put 5 (.int .i64 (f:Int)) (S11.out.t.WV (f:Int)));clear S11 c0 c1 c2 c3 c4 c5 c6 f5;generalize BN.setCell ⟨w.heap.size+1,5,none⟩ (.int .i64 (f:Int))=QU at *;obtain ⟨c0,c1,c2,c3,c4,c5,c6⟩:=S12.out.t.cells
 go_wp2_with fail
 refine (ez R G zs 33 _ S12.out.rd bp (by omega)).mono ?_;rw [<- HN.out];rintro en JA ⟨rfl,JN,JO⟩;have S13:=hJ (S12.out.call JN JO);clear S12 JN JO c0 c1 c2 c3 c4 c5 c6;obtain ⟨c0,c1,c2,c3,c4,c5,c6⟩:=S13.out.t.cells;have f6:=S13.out.t.frozen 6;go_upto_region 9 with fail
 have PM:=hJ (S13.out.put 6 (.int .i64 (n:Int)) (S13.out.t.WW (n:Int)));clear S13 c0 c1 c2 c3 c4 c5 c6 f6;generalize JA.setCell ⟨w.heap.size+1,6,none⟩ (.int .i64 (n:Int))=Nv at *;obtain ⟨c0,c1,c2,c3,c4,c5,c6⟩:=PM.out.t.cells
 go_wp2_with (refine bG rfl _ _ rfl w.heap.size (sg v) c r t (sg k) f n 0 0 0 0 0 0 0 rfl rfl PM.out.u ?_)
 intro Wj afg kL Wk;have R15:=hJ (PM.out.rd.kept kL (fun e=>PM.out.hU.1 (Option.some.inj e).symm) (fun e=>PM.out.hU.2.1 (Option.some.inj e).symm));have G15:=hJ (cN PM.out.gr kL (Nat.le_refl _));clear c0 c1 c2 c3 c4 c5 c6 PM kL Wk;go_wp2;refine bodyPost_ret (uD rfl _ _ w.heap.size (sg v) c r t (sg k) f n rfl afg) rfl ?_;exact ⟨rfl,R15.out,G15.out⟩
theorem rp (ao:Option Addr)(n c m:Nat)(zs:List Int)(x d:Nat)(w:World)(hb:ai w ao n c zs)(hn:n<=100)(hx:x<18446744073709551616)(hd:d<=8)(hm:m=n+d) :
  Calls Tryz.prog 110 #[.slice ao n c,.int .u64 x,.int .i64 d] w fun e w'=>∃ eX c',e=.returned (.slice eX m c')/\ai w' eX m c' (zs++lb d x)/\w.grownBy w' none:=by
 subst hm;exact DC ao n c zs x d w hb (by omega) hx hd
theorem rpo (ao:Option Addr)(n c m:Nat)(zs:List Int)(x d:Nat)(w:World)(hb:ai w ao n c zs)(hn:n<=100)(hx:x<18446744073709551616)(hd:d<=8)(hm:m=n+d) :
  Calls Tryz.prog 110 #[.slice ao n c,.int .u64 x,.int .i64 d] w fun e w'=>∃ eX c',e=.returned (.slice eX m c')/\w'.ownsRow w.heap.size 5 1 (.slice eX m c') m ((zs++lb d x).map (Value.int .u8))/\w.grownBy w' none:=by
 subst hm;refine (dA ao n c zs x d w hb (by omega) hx hd).mono ?_;rintro e w' ⟨a,b,h1,h2,h3,_⟩;exact ⟨a,b,h1,h2,h3⟩
theorem yN (v c r t k f n:Int)(w:World)(hm:may ⟨v,c,r,t,k,f,n⟩=false) :
  Calls Tryz.prog 48 #[.agg #[.int .i64 v,.int .i64 c,.int .i64 r,.int .i64 t,.int .i64 k,.int .i64 f,.int .i64 n]] w fun en w'=>en=.returned (.tuple #[.slice none 0 0,.int .i64 71])/\w.grownBy w' none:=by
 have HM:=hJ hm;clear hm;go_enter Tryz.func48,Tryz.ntmps48
 go_wp2_with fail
 have G1:=hJ (World.grownBy_alloc w (.cells #[.int .i64 v,.int .i64 c,.int .i64 r,.int .i64 t,.int .i64 k,.int .i64 f,.int .i64 n] 28) none);generalize w.alloc (.cells #[.int .i64 v,.int .i64 c,.int .i64 r,.int .i64 t,.int .i64 k,.int .i64 f,.int .i64 n] 28)=w1 at *;refine (uJ v c r t k f n _).mono ?_;rintro en w2 ⟨rfl,hg2⟩;rw [HM.out];have G2:=hJ (gQ G1.out hg2);clear hg2 G1;go_wp2
 go_ret2
 exact ⟨rfl,G2.out⟩
theorem wJ (v c r t k f n:Nat)(w:World)(hm:may ⟨v,c,r,t,k,f,n⟩=true) :
  Calls Tryz.prog 48 #[.agg #[.int .i64 v,.int .i64 c,.int .i64 r,.int .i64 t,.int .i64 k,.int .i64 f,.int .i64 n]] w fun en w'=>∃ ao cp,en=.returned (.tuple #[.slice ao 4092 cp,.int .i64 0])/\ai w' ao 4092 cp (mB ⟨v,c,r,t,k,f,n⟩)/\w.grownBy w' none:=by
 have hb:=fG hm;simp only at hb;have HM:=hJ hm;have hv:v<18446744073709551616:=by omega
 have hc:c<18446744073709551616:=by omega
 have hr:r<18446744073709551616:=by omega
 have ht:t<18446744073709551616:=by omega
 have hk:k<18446744073709551616:=by omega
 have hf:f<18446744073709551616:=by omega
 have hn:n<18446744073709551616:=by omega
 have wv:IntKind.u64.wrap (v:Int)=(v:Int):=by simp [IntKind.wrap,IntKind.bits,IntKind.signed];omega
 have wc:IntKind.u64.wrap (c:Int)=(c:Int):=by simp [IntKind.wrap,IntKind.bits,IntKind.signed];omega
 have wrr:IntKind.u64.wrap (r:Int)=(r:Int):=by simp [IntKind.wrap,IntKind.bits,IntKind.signed];omega
 have wt:IntKind.u64.wrap (t:Int)=(t:Int):=by simp [IntKind.wrap,IntKind.bits,IntKind.signed];omega
 have wk:IntKind.u64.wrap (k:Int)=(k:Int):=by simp [IntKind.wrap,IntKind.bits,IntKind.signed];omega
 have wf:IntKind.u64.wrap (f:Int)=(f:Int):=by simp [IntKind.wrap,IntKind.bits,IntKind.signed];omega
 have wn:IntKind.u64.wrap (n:Int)=(n:Int):=by simp [IntKind.wrap,IntKind.bits,IntKind.signed];omega
 clear hb hm;obtain ⟨P,hP⟩:∃ P,P=Py++nb ⟨v,c,r,t,k,f,n⟩:=⟨_,rfl⟩
 have HP:Hid ([5,99,111,112]++lb 8 v++lb 4 c++lb 4 r++lb 1 t++lb 8 k++lb 4 f++lb 4 n=P):=by
  show _=_
  rw [hP];simp [nb,Py]
 have HMB:Hid (P++(List.replicate 4051 0++[101,110,100,46])=mB ⟨v,c,r,t,k,f,n⟩):=by
  show _=_
  rw [hP,List.append_assoc]
  rfl
 clear hP;generalize mB ⟨v,c,r,t,k,f,n⟩=M at *;go_enter Tryz.func48,Tryz.ntmps48
 go_wp2_with fail
 have G1:=hJ (World.grownBy_alloc w (.cells #[.int .i64 v,.int .i64 c,.int .i64 r,.int .i64 t,.int .i64 k,.int .i64 f,.int .i64 n] 28) none);have X1:=hJ (Hx.new w v c r t k f n);generalize w.alloc (.cells #[.int .i64 v,.int .i64 c,.int .i64 r,.int .i64 t,.int .i64 k,.int .i64 f,.int .i64 n] 28)=w1 at *;refine (uJ v c r t k f n _).mono ?_;rintro en w2 ⟨rfl,hg2⟩;rw [HM.out];have G2:=hJ (gQ G1.out hg2);have X2:=hJ (X1.out.ae hg2);clear hg2 G1 X1 HM;go_upto_region 5 with fail
 have B3:=hJ (ai.lit w2 5 #[.int .u8 5,.int .u8 99,.int .u8 111,.int .u8 112] [5,99,111,112] 4 rfl rfl);have gg:=World.grownBy_alloc w2 (.cells #[.int .u8 5,.int .u8 99,.int .u8 111,.int .u8 112] 5) none;have G3:=hJ (gQ G2.out gg);have X3:=hJ (X2.out.ae gg);clear gg G2 X2;generalize w2.alloc (.cells #[.int .u8 5,.int .u8 99,.int .u8 111,.int .u8 112] 5)=w3 at *;obtain ⟨c0,c1,c2,c3,c4,c5,c6⟩:=X3.out.cells
 go_wp2_with fail
 refine (rp _ 4 _ 12 _ v 8 _ B3.out (by omega) hv (by omega) rfl).mono ?_;rintro en w4 ⟨a4,q4,rfl,hb4,hg4⟩;have B4:=hJ hb4;have G4:=hJ (gQ G3.out hg4);have X4:=hJ (X3.out.ae hg4);clear hb4 hg4 B3 G3 X3 c0 c1 c2 c3 c4 c5 c6;obtain ⟨c0,c1,c2,c3,c4,c5,c6⟩:=X4.out.cells
 go_wp2_with fail
 refine (rp _ 12 _ 16 _ c 4 _ B4.out (by omega) hc (by omega) rfl).mono ?_;rintro en w5 ⟨a5,q5,rfl,kr,aK⟩;have B5:=hJ kr;have G5:=hJ (gQ G4.out aK);have X5:=hJ (X4.out.ae aK);clear kr aK B4 G4 X4 c0 c1 c2 c3 c4 c5 c6;obtain ⟨c0,c1,c2,c3,c4,c5,c6⟩:=X5.out.cells
 go_wp2_with fail
 refine (rp _ 16 _ 20 _ r 4 _ B5.out (by omega) hr (by omega) rfl).mono ?_;rintro en w6 ⟨a6,q6,rfl,jF,bE⟩;have B6:=hJ jF;have G6:=hJ (gQ G5.out bE);have X6:=hJ (X5.out.ae bE);clear jF bE B5 G5 X5 c0 c1 c2 c3 c4 c5 c6;obtain ⟨c0,c1,c2,c3,c4,c5,c6⟩:=X6.out.cells
 go_wp2_with fail
 refine (rp _ 20 _ 21 _ t 1 _ B6.out (by omega) ht (by omega) rfl).mono ?_;rintro en w7 ⟨a7,q7,rfl,xz,cG⟩;have B7:=hJ xz;have G7:=hJ (gQ G6.out cG);have X7:=hJ (X6.out.ae cG);clear xz cG B6 G6 X6 c0 c1 c2 c3 c4 c5 c6;obtain ⟨c0,c1,c2,c3,c4,c5,c6⟩:=X7.out.cells
 go_wp2_with fail
 refine (rp _ 21 _ 29 _ k 8 _ B7.out (by omega) hk (by omega) rfl).mono ?_;rintro en w8 ⟨a8,q8,rfl,ig,bU⟩;have B8:=hJ ig;have G8:=hJ (gQ G7.out bU);have X8:=hJ (X7.out.ae bU);clear ig bU B7 G7 X7 c0 c1 c2 c3 c4 c5 c6;obtain ⟨c0,c1,c2,c3,c4,c5,c6⟩:=X8.out.cells
 go_wp2_with fail
 refine (rp _ 29 _ 33 _ f 4 _ B8.out (by omega) hf (by omega) rfl).mono ?_;rintro en w9 ⟨a9,q9,rfl,Dz,qQ⟩;have B9:=hJ Dz;have G9:=hJ (gQ G8.out qQ);have X9:=hJ (X8.out.ae qQ);clear Dz qQ B8 G8 X8 c0 c1 c2 c3 c4 c5 c6;obtain ⟨c0,c1,c2,c3,c4,c5,c6⟩:=X9.out.cells
 go_wp2_with fail
 refine (rpo _ 33 _ 37 _ n 4 _ B9.out (by omega) hn (by omega) rfl).mono ?_;rintro en fI ⟨a10,zY,rfl,rP,aW⟩;rw [HP.out] at rP;have O10:Hid (fI.ownsRow w9.heap.size 5 1 (.slice a10 37 zY) (37+0) ((P++List.replicate 0 0).map (Value.int .u8))):=by rw [List.replicate_zero,List.append_nil];exact rP
 have SB:=hJ G9.out.size;have SB2:=hJ aW.size;have wZ:=hJ (gQ G9.out aW);clear rP aW B9 G9 X9 c0 c1 c2 c3 c4 c5 c6 HP;generalize w9.heap.size=bs at *;go_wp2;go_loopw [5] (fun out wr=>∃ k:Nat,37+k<=4088/\wr.ownsRow bs 5 1 out (37+k) ((P++List.replicate k 0).map (Value.int .u8))/\w.grownBy wr none/\bs<=wr.heap.size) (fun out _=>4088 - (match out with | .slice _ l _=>l | _=>0))
 case atStart=>exact ⟨0,by omega,O10.out,wZ.out,SB2.out⟩
 case round =>
  obtain ⟨j,hj,ho,hg,hsz⟩:=hrel;obtain ⟨ao,cp,hv',hB⟩:=aY ho;subst hv'
  by_cases hlt:37+j<4088
  ·have hg1:=World.grownBy_alloc wr (.cells #[.int .u8 0] 5) none
   have vJ:=hJ (ai.lit wr 5 _ [0] 1 rfl rfl);have O7:=hJ (ho.alloc (.cells #[.int .u8 0] 5));have G7:=hJ (gQ hg hg1);have S7:=hJ (Nat.le_trans hsz hg1.size);have UX:=hJ ho;have Jw:=hJ hg;obtain ⟨N,hN⟩:∃ N,N=37+j:=⟨_,rfl⟩;rw [<- hN] at O7 hlt hB hj UX ⊢;have Ry:=hJ hN;clear hg1 ho hg hB hN hsz;have BF:(N:Int)<4088:=by omega
   go_wp2_with (at_builtin;refine aq rfl _ _ rfl bs _ N (P++List.replicate j 0) rfl O7.out (some ⟨wr.heap.size,0,none⟩) 1 1 [0] rfl vJ.out (by omega) S7.out ?_)
   intro v8 w8 h8 g8;have bU:=bO Jw.out UX.out SB.out g8;have S8:=hJ (Nat.le_trans S7.out g8.size)
   have PU:w8.ownsRow bs 5 1 v8 (N+1) ((P++List.replicate (j+1) 0).map (Value.int .u8)):=by
    rw [List.replicate_succ',<- List.append_assoc,List.map_append];simpa using h8
   have O8:=hJ PU;have G8:=hJ bU;obtain ⟨UN,c8,hv8,_⟩:=aY PU;subst hv8;clear h8 PU g8 bU O7 G7 vJ S7;go_wp2;go_roundw
   case rel =>
    refine ⟨j+1,by have:=Ry.out;omega,?_,G8.out,S8.out⟩;rw [<- Nat.add_assoc,<- Ry.out];exact O8.out
   case measure=>simp;omega
  ·obtain rfl:j=4051:=by omega
   have hg1:=World.grownBy_alloc wr (.cells #[.int .u8 101,.int .u8 110,.int .u8 100,.int .u8 46] 5) none;have vJ:=hJ (ai.lit wr 5 #[.int .u8 101,.int .u8 110,.int .u8 100,.int .u8 46] [101,110,100,46] 4 rfl rfl);have O7:=hJ (ho.alloc (.cells #[.int .u8 101,.int .u8 110,.int .u8 100,.int .u8 46] 5));have S7:=hJ (Nat.le_trans hsz hg1.size);have UX:=hJ ho;have Jw:=hJ hg;clear hg1 ho hg hB hsz hj hlt;obtain ⟨Y,hY⟩:∃ Y,Y=P++List.replicate 4051 0:=⟨_,rfl⟩;rw [<- hY] at O7 UX;have HY:=hJ hY;clear hY
   go_wp2_with (at_builtin;refine aq rfl _ _ rfl bs _ 4088 Y rfl O7.out (some ⟨wr.heap.size,0,none⟩) 4 4 [101,110,100,46] rfl vJ.out (by omega) S7.out ?_)
   intro v8 w8 h8 g8;have G8:=hJ (bO Jw.out UX.out SB.out g8);have PU:w8.ownsRow bs 5 1 v8 4092 ((Y++[101,110,100,46]).map (Value.int .u8)):=by rw [List.map_append];exact h8
   obtain ⟨UN,c8,hv8,hB8⟩:=aY PU;subst hv8
   have B8:Hid (ai w8 UN 4092 c8 M):=by
    show ai _ _ _ _ _
    rw [<- HMB.out,<- List.append_assoc,<- HY.out];exact hB8
   clear h8 PU g8 hB8 O7 vJ S7;go_wp2
   go_ret2
   exact ⟨_,_,rfl,B8.out,G8.out⟩
theorem xB {P:Program}(hw:Region.wanted o (yielded ops a.tmps)=true)
  (h:∀ K:Act->World->Prop,(∀ a w,wpList P ops Q rest a w->K a w)->o.wp P a w K Q):wpList P ops Q (o::rest) a w :=
 wpList_step fun K hK=>by rw [if_pos hw];exact h K hK
theorem aV {t:TypeId}(ha:PV t N)(hw:Region.wanted o (yielded ops a.tmps)=true)(p:Operand)(ho:o.op=.load t p)(g:Nat)(zs:List Int)(hp:a.eval p=.pointer (some ⟨g,0,none⟩))(hr:Rt w g t zs)(hl:zs.length=N)
  (h:wpList Tryz.prog ops Q rest (a.put o.dst (mP zs)) w):wpList Tryz.prog ops Q (o::rest) a w:=by
 refine xB hw fun K hK=>?_
 unfold Oper.wp;have hv:=run_loadVar_row (P:=Tryz.prog) w g t t _ (0,0) _ hr ha.und rfl (by rw [ha.size];simp [hl])
 have hr:(execOp a.eval o).run Tryz.prog w=.ok (.value (mP zs)) w:=by
  simp [execOp,ho,hp,Instr.loadAt,Instr.sureAddr,hv,mP,Result.andThen]
 rw [hr,Oper.upon_value];exact hK _ _ h
theorem ed {t:TypeId}(ha:PV t N)(hw:Region.wanted o (yielded ops a.tmps)=true)(ho:o.op=.build t #[])(Z:List Int)(hZ:Z=List.replicate N 0)
  (h:wpList Tryz.prog ops Q rest (a.put o.dst (mP Z)) w):wpList Tryz.prog ops Q (o::rest) a w:=by
 obtain ⟨i,z,h1,h2,h3⟩:=ha.parts;obtain ⟨i8,h8⟩:=uF;refine xB hw fun K hK=>?_
 unfold Oper.wp
 have hr:(execOp a.eval o).run Tryz.prog w=.ok (.value (mP Z)) w:=by
  simp [execOp,ho,Instr.build,zeroValue,typeInfo,h1,h2,h3,run_underlying ha.und,sizeOf,h8,Instr.fill,hZ,mP]
 rw [hr,Oper.upon_value];exact hK _ _ h
structure Dc (w w':World)(U F S E G R:Nat)(zs:List Int)(p:Nat)(fs ss es:List Int):Prop where
 u:Hx w' U 0 0 0 0 0 0 0
 f:Rt w' F 221 fs
 s:Rt w' S 224 ss
 e:Rt w' E 101 es
 rd:Rd w' R G zs p 0
 gr:w.grownBy w' none
 lt:w.heap.size<=U/\U<F/\F<S/\S<E/\E<G/\G<R
theorem Dc.call (h:Dc w w' U F S E G R zs p fs ss es)(hr:Rd w'' R G zs p' 0)(hg:w'.grownBy w'' (some R)):Dc w w'' U F S E G R zs p' fs ss es:=by
 have:=h.lt;exact ⟨h.u.kept hg (fun e=>by have:=Option.some.inj e;omega),h.f.kept hg (fun e=>by have:=Option.some.inj e;omega),h.s.kept hg (fun e=>by have:=Option.some.inj e;omega),h.e.kept hg (fun e=>by have:=Option.some.inj e;omega),hr,af h.gr hg (by omega),h.lt⟩
theorem Dc.quiet (h:Dc w w' U F S E G R zs p fs ss es)(hg:w'.grownBy w'' none):Dc w w'' U F S E G R zs p fs ss es :=
 ⟨h.u.ae hg,h.f.ae hg,h.s.ae hg,h.e.ae hg,h.rd.kept hg (by simp) (by simp),gQ h.gr hg,h.lt⟩
theorem Dc.drew{w:World}(h:Dc w w' U F S E G R zs p fs ss es):Dc w w'.drew U F S E G R zs p fs ss es:=h.quiet ((Qt.refl w').drew.grown none)
theorem Dc.afi {fs':List Int}(h:Dc w w' U F S E G R zs p fs ss es)(hf:Rt w'' F 221 fs')(hg:w'.grownBy w'' (some F)):Dc w w'' U F S E G R zs p fs' ss es:=by
 have:=h.lt;exact ⟨h.u.kept hg (fun e=>by have:=Option.some.inj e;omega),hf,h.s.kept hg (fun e=>by have:=Option.some.inj e;omega),h.e.kept hg (fun e=>by have:=Option.some.inj e;omega),h.rd.kept hg (fun e=>by have:=Option.some.inj e;omega) (fun e=>by have:=Option.some.inj e;omega),af h.gr hg (by omega),h.lt⟩
theorem Dc.afj {ss':List Int}(h:Dc w w' U F S E G R zs p fs ss es)(hf:Rt w'' S 224 ss')(hg:w'.grownBy w'' (some S)):Dc w w'' U F S E G R zs p fs ss' es:=by
 have:=h.lt;exact ⟨h.u.kept hg (fun e=>by have:=Option.some.inj e;omega),h.f.kept hg (fun e=>by have:=Option.some.inj e;omega),hf,h.e.kept hg (fun e=>by have:=Option.some.inj e;omega),h.rd.kept hg (fun e=>by have:=Option.some.inj e;omega) (fun e=>by have:=Option.some.inj e;omega),af h.gr hg (by omega),h.lt⟩
theorem Dc.afk {es':List Int}(h:Dc w w' U F S E G R zs p fs ss es)(hf:Rt w'' E 101 es')(hg:w'.grownBy w'' (some E)):Dc w w'' U F S E G R zs p fs ss es':=by
 have:=h.lt;exact ⟨h.u.kept hg (fun e=>by have:=Option.some.inj e;omega),h.f.kept hg (fun e=>by have:=Option.some.inj e;omega),h.s.kept hg (fun e=>by have:=Option.some.inj e;omega),hf,h.rd.kept hg (fun e=>by have:=Option.some.inj e;omega) (fun e=>by have:=Option.some.inj e;omega),af h.gr hg (by omega),h.lt⟩
theorem mQ{cs:List Int}(h:zs.length=cs.length):splice cs 0 zs=zs:=by
 unfold splice;rw [List.take_zero,List.nil_append,Nat.zero_add,h,List.drop_length,List.append_nil]
theorem yO (ao:Option Addr)(n cap:Nat)(w:World)(h:n≠4092) :
  Calls Tryz.prog 188 #[.slice ao n cap] w fun en w'=>en=.returned (.tuple #[.agg #[.int .i64 0,.int .i64 0,.int .i64 0,.int .i64 0,.int .i64 0,.int .i64 0,.int .i64 0],.int .i64 70])/\w.grownBy w' none:=by
 have h':¬ (n:Int)=4092:=by omega
 go_enter Tryz.func188,Tryz.ntmps188;go_wp2;refine bodyPost_ret (cO rfl _ _ w.heap.size 0 0 0 0 0 0 0 rfl (Hx.new w 0 0 0 0 0 0 0)) rfl ?_;exact ⟨rfl,World.grownBy_alloc w _ none⟩
theorem Co (ao:Option Addr)(cap:Nat)(zs:List Int)(w:World)(hb:ai w ao 4092 cap zs)(bp:Bt zs)(hk:Mk w) :
  Calls Tryz.prog 188 #[.slice ao 4092 cap] w fun en w'=>en=.returned (.tuple #[.agg #[.int .i64 (aH zs).v,.int .i64 (aH zs).c,.int .i64 (aH zs).r,.int .i64 (aH zs).h,.int .i64 (aH zs).k,.int .i64 (aH zs).f,.int .i64 (aH zs).n],.int .i64 (aE zs)])/\w.grownBy w' none:=by
 have hl:=hb.len;have HB:=hJ hb;have HK:=hJ hk;have EF:=hJ (VK hl bp);obtain ⟨⟨v,c,r,t,k,f,n⟩,hH⟩:∃ H,H=rH zs:=⟨_,rfl⟩;have HH:=hJ hH;clear hH;have Yo:Hid (((zs.drop 1).take 3).length=3):=by show _=_;rw [List.length_take,List.length_drop,hl];rfl
 have yf:Hid (((zs.drop 37).take 4051).length=4051):=by show _=_;rw [List.length_take,List.length_drop,hl];rfl
 have Yp:Hid (((zs.drop 4088).take 4).length=4):=by show _=_;rw [List.length_take,List.length_drop,hl];rfl
 clear hb hk;obtain ⟨Z,hZ⟩:∃ Z:List Int,Z=List.replicate 4051 0:=⟨_,rfl⟩;have pR:Z.length=4051:=by rw [hZ,List.length_replicate]
 have HZ:=hJ hZ;clear hZ;go_enter Tryz.func188,Tryz.ntmps188;go_upto_region 4 with fail
 have U1:=hJ ((Hx.new w 0 0 0 0 0 0 0).ae (World.grownBy_alloc (w.alloc (.cells #[.int .i64 0,.int .i64 0,.int .i64 0,.int .i64 0,.int .i64 0,.int .i64 0,.int .i64 0] 28)) (.cells #[.int .u8 0,.int .u8 0,.int .u8 0] 221) none));have F1:Hid (Rt ((w.alloc (.cells #[.int .i64 0,.int .i64 0,.int .i64 0,.int .i64 0,.int .i64 0,.int .i64 0,.int .i64 0] 28)).alloc (.cells #[.int .u8 0,.int .u8 0,.int .u8 0] 221)) (w.heap.size+1) 221 [0,0,0]):=heap_alloc2_new w _ _;have G1:=hJ (aN w (.cells #[.int .i64 0,.int .i64 0,.int .i64 0,.int .i64 0,.int .i64 0,.int .i64 0,.int .i64 0] 28) (.cells #[.int .u8 0,.int .u8 0,.int .u8 0] 221));generalize (w.alloc (.cells #[.int .i64 0,.int .i64 0,.int .i64 0,.int .i64 0,.int .i64 0,.int .i64 0,.int .i64 0] 28)).alloc (.cells #[.int .u8 0,.int .u8 0,.int .u8 0] 221)=w1 at *
 go_wp2_with (refine ot fo rfl rfl Z HZ.out ?_)
 intro w2 hr2 hg2 hs2;have U2:=hJ (U1.out.ae hg2);have F2:=hJ (F1.out.ae hg2);have S2:=hJ hr2;have G2:=hJ (gQ G1.out hg2);have L2:=hJ F1.out.lt;clear hr2 hg2 hs2 U1 F1 G1;go_upto_region 6 with fail
 have g3:=World.grownBy_alloc w2 (.cells #[.int .u8 0,.int .u8 0,.int .u8 0,.int .u8 0] 101) none;have E3:Hid (Rt (w2.alloc (.cells #[.int .u8 0,.int .u8 0,.int .u8 0,.int .u8 0] 101)) w2.heap.size 101 [0,0,0,0]):=heap_alloc_new w2 _;have U3:=hJ (U2.out.ae g3);have F3:=hJ (F2.out.ae g3);have S3:=hJ (S2.out.ae g3);have G3:=hJ (gQ G2.out g3);have L3:=hJ S2.out.lt;clear g3 U2 F2 S2 G2;generalize w2.alloc (.cells #[.int .u8 0,.int .u8 0,.int .u8 0,.int .u8 0] 101)=w3 at *
 go_wp2_with fail
 refine (dR ao 4092 cap zs _ (HB.out.ae G3.out) (by omega)).mono ?_;rintro en w4 ⟨R,rfl,hr4,hg4,tP⟩
 have D4:Hid (Dc w w4 w.heap.size (w.heap.size+1) w1.heap.size w2.heap.size w3.heap.size R zs 0 [0,0,0] Z [0,0,0,0]) :=
  ⟨U3.out.ae hg4,F3.out.ae hg4,S3.out.ae hg4,E3.out.ae hg4,hr4,gQ G3.out hg4,⟨Nat.le_refl _,by omega,L2.out,L3.out,E3.out.lt,tP⟩⟩
 clear hr4 hg4 tP U3 F3 S3 E3 G3 L2 L3 HB;obtain ⟨U,hU⟩:∃ U,U=w.heap.size:=⟨_,rfl⟩;obtain ⟨F,hF⟩:∃ F,F=w.heap.size+1:=⟨_,rfl⟩;rw [<- hF,<- hU] at D4 ⊢;clear hU hF;generalize w1.heap.size=S at *;generalize w2.heap.size=E at *;generalize w3.heap.size=G at *;clear w1 w2 w3
 go_wp2_with fail
 refine (pG R G zs 0 _ D4.out.rd bp (by omega)).mono ?_;obtain ⟨kd,vS⟩:∃ kd,kd=le 1 (zs.drop 0):=⟨_,rfl⟩;rw [<- vS];have QH:=hJ vS;clear vS;rintro en w5 ⟨rfl,kz,aK⟩;have D5:=hJ (D4.out.call kz aK);clear kz aK D4;go_upto_region 8 with fail
 go_region_law
  (first
   | (have zz:=D6;refine bX rfl (.tmp 18) (.tmp 20) (by rfl) _ _ _ _ _ _ (by rfl) (by rfl) F 0 221 [0,0,0] ((zs.drop 1).take 3) (by exact D6.f) (by exact jF) (by omega) (fun _=>by rfl) (by decide) ?_;intro w7 nj cG Ab)
   | (go_simp;go_at_call 211;refine (fg R G zs 1 3 _ (by exact D5.out.drew.rd) (by omega)).mono ?_;rintro en w6 ⟨Uz,rfl,Af,jF,ku,bE⟩;clear Af;have D6:=D5.out.drew.call ku bE))
 all_goals
  rw [mQ (by rw [Yo.out];rfl)] at nj;have D7:=hJ (D6.afi nj cG);clear nj cG Ab D6 D5 jF ku bE;go_upto_region 9 with fail
  go_wp2_with fail
  refine (wI R G zs _ D7.out.rd bp hl D7.out.rd.lt).mono ?_;rw [<- HH.out];rintro en w8 ⟨rfl,Wq,bU⟩;have D8:=hJ (D7.out.call Wq bU);clear Wq bU D7;go_upto_region 10 with fail
  have g9:=World.grownBy_alloc w8 (.cells #[.int .i64 v,.int .i64 c,.int .i64 r,.int .i64 t,.int .i64 k,.int .i64 f,.int .i64 n] 28) none;have T9:=hJ (Hx.new w8 v c r t k f n);have D9:=hJ (D8.out.quiet g9);have HTR:=hJ D8.out.rd.lt.1;clear g9 D8;generalize w8.alloc (.cells #[.int .i64 v,.int .i64 c,.int .i64 r,.int .i64 t,.int .i64 k,.int .i64 f,.int .i64 n] 28)=w9 at *;generalize w8.heap.size=T at *
  go_region_law
   (first
    | (have zz:=RM;refine bX rfl (.tmp 24) (.tmp 26) (by rfl) _ _ _ _ _ _ (by rfl) (by rfl) S 0 224 Z ((zs.drop 37).take 4051) (by exact RM.s) (by exact ug) (by omega) (fun _=>by rfl) (by omega) ?_;intro BN rO gY Nu)
    | (go_simp;go_at_call 211;refine (fg R G zs 37 4051 _ (by exact D9.out.drew.rd) (by omega)).mono ?_;rintro en fI ⟨ald,rfl,WX,ug,tQ,aW⟩;clear WX;have RM:=D9.out.drew.call tQ aW;have T10:=T9.out.kept (gQ ((Qt.refl w9).drew.grown (some R)) aW) (fun e=>by have:=Option.some.inj e;have:=HTR.out;omega)))
  all_goals
   rw [mQ (by rw [yf.out,pR])] at rO;have D11:=hJ (RM.afj rO gY);have T11:=hJ (T10.kept gY (fun e=>by have:=Option.some.inj e;have:=HTR.out;have:=RM.lt;omega));clear rO gY Nu RM T10 D9 T9 ug tQ aW;go_upto_region 11 with fail
   go_region_law
    (first
     | (have zz:=UZ;refine bX rfl (.tmp 28) (.tmp 30) (by rfl) _ _ _ _ _ _ (by rfl) (by rfl) E 0 101 [0,0,0,0] ((zs.drop 4088).take 4) (by exact UZ.e) (by exact abj) (by omega) (fun _=>by rfl) (by decide) ?_;intro JA JN JO afm)
     | (go_simp;go_at_call 211;refine (fg R G zs 4088 4 _ (by exact D11.out.drew.rd) (by omega)).mono ?_;rintro en QU ⟨ale,rfl,afn,abj,yA,og⟩;clear afn;have UZ:=D11.out.drew.call yA og;have T12:=T11.out.kept (gQ ((Qt.refl BN).drew.grown (some R)) og) (fun e=>by have:=Option.some.inj e;have:=HTR.out;omega)))
   all_goals
    rw [mQ (by rw [Yp.out];rfl)] at JN;have ov:=hJ (UZ.afk JN JO);have T13:=hJ (T12.kept JO (fun e=>by have:=Option.some.inj e;have:=HTR.out;have:=UZ.lt;omega));clear JN JO afm UZ T12 D11 T11 abj yA og;go_upto_region 12 with fail
    obtain ⟨a0,a1,a2,b0,b1,b2,b3⟩:=HK.out.ae ov.out.gr
    by_cases k5:kd=5
    ·subst k5
     have HK5:Hid (zs.take 1=[5]):=by
      have h1:=nO 1 (zs.drop 0) (bp.drop 0) (by rw [List.length_drop];omega);rw [<- QH.out,List.drop_zero] at h1;exact h1.symm
     have eU:∀ (x y:Operand) (W:World),(eqGuard .neq 221 x y (mP ((zs.drop 1).take 3)) (.agg #[.int .u8 99,.int .u8 111,.int .u8 112])).run Tryz.prog W=.ok () W:=fun x y W=>qa lJ x y _ [99,111,112] W
     have hgS:∀ (x y:Operand) (W:World),(eqGuard .neq 224 x y (mP ((zs.drop 37).take 4051)) (mP Z)).run Tryz.prog W=.ok () W:=fun x y W=>qa fo x y _ _ W
     have hgE:∀ (x y:Operand) (W:World),(eqGuard .neq 101 x y (mP ((zs.drop 4088).take 4)) (.agg #[.int .u8 101,.int .u8 110,.int .u8 100,.int .u8 46])).run Tryz.prog W=.ok () W:=fun x y W=>qa lK x y _ [101,110,100,46] W
     have Yq:=fun W=>yL lJ ((zs.drop 1).take 3) [99,111,112] W Yo.out rfl
     have Yr:=fun W=>yL fo ((zs.drop 37).take 4051) Z W yf.out pR
     have Ys:=fun W=>yL lK ((zs.drop 4088).take 4) [101,110,100,46] W Yp.out rfl
     by_cases f5:(zs.drop 1).take 3=[99,111,112]
     ·have hqF:∀ W:World,(binOp .neq 221 (mP ((zs.drop 1).take 3)) (.agg #[.int .u8 99,.int .u8 111,.int .u8 112])).run Tryz.prog W=.ok (.bool false) W:=fun W=>(Yq W).trans (by rw [decide_eq_true f5];rfl)
      have Yt:=hJ f5
      by_cases s5:(zs.drop 37).take 4051=Z
      ·have hqS:∀ W:World,(binOp .neq 224 (mP ((zs.drop 37).take 4051)) (mP Z)).run Tryz.prog W=.ok (.bool false) W:=fun W=>(Yr W).trans (by rw [decide_eq_true s5];rfl)
       have HS5:=hJ s5
       by_cases e5:(zs.drop 4088).take 4=[101,110,100,46]
       ·have hqE:∀ W:World,(binOp .neq 101 (mP ((zs.drop 4088).take 4)) (.agg #[.int .u8 101,.int .u8 110,.int .u8 100,.int .u8 46])).run Tryz.prog W=.ok (.bool false) W:=fun W=>(Ys W).trans (by rw [decide_eq_true e5];rfl)
        have HE5:=hJ e5;clear f5 s5 e5 Yq Yr Ys;generalize (zs.drop 1).take 3=fs at *;generalize (zs.drop 37).take 4051=ss at *;generalize (zs.drop 4088).take 4=es at *;obtain ⟨t0,t1,t2,t3,t4,t5,t6⟩:=T13.out.cells
        go_wp2_with (first | (refine aV lJ (by rfl) _ rfl F _ rfl ov.out.f Yo.out ?_) | (refine aV fo (by rfl) _ rfl S _ rfl ov.out.s yf.out ?_) | (refine ed fo (by rfl) rfl Z HZ.out ?_) | (refine aV lK (by rfl) _ rfl E _ rfl ov.out.e Yp.out ?_))
        refine (qd v c r t k f n _).mono ?_;rintro en Wj ⟨rfl,kL⟩;have Yu:=hJ (ov.out.quiet kL);have T15:=hJ (T13.out.ae kL);clear t0 t1 t2 t3 t4 t5 t6 a0 a1 a2 b0 b1 b2 b3 eU hgS hgE hqF hqS hqE ov T13 kL;cases hm:may ⟨v,c,r,t,k,f,n⟩ with
        | true =>
         have HT:Hid (dM zs=true):=EF.out.2 ⟨by rw [<- HH.out];exact hm,HK5.out,Yt.out,by rw [HS5.out];exact HZ.out,HE5.out⟩;clear hm;obtain ⟨t0,t1,t2,t3,t4,t5,t6⟩:=T15.out.cells
         go_wp2_with (refine bG rfl _ _ rfl U v c r t k f n 0 0 0 0 0 0 0 rfl rfl Yu.out.u ?_)
         intro Wl afp wz QX;have PS:=hJ (af Yu.out.gr wz Yu.out.lt.1);clear wz QX t0 t1 t2 t3 t4 t5 t6;go_wp2;refine bodyPost_ret (cO rfl _ _ U v c r t k f n rfl afp) rfl ?_;rw [(AV HT.out).1,(AV HT.out).2,<- HH.out];exact ⟨rfl,PS.out⟩
        | false =>
         have HT:Hid (dM zs=false):=by
          cases hh:dM zs with
          | false=>rfl
          | true=>exact absurd ((by rw [HH.out];exact (EF.out.1 hh).1:may ⟨v,c,r,t,k,f,n⟩=true)) (by rw [hm];decide)
         clear hm
         go_wp2_with (refine bG rfl _ _ rfl U 0 0 0 0 0 0 0 0 0 0 0 0 0 0 rfl rfl Yu.out.u ?_)
         intro Nv yP iH yQ;have yB:=hJ (af Yu.out.gr iH Yu.out.lt.1);clear iH yQ;go_wp2;refine bodyPost_ret (cO rfl _ _ U 0 0 0 0 0 0 0 rfl yP) rfl ?_;rw [(pO HT.out).1,(pO HT.out).2];exact ⟨rfl,yB.out⟩
       ·have hqE:∀ W:World,(binOp .neq 101 (mP ((zs.drop 4088).take 4)) (.agg #[.int .u8 101,.int .u8 110,.int .u8 100,.int .u8 46])).run Tryz.prog W=.ok (.bool true) W:=fun W=>(Ys W).trans (by rw [decide_eq_false e5];rfl)
        have HT:Hid (dM zs=false):=by
         cases hh:dM zs with
         | false=>rfl
         | true=>exact absurd (EF.out.1 hh).2.2.2.2 e5
        clear f5 s5 e5 Yq Yr Ys;generalize (zs.drop 1).take 3=fs at *;generalize (zs.drop 37).take 4051=ss at *;generalize (zs.drop 4088).take 4=es at *
        go_wp2_with (first | (refine aV lJ (by rfl) _ rfl F _ rfl ov.out.f Yo.out ?_) | (refine aV fo (by rfl) _ rfl S _ rfl ov.out.s yf.out ?_) | (refine ed fo (by rfl) rfl Z HZ.out ?_) | (refine aV lK (by rfl) _ rfl E _ rfl ov.out.e Yp.out ?_) | (refine bG rfl _ _ rfl U 0 0 0 0 0 0 0 0 0 0 0 0 0 0 rfl rfl ov.out.u ?_))
        intro Nv yP iH yQ;have yB:=hJ (af ov.out.gr iH ov.out.lt.1);clear iH yQ;go_wp2;refine bodyPost_ret (cO rfl _ _ U 0 0 0 0 0 0 0 rfl yP) rfl ?_;rw [(pO HT.out).1,(pO HT.out).2];exact ⟨rfl,yB.out⟩
      ·have hqS:∀ W:World,(binOp .neq 224 (mP ((zs.drop 37).take 4051)) (mP Z)).run Tryz.prog W=.ok (.bool true) W:=fun W=>(Yr W).trans (by rw [decide_eq_false s5];rfl)
       have HT:Hid (dM zs=false):=by
        cases hh:dM zs with
        | false=>rfl
        | true=>exact absurd (by rw [(EF.out.1 hh).2.2.2.1];exact HZ.out.symm) s5
       clear f5 s5 Yq Yr Ys;generalize (zs.drop 1).take 3=fs at *;generalize (zs.drop 37).take 4051=ss at *;generalize (zs.drop 4088).take 4=es at *
       go_wp2_with (first | (refine aV lJ (by rfl) _ rfl F _ rfl ov.out.f Yo.out ?_) | (refine aV fo (by rfl) _ rfl S _ rfl ov.out.s yf.out ?_) | (refine ed fo (by rfl) rfl Z HZ.out ?_) | (refine aV lK (by rfl) _ rfl E _ rfl ov.out.e Yp.out ?_) | (refine bG rfl _ _ rfl U 0 0 0 0 0 0 0 0 0 0 0 0 0 0 rfl rfl ov.out.u ?_))
       intro Nv yP iH yQ;have yB:=hJ (af ov.out.gr iH ov.out.lt.1);clear iH yQ;go_wp2;refine bodyPost_ret (cO rfl _ _ U 0 0 0 0 0 0 0 rfl yP) rfl ?_;rw [(pO HT.out).1,(pO HT.out).2];exact ⟨rfl,yB.out⟩
     ·have hqF:∀ W:World,(binOp .neq 221 (mP ((zs.drop 1).take 3)) (.agg #[.int .u8 99,.int .u8 111,.int .u8 112])).run Tryz.prog W=.ok (.bool true) W:=fun W=>(Yq W).trans (by rw [decide_eq_false f5];rfl)
      have HT:Hid (dM zs=false):=by
       cases hh:dM zs with
       | false=>rfl
       | true=>exact absurd (EF.out.1 hh).2.2.1 f5
      clear f5 Yq Yr Ys;generalize (zs.drop 1).take 3=fs at *;generalize (zs.drop 37).take 4051=ss at *;generalize (zs.drop 4088).take 4=es at *
      go_wp2_with (first | (refine aV lJ (by rfl) _ rfl F _ rfl ov.out.f Yo.out ?_) | (refine aV fo (by rfl) _ rfl S _ rfl ov.out.s yf.out ?_) | (refine ed fo (by rfl) rfl Z HZ.out ?_) | (refine aV lK (by rfl) _ rfl E _ rfl ov.out.e Yp.out ?_) | (refine bG rfl _ _ rfl U 0 0 0 0 0 0 0 0 0 0 0 0 0 0 rfl rfl ov.out.u ?_))
      intro Nv yP iH yQ;have yB:=hJ (af ov.out.gr iH ov.out.lt.1);clear iH yQ;go_wp2;refine bodyPost_ret (cO rfl _ _ U 0 0 0 0 0 0 0 rfl yP) rfl ?_;rw [(pO HT.out).1,(pO HT.out).2];exact ⟨rfl,yB.out⟩
    ·have HT:Hid (dM zs=false):=by
      cases hh:dM zs with
      | false=>rfl
      | true =>
       have h1:=(EF.out.1 hh).2.1;exact absurd (by rw [QH.out,List.drop_zero,<- nE,h1];rfl) k5
     have k1:((kd:Int)==5)=false:=by simp;omega
     have k2:((kd:Int) != 5)=true:=by simp;omega
     obtain ⟨u0,u1,u2,u3,u4,u5,u6⟩:=ov.out.u.cells;have v0:=ov.out.u.frozen 0;clear a0 a1 a2 b0 b1 b2 b3;clear u0 u1 u2 u3 u4 u5 u6 v0
     go_wp2_with (refine bG rfl _ _ rfl U 0 0 0 0 0 0 0 0 0 0 0 0 0 0 rfl rfl ov.out.u ?_)
     intro Nv yP iH yQ;have yB:=hJ (af ov.out.gr iH ov.out.lt.1);clear iH yQ;go_wp2;refine bodyPost_ret (cO rfl _ _ U 0 0 0 0 0 0 0 rfl yP) rfl ?_;rw [(pO HT.out).1,(pO HT.out).2];exact ⟨rfl,yB.out⟩
theorem EH (v c r t k f n:Int)(w:World)(hm:may ⟨v,c,r,t,k,f,n⟩=true)(xb:Mk w) :
  Calls Tryz.prog 187 #[.agg #[.int .i64 v,.int .i64 c,.int .i64 r,.int .i64 t,.int .i64 k,.int .i64 f,.int .i64 n]] w fun en w'=>∃ g,en=.returned (.tuple #[.slice (some ⟨g,0,none⟩) 4092 4092,.int .i64 0])/\Rw w' g (mB ⟨v,c,r,t,k,f,n⟩)/\w.heap.size<=g/\w.grownBy w' none:=by
 have b:=fG hm;simp only at b;obtain ⟨v,rfl⟩:∃ x:Nat,v=(x:Int):=⟨v.toNat,by omega⟩;obtain ⟨c,rfl⟩:∃ x:Nat,c=(x:Int):=⟨c.toNat,by omega⟩;obtain ⟨r,rfl⟩:∃ x:Nat,r=(x:Int):=⟨r.toNat,by omega⟩;obtain ⟨t,rfl⟩:∃ x:Nat,t=(x:Int):=⟨t.toNat,by omega⟩;obtain ⟨k,rfl⟩:∃ x:Nat,k=(x:Int):=⟨k.toNat,by omega⟩;obtain ⟨f,rfl⟩:∃ x:Nat,f=(x:Int):=⟨f.toNat,by omega⟩;obtain ⟨n,rfl⟩:∃ x:Nat,n=(x:Int):=⟨n.toNat,by omega⟩;exact EG v c r t k f n w hm xb
theorem Cp (v c r t k f n:Int)(w:World)(xb:Mk w) :
  Calls Tryz.prog 187 #[.agg #[.int .i64 v,.int .i64 c,.int .i64 r,.int .i64 t,.int .i64 k,.int .i64 f,.int .i64 n]] w fun en w'=>∃ bo m,en=.returned (.tuple #[.slice bo m m,.int .i64 (eM ⟨v,c,r,t,k,f,n⟩)])/\ai w' bo m m (oM ⟨v,c,r,t,k,f,n⟩)/\(0<m->∃ g,bo=some ⟨g,0,none⟩/\w.heap.size<=g/\Rw w' g (oM ⟨v,c,r,t,k,f,n⟩))/\w.grownBy w' none:=by
 cases hm:may ⟨v,c,r,t,k,f,n⟩ with
 | true =>
  refine (EH v c r t k f n w hm xb).mono ?_;rintro en w' ⟨g,rfl,h1,h2,h3⟩;rw [(wW hm).1,(wW hm).2];exact ⟨_,4092,rfl,h1.all 4092 4092 (DW _).symm,fun _=>⟨g,rfl,h2,h1⟩,h3⟩
 | false =>
  refine (JM v c r t k f n w hm).mono ?_;rintro en w' ⟨rfl,h3⟩;rw [(MA hm).1,(MA hm).2];exact ⟨none,0,rfl,ai.empty _,fun h=>by omega,h3⟩
theorem Cq (ao:Option Addr)(n cap:Nat)(zs:List Int)(w:World)(hb:ai w ao n cap zs)(bp:Bt zs)(hk:Mk w) :
  Calls Tryz.prog 188 #[.slice ao n cap] w fun en w'=>en=.returned (.tuple #[.agg #[.int .i64 (aH zs).v,.int .i64 (aH zs).c,.int .i64 (aH zs).r,.int .i64 (aH zs).h,.int .i64 (aH zs).k,.int .i64 (aH zs).f,.int .i64 (aH zs).n],.int .i64 (aE zs)])/\w.grownBy w' none:=by
 by_cases h:n=4092
 ·subst h
  exact Co ao cap zs w hb bp hk
 ·refine (yO ao n cap w h).mono ?_
  rintro en w' ⟨rfl,h3⟩;have hd:dM zs=false:=by simp [dM,hb.len,h]
  rw [(pO hd).1,(pO hd).2];exact ⟨rfl,h3⟩
theorem uK (v c r t k f n:Int)(w:World) :
  Calls Tryz.prog 48 #[.agg #[.int .i64 v,.int .i64 c,.int .i64 r,.int .i64 t,.int .i64 k,.int .i64 f,.int .i64 n]] w fun en w'=>∃ bo m cp,en=.returned (.tuple #[.slice bo m cp,.int .i64 (eM ⟨v,c,r,t,k,f,n⟩)])/\ai w' bo m cp (oM ⟨v,c,r,t,k,f,n⟩)/\w.grownBy w' none:=by
 cases hm:may ⟨v,c,r,t,k,f,n⟩ with
 | true =>
  have b:=fG hm;simp only at b;obtain ⟨v,rfl⟩:∃ x:Nat,v=(x:Int):=⟨v.toNat,by omega⟩;obtain ⟨c,rfl⟩:∃ x:Nat,c=(x:Int):=⟨c.toNat,by omega⟩;obtain ⟨r,rfl⟩:∃ x:Nat,r=(x:Int):=⟨r.toNat,by omega⟩;obtain ⟨t,rfl⟩:∃ x:Nat,t=(x:Int):=⟨t.toNat,by omega⟩;obtain ⟨k,rfl⟩:∃ x:Nat,k=(x:Int):=⟨k.toNat,by omega⟩;obtain ⟨f,rfl⟩:∃ x:Nat,f=(x:Int):=⟨f.toNat,by omega⟩;obtain ⟨n,rfl⟩:∃ x:Nat,n=(x:Int):=⟨n.toNat,by omega⟩;refine (wJ v c r t k f n w hm).mono ?_;rintro en w' ⟨ao,cp,rfl,h1,h3⟩;rw [(wW hm).1,(wW hm).2];exact ⟨_,4092,_,rfl,h1,h3⟩
 | false =>
  refine (yN v c r t k f n w hm).mono ?_;rintro en w' ⟨rfl,h3⟩;rw [(MA hm).1,(MA hm).2];exact ⟨none,0,0,rfl,ai.empty _,h3⟩
end Go.Proofs.YtgldkdbkaachkaaGreatDoor
