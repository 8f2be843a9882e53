import Derived.Test.YtepcgckapoljpaaGreatQ19
import Derived.Deep.RegionHeld3
import Derived.Deep.CutBlock
import Derived.Deep.DeepCutAuto
import Derived.Deep.CutRange
import Derived.Deep.QuietTactic
set_option maxRecDepth 100000
set_option maxHeartbeats 16000000
namespace Go.Proofs.YtepcgckapoljpaaGreat
open Go.RowKit
theorem node_leaf {w:World}{a:Option Addr}{m c:Nat}{ps:List PrT}(no:Int)(h:PsT w a m c ps):NodeT 0 (w.alloc (.cells #[.int .i64 no,.slice a m c] 120)) (.iface 118 (.pointer (some ⟨w.heap.size,0,none⟩))) (⟨no,ps⟩:LfT) :=
 ⟨_,a,m,c,rfl,heap_alloc_new w _,h.kept (FrT.of (World.grownBy_alloc w _ none))⟩
theorem node_branch {n:Nat}{w:World}{a:Option Addr}{m c:Nat}{sa:Option Addr}{sm sc:Nat}{r:RwT (NdT n)}(no:Int)(h:RowT n w a m c sa sm sc r):NodeT (n+1) (w.alloc (.cells #[.int .i64 no,.slice a m c,.slice sa sm sc] 136)) (.iface 134 (.pointer (some ⟨w.heap.size,0,none⟩))) (⟨no,r⟩:BnT (NdT n)) :=
 ⟨_,a,m,c,sa,sm,sc,rfl,heap_alloc_new w _,(h.kept (FrT.of (World.grownBy_alloc w _ none))).ns,(h.kept (FrT.of (World.grownBy_alloc w _ none))).ss⟩
theorem sums_least:∀ (p:Nat) (L:List It),2*L.length<=sums p L
 | _,[]=>by simp
 | p,x::L=>by
  have:=sums_least p L;rw [sums];simp only [List.length_cons];omega
theorem size_least (L:List It):2*L.length+3<=size L:=by
 unfold size;have:=sums_least (pre L) L;omega
theorem bsize_least (L:List (List Int)):11*L.length+12<=bsize L:=by
 unfold bsize;have:=bsums_least (bpre L) L;omega
structure BxT (w:World)(g:Nat):Prop where
 row:∃ x y,w.heap[g]?=some (.cells #[x,y] 77 (0,0))
theorem BxT.keptN {w w':World}{g:Nat}(h:BxT w g)(hg:w.grownBy w' none):BxT w' g:=by
 obtain ⟨x,y,e⟩:=h.row;exact ⟨x,y,heap_kept e hg⟩
theorem BxT.cells {w:World}{g:Nat}(h:BxT w g):(∃ x,w.cell? ⟨g,0,none⟩=some x)/\(∃ y,w.cell? ⟨g,1,none⟩=some y)/\w.frozen? ⟨g,0,none⟩=false/\w.frozen? ⟨g,1,none⟩=false:=by
 obtain ⟨x,y,e⟩:=h.row;exact ⟨⟨x,cell_heap e rfl⟩,⟨y,cell_heap e rfl⟩,frozen_of_row w g 0 _ _ e,frozen_of_row w g 1 _ _ e⟩
theorem BxT.put {w:World}{g:Nat}(h:BxT w g)(u v:Value):((w.setCell ⟨g,0,none⟩ u).setCell ⟨g,1,none⟩ v).heap[g]?=some (.cells #[u,v] 77 (0,0))/\FrT w ((w.setCell ⟨g,0,none⟩ u).setCell ⟨g,1,none⟩ v)/\w.grownBy ((w.setCell ⟨g,0,none⟩ u).setCell ⟨g,1,none⟩ v) (some g):=by
 obtain ⟨x,y,e⟩:=h.row;have k1:=heap_setCell_same w g 0 _ _ u e;have k2:=heap_setCell_same _ g 1 _ _ v k1;refine ⟨?_,(FrT.set e (by decide)).trans (FrT.set k1 (by decide)),gZq (grown_cell w g 0 u) (grown_cell _ g 1 v)⟩;rw [k2]
 rfl
theorem ret_row {fn:Func}{p:Tmp}{n:Nat}{r:RwT (NdT n)}{w w5:World}{a:Option Addr}{m c:Nat}{sa:Option Addr}{sm sc:Nat}(h:fn.results=#[.cell p 77])(hb:BxT w5 w.heap.size)(hr:RowT n w5 a m c sa sm sc r)(hg:w.grownBy w5 none) :
  (∀ tmps:Array Value,tmps.getD p undef=.pointer (some ⟨w.heap.size,0,none⟩)->(results fn tmps).run Tryz.prog ((w5.setCell ⟨w.heap.size,0,none⟩ (.slice a m c)).setCell ⟨w.heap.size,1,none⟩ (.slice sa sm sc))=.ok (.agg #[.slice a m c,.slice sa sm sc]) ((w5.setCell ⟨w.heap.size,0,none⟩ (.slice a m c)).setCell ⟨w.heap.size,1,none⟩ (.slice sa sm sc))) /\
  RowT n ((w5.setCell ⟨w.heap.size,0,none⟩ (.slice a m c)).setCell ⟨w.heap.size,1,none⟩ (.slice sa sm sc)) a m c sa sm sc r/\w.grownBy ((w5.setCell ⟨w.heap.size,0,none⟩ (.slice a m c)).setCell ⟨w.heap.size,1,none⟩ (.slice sa sm sc)) none:=by
 obtain ⟨k1,k2,k3⟩:=hb.put (.slice a m c) (.slice sa sm sc);exact ⟨fun tmps hp=>results_row h tmps _ _ _ _ hp k1,hr.kept k2,grown_new hg k3 (Nat.le_refl _)⟩
theorem ret_end {fn:Func}{p:Tmp}{n:Nat}{r:RwT (NdT n)}{w w6:World}{ac:Act}{a:Option Addr}{m c:Nat}{sa:Option Addr}{sm sc:Nat}(h1:∀ tmps:Array Value,tmps.getD p undef=.pointer (some ⟨w.heap.size,0,none⟩)->(results fn tmps).run Tryz.prog w6=.ok (.agg #[.slice a m c,.slice sa sm sc]) w6)(h2:RowT n w6 a m c sa sm sc r)(h3:w.grownBy w6 none)(hp:ac.tmps.getD p undef=.pointer (some ⟨w.heap.size,0,none⟩))(hd:ac.defers=[]) :
  bodyPost Tryz.prog fn (fun en w'=>(∃ a m c sa sm sc,en=.returned (.agg #[.slice a m c,.slice sa sm sc])/\RowT n w' a m c sa sm sc r)/\w.grownBy w' none) Exit.ret ac w6 :=
 bodyPost_ret (h1 _ hp) hd ⟨⟨_,_,_,_,_,_,rfl,h2⟩,h3⟩
theorem BxT.new (w:World)(x y:Value):BxT (w.alloc (.cells #[x,y] 77)) w.heap.size:=⟨x,y,heap_alloc_new w _⟩
theorem two_leaves {w:World}{b off n c r:Nat}{ps:List PrT}{so:Option Addr}{sn sc:Nat}{s:List Int}(h:PsT w (some ⟨b,off,none⟩) n c ps)(hs:BtyT w so sn sc s)(hr:r<=n) :
  (Calls Tryz.prog 99 #[.iface 118 (.pointer (some ⟨w.heap.size,0,none⟩)),.slice so sn sc,.iface 118 (.pointer (some ⟨w.heap.size+1,0,none⟩))] ((w.alloc (.cells #[.int .i64 0,.slice (some ⟨b,off,none⟩) r c] 120)).alloc (.cells #[.int .i64 0,.slice (some ⟨b,off+r*3,none⟩) (n - r) (c - r)] 120)).drew
   fun en w'=>(∃ a m c sa sm sc,en=.returned (.agg #[.slice a m c,.slice sa sm sc])/\RowT 0 w' a m c sa sm sc ⟨[(⟨0,ps.take r⟩:LfT),(⟨0,ps.drop r⟩:LfT)],[s]⟩)/\w.grownBy w' none) /\
  (Calls Tryz.prog 99 #[.iface 118 (.pointer (some ⟨w.heap.size+1,0,none⟩)),.slice so sn sc,.iface 118 (.pointer (some ⟨w.heap.size,0,none⟩))] ((w.alloc (.cells #[.int .i64 0,.slice (some ⟨b,off+r*3,none⟩) (n - r) (c - r)] 120)).alloc (.cells #[.int .i64 0,.slice (some ⟨b,off,none⟩) r c] 120)).drew
   fun en w'=>(∃ a m c sa sm sc,en=.returned (.agg #[.slice a m c,.slice sa sm sc])/\RowT 0 w' a m c sa sm sc ⟨[(⟨0,ps.take r⟩:LfT),(⟨0,ps.drop r⟩:LfT)],[s]⟩)/\w.grownBy w' none):=by
 have t1:PsT w (some ⟨b,off,none⟩) r c (ps.take r):=SlT.take h hr;have t2:PsT w (some ⟨b,off+r*3,none⟩) (n - r) (c - r) (ps.drop r):=SlT.drop h hr;constructor
 ·have n1:=node_leaf 0 t1
  have ga:=World.grownBy_alloc w (.cells #[.int .i64 0,.slice (some ⟨b,off,none⟩) r c] 120) none;have n2:=node_leaf 0 (t2.kept (FrT.of ga));have gb:=World.grownBy_alloc (w.alloc (.cells #[.int .i64 0,.slice (some ⟨b,off,none⟩) r c] 120)) (.cells #[.int .i64 0,.slice (some ⟨b,off+r*3,none⟩) (n - r) (c - r)] 120) none;have gd:((w.alloc (.cells #[.int .i64 0,.slice (some ⟨b,off,none⟩) r c] 120)).alloc (.cells #[.int .i64 0,.slice (some ⟨b,off+r*3,none⟩) (n - r) (c - r)] 120)).grownBy ((w.alloc (.cells #[.int .i64 0,.slice (some ⟨b,off,none⟩) r c] 120)).alloc (.cells #[.int .i64 0,.slice (some ⟨b,off+r*3,none⟩) (n - r) (c - r)] 120)).drew none:=(Qt.refl _).drew.grown none;have e:(w.alloc (.cells #[.int .i64 0,.slice (some ⟨b,off,none⟩) r c] 120)).heap.size=w.heap.size+1:=by simp
  rw [e] at n2;refine (both_row (n:=0) (NodeT.kept 0 n1 (FrT.of gb)) n2 ⟨_,_,_,rfl,hs.kept (FrT.of (gZq ga gb))⟩ gd).mono ?_;rintro en w' ⟨h1,h2⟩;exact ⟨h1,gZq (gZq ga gb) (gZq gd h2)⟩
 ·have n1:=node_leaf 0 t2
  have ga:=World.grownBy_alloc w (.cells #[.int .i64 0,.slice (some ⟨b,off+r*3,none⟩) (n - r) (c - r)] 120) none;have n2:=node_leaf 0 (t1.kept (FrT.of ga));have gb:=World.grownBy_alloc (w.alloc (.cells #[.int .i64 0,.slice (some ⟨b,off+r*3,none⟩) (n - r) (c - r)] 120)) (.cells #[.int .i64 0,.slice (some ⟨b,off,none⟩) r c] 120) none;have gd:((w.alloc (.cells #[.int .i64 0,.slice (some ⟨b,off+r*3,none⟩) (n - r) (c - r)] 120)).alloc (.cells #[.int .i64 0,.slice (some ⟨b,off,none⟩) r c] 120)).grownBy ((w.alloc (.cells #[.int .i64 0,.slice (some ⟨b,off+r*3,none⟩) (n - r) (c - r)] 120)).alloc (.cells #[.int .i64 0,.slice (some ⟨b,off,none⟩) r c] 120)).drew none:=(Qt.refl _).drew.grown none;have e:(w.alloc (.cells #[.int .i64 0,.slice (some ⟨b,off+r*3,none⟩) (n - r) (c - r)] 120)).heap.size=w.heap.size+1:=by simp
  rw [e] at n2;refine (both_row (n:=0) n2 (NodeT.kept 0 n1 (FrT.of gb)) ⟨_,_,_,rfl,hs.kept (FrT.of (gZq ga gb))⟩ gd).mono ?_;rintro en w' ⟨h1,h2⟩;exact ⟨h1,gZq (gZq ga gb) (gZq gd h2)⟩
theorem settledLeaf_any (a:Option Addr)(n c:Nat)(ps:List PrT)(w:World)(hl:PsT w a n c ps)(hn:n<=5000)(hs:Srt ps)(hv:∀ p∈ps,Vp p)(hc:4092<size (its ps)->1<=cutL (its ps)/\cutL (its ps)<ps.length) :
  Calls Tryz.prog 76 #[.slice a n c] w fun en w'=>(∃ a m c sa sm sc,en=.returned (.agg #[.slice a m c,.slice sa sm sc])/\RowT 0 w' a m c sa sm sc (settleL ps))/\w.grownBy w' none:=by
 have hlen:=hl.len;have G1:=hZq (World.grownBy_alloc w (.cells #[.slice none 0 0,.slice none 0 0] 77) none);have B1:=hZq (BxT.new w (.slice none 0 0) (.slice none 0 0));have P1:=hZq (hl.kept (FrT.of G1.out));have HI:=hZq (itemsOf_any a n c ps _ P1.out (by omega))
 have hkk:∀ x∈its ps,x.key.length<=140737488351232:=by
  intro x hx;obtain ⟨p,hp,rfl⟩:=List.mem_map.1 hx;have:=(hv p hp).k2
  show p.key.length<=_
  omega
 have HK:=hZq hkk;clear hkk hl
 by_cases h0:n=0
 ·have e0:settleL ps=⟨[],[]⟩:=by unfold settleL;rw [if_pos (by omega)]
  rw [e0];subst h0;go_enter Tryz.func76,Tryz.ntmps76
  go_wp2_with fail
  refine HI.out.mono ?_;rintro en w2 ⟨⟨g,rfl,_⟩,hg2⟩;have B2:=B1.out.keptN hg2;obtain ⟨⟨x,cx⟩,⟨y,cy⟩,z1,z2⟩:=B2.cells;have HB:=hZq B2;have HG:=hZq (gZq G1.out hg2);clear hg2 B2;go_wp2;obtain ⟨r1,r2,r3⟩:=ret_row (n:=0) (r:=⟨[],[]⟩) (fn:=Tryz.f76) (p:=2) (a:=none) (m:=0) (c:=0) (sa:=none) (sm:=0) (sc:=0) rfl HB.out ⟨SlT.nil _ _ _ _,SlT.nil _ _ _ _⟩ HG.out;refine ret_end r1 r2 r3 ?_ ?_ <;> rfl
 ·have n0:¬ ((n:Int)=0):=by omega
  have HS:=hZq (fun (W:World) (g:Nat) (h:SlT W 167 4 (IiT W) (some ⟨g,0,none⟩) n n (its ps))=>size_any (some ⟨g,0,none⟩) n n (its ps) W h.il (by rw [its_len,hlen]) hn HK.out)
  by_cases hf:size (its ps)<=4092
  ·have e0:settleL ps=⟨[⟨0,ps⟩],[]⟩:=by unfold settleL;rw [if_neg (by omega),if_pos hf]
   rw [e0];go_enter Tryz.func76,Tryz.ntmps76
   go_wp2_with fail
   refine HI.out.mono ?_;rintro en w2 ⟨⟨g,rfl,hit⟩,hg2⟩;have HT:=hZq hit;have G2:=hZq hg2;clear hit hg2
   go_wp2_with fail
   refine (HS.out w2 g HT.out).mono ?_;rintro en w3 ⟨rfl,hg3⟩;have G3:=hZq (gZq G2.out hg3);clear hg3
   go_wp2_with fail
   refine (cfits_any _ w3).mono ?_;rintro en w4 ⟨rfl,rfl⟩;have NL:=hZq (node_leaf 0 (P1.out.kept (FrT.of G3.out)));have GL:=hZq (World.grownBy_alloc w4 (.cells #[.int .i64 0,.slice a n c] 120) none)
   go_wp2_with fail
   refine (alone_row (n:=0) NL.out (World.grownBy.refl _ _)).mono ?_;rintro en w5 ⟨⟨a5,m5,c5,sa5,sm5,sc5,rfl,hr5⟩,hg5⟩;have G5:=hZq (gZq G3.out (gZq GL.out hg5));have B5:=B1.out.keptN G5.out;obtain ⟨⟨x,cx⟩,⟨y,cy⟩,z1,z2⟩:=B5.cells;have HB:=hZq B5;have HR:=hZq hr5;clear B5 hr5 hg5;go_wp2;obtain ⟨r1,r2,r3⟩:=ret_row (fn:=Tryz.f76) (p:=2) rfl HB.out HR.out (gZq G1.out G5.out);refine ret_end r1 r2 r3 ?_ ?_ <;> rfl
  ·obtain ⟨hc1,hc2⟩:=hc (by omega)
   have e0:settleL ps=⟨[⟨0,ps.take (cutL (its ps))⟩,⟨0,ps.drop (cutL (its ps))⟩],[sepT (keyT ps (cutL (its ps) - 1)) (keyT ps (cutL (its ps)))]⟩:=by unfold settleL;rw [if_neg (by omega),if_neg hf]
   rw [e0];have HC:=hZq (fun (W:World) (g:Nat) (h:SlT W 167 4 (IiT W) (some ⟨g,0,none⟩) n n (its ps))=>cutLeaf_any (some ⟨g,0,none⟩) n n (its ps) W h.il (by rw [its_len,hlen]) hn (Nat.le_refl _) (by omega) HK.out);obtain ⟨s1,s2,s3⟩:=srt_cut hs hc1 hc2;obtain ⟨p,p1,p2,p3⟩:=keyT_mem (ps:=ps) (i:=cutL (its ps) - 1) (by omega);obtain ⟨q,q1,q2,q3⟩:=keyT_mem hc2;have hvp:=hv p p3;have hvq:=hv q q3;have hbest:=cutL_best (its ps);rw [its_len,hlen] at hbest;have HU:=hZq (fun (r:Nat) (h:Best (fun i=>size ((its ps).take i)) (fun i=>size ((its ps).drop i)) (n - 1) r)=>h.uniq hbest);generalize cutL (its ps)=k at *;rw [<- p2,<- q2] at s3;have S3:=hZq s3;have HE:=hZq (show [sepT (keyT ps (k - 1)) (keyT ps k)]=[sepT p.key q.key] by rw [p2,q2]);rw [HE.out];have hk:k<n:=by omega
   clear hbest e0 s1 s2 s3 hc;go_enter Tryz.func76,Tryz.ntmps76
   go_wp2_with fail
   refine HI.out.mono ?_;rintro en w2 ⟨⟨g,rfl,hit⟩,hg2⟩;have HT:=hZq hit;have G2:=hZq hg2;clear hit hg2
   go_wp2_with fail
   refine (HS.out w2 g HT.out).mono ?_;rintro en w3 ⟨rfl,hg3⟩;have T3:Hid (SlT w3 167 4 (IiT w3) (some ⟨g,0,none⟩) n n (its ps)):=HT.out.mono (by decide) (FrT.of hg3) (fun _ _ h=>h.kept (FrT.of hg3));have G3:=hZq (gZq G2.out hg3);clear hg3
   go_wp2_with fail
   refine (cfits_any _ w3).mono ?_;rintro en w4 ⟨rfl,rfl⟩
   go_wp2_with fail
   refine (HC.out w4 g T3.out).mono ?_;rintro en w5 ⟨⟨r,rfl,hb⟩,hg5⟩;have hr:=HU.out r hb;subst hr;have G5:=hZq (gZq G3.out hg5);clear hb hg5 HU;have P5:=P1.out.kept (FrT.of G5.out);obtain ⟨b,off,ka,kn,kc,va,vn,vc,ca,cn,cc,rfl,c0,_,_,hp⟩:=P5.pair p1;obtain ⟨b',off',ka',kn',kc',va',vn',vc',ca',cn',cc',e',d0,_,_,hq⟩:=P5.pair q1;simp only [Option.some.injEq,Addr.mk.injEq] at e';obtain ⟨rfl,rfl,_⟩:=e';have lk:=hvp.k2;have lq:=hvq.k2;have lkn:=hp.k.b.len;have lqn:=hq.k.b.len;obtain ⟨j,hj⟩:∃ j,r - 1=j:=⟨_,rfl⟩;rw [hj] at c0;have hk0:(0:Int)<=(j:Int)/\(j:Int)<(n:Int):=by omega
   have hk1:(0:Int)<=((r:Nat):Int)/\((r:Nat):Int)<(n:Int):=by omega
   have ek:((r:Nat):Int) - 1=(j:Int):=by omega
   have wk:IntKind.i64.wrap (j:Int)=(j:Int):=by rw [IntKind.wrap_i64];omega
   have SQ:=hZq (fun (W:World) (h:W.heap=w5.heap)=>sep_yes ka ka' kn kn' kc kc' p.key q.key W (hp.k.b.heap h) (hq.k.b.heap h) hvp.kb hvq.kb (by omega) (by omega) hq.k.l1 S3.out);have H5:=hZq P5;clear hp hq P5 HI HS HC p1 p2 q1 q2 hj HE;go_upto_region 7 with fail
   go_cut [5] from 25 to 40 (fun s5 wx=>∃ g cap,s5=.slice (some ⟨g,0,none⟩) (com p.key q.key+1) cap/\BtyT wx (some ⟨g,0,none⟩) (com p.key q.key+1) cap (sepT p.key q.key)/\w5.grownBy wx none)
   case first =>
    go_region_with (go_at_call 98;refine (SQ.out w5.drew rfl).mono ?_;rintro en w6 ⟨g6,cap6,rfl,ho6,hg6⟩)
    all_goals (go_wp2_with fail;go_meet;exact ⟨g6,cap6,rfl,BtyT.of_owns ho6,gZq ((Qt.refl _).drew.grown none) hg6⟩)
   case rest =>
    obtain ⟨g6,cap6,rfl,hb6,hg6⟩:=hcut;have G6:=hZq (gZq G5.out hg6);have P6:=H5.out.kept (FrT.of hg6);have Q6:=hZq (two_leaves P6 hb6 (Nat.le_of_lt hk));have hcap:=P6.cap;have g4:¬ ((c:Int)<(r:Int)):=by omega
    have g5:(r:Int)<=(c:Int):=by omega
    have g6':(r:Int)<=(n:Int):=by omega
    have g7:(0:Int)<=(r:Int):=by omega
    have g8:¬ c=r:=by omega
    have g9:((n:Int) - (r:Int))=((n - r:Nat):Int):=by omega
    have g10:((c:Int) - (r:Int))=((c - r:Nat):Int):=by omega
    have B6:=hZq B1.out;clear hb6 hg6 P6 SQ B1;go_upto_region 8 with fail
    go_region_held3 (fun _=>True) (trivial) (first
     | (go_at_call 99;with_reducible refine Q6.out.1.mono ?_;rintro en w9 ⟨⟨a9,m9,c9,sa9,sm9,sc9,rfl,hr9⟩,hg9⟩;obtain ⟨⟨x,cx⟩,⟨y,cy⟩,z1,z2⟩:=(B6.out.keptN (gZq G6.out hg9)).cells)
     | (go_at_call 99;with_reducible refine Q6.out.2.mono ?_;rintro en w9 ⟨⟨a9,m9,c9,sa9,sm9,sc9,rfl,hr9⟩,hg9⟩;obtain ⟨⟨x,cx⟩,⟨y,cy⟩,z1,z2⟩:=(B6.out.keptN (gZq G6.out hg9)).cells))
    all_goals
     go_wp2;obtain ⟨r1,r2,r3⟩:=ret_row (fn:=Tryz.f76) (p:=2) rfl (B6.out.keptN (gZq G6.out hg9)) hr9 (gZq G1.out (gZq G6.out hg9));refine ret_end r1 r2 r3 ?_ ?_ <;> rfl
theorem ElsT.keptN {w w':World}{q:Option Addr}{e:TypeId}{k:Nat}{Ls:List (List (List Value))}(h:ElsT w q e k Ls)(he:ScT e=false)(hg:w.grownBy w' none):ElsT w' q e k Ls:=by
 refine ⟨fun j hj=>?_⟩;obtain ⟨B,o,a,n,c,h1,h2,h3⟩:=h.row j hj;exact ⟨B,o,a,n,c,h1,hg.cell h2 (by simp),h3.kept he (FrT.of hg)⟩
theorem cat2_tp {T:Type}(J:World->List Value->T->Prop)(hJ:∀ w w',w.grownBy w' none->∀ e x,J w e x->J w' e x){w:World}(a1:Option Addr)(n1 c1:Nat)(L1:List T)(a2:Option Addr)(n2 c2:Nat)(L2:List T)(h1:SlT w 108 3 (J w) a1 n1 c1 L1)(h2:SlT w 108 3 (J w) a2 n2 c2 L2)(ht:(L1++L2).length<=100000) :
  Calls Tryz.prog 77 #[.slice (some ⟨w.heap.size,0,none⟩) 2 2] (w.alloc (.cells #[.slice a1 n1 c1,.slice a2 n2 c2] 109)).drew fun en w'=>(∃ a N c,en=.returned (.slice a N c)/\SlT w' 108 3 (J w') a N c (L1++L2))/\w.grownBy w' none:=by
 obtain ⟨e1,x1,y1⟩:=h1.ex;obtain ⟨e2,x2,y2⟩:=h2.ex;have ga:=World.grownBy_alloc w (.cells #[.slice a1 n1 c1,.slice a2 n2 c2] 109) none;have gd:(w.alloc (.cells #[.slice a1 n1 c1,.slice a2 n2 c2] 109)).grownBy (w.alloc (.cells #[.slice a1 n1 c1,.slice a2 n2 c2] 109)).drew none:=(Qt.refl _).drew.grown none;have l0:=ElsT.lit2 w 109 108 (by decide) 3 a1 a2 n1 c1 n2 c2 e1 e2 x1 x2;have l1:ElsT (w.alloc (.cells #[.slice a1 n1 c1,.slice a2 n2 c2] 109)).drew (some ⟨w.heap.size,0,none⟩) 108 3 [e1,e2]:=l0.keptN (by decide) gd;have hy:=(y1.app y2);have hl:=hy.len;have e:[e1,e2].flatten=e1++e2:=by simp
 refine (concat_tp _ 2 2 [e1,e2] _ l1 rfl (by omega) (by rw [e,hl];exact ht)).mono ?_;rintro en w' ⟨⟨a,c,rfl,h9⟩,hg⟩;rw [e] at h9;rw [hl] at h9;have g:=gZq ga (gZq gd hg);exact ⟨⟨a,_,c,by rw [e,hl],_,h9,hy.mono (fun _ _ h=>hJ _ _ g _ _ h)⟩,g⟩
theorem cat3_tp {T:Type}(J:World->List Value->T->Prop)(hJ:∀ w w',w.grownBy w' none->∀ e x,J w e x->J w' e x){w:World}(a1:Option Addr)(n1 c1:Nat)(L1:List T)(a2:Option Addr)(n2 c2:Nat)(L2:List T)(a3:Option Addr)(n3 c3:Nat)(L3:List T)(h1:SlT w 108 3 (J w) a1 n1 c1 L1)(h2:SlT w 108 3 (J w) a2 n2 c2 L2)(h3:SlT w 108 3 (J w) a3 n3 c3 L3)(ht:(L1++(L2++L3)).length<=100000) :
  Calls Tryz.prog 77 #[.slice (some ⟨w.heap.size,0,none⟩) 3 3] (w.alloc (.cells #[.slice a1 n1 c1,.slice a2 n2 c2,.slice a3 n3 c3] 109)).drew fun en w'=>(∃ a N c,en=.returned (.slice a N c)/\SlT w' 108 3 (J w') a N c (L1++(L2++L3)))/\w.grownBy w' none:=by
 obtain ⟨e1,x1,y1⟩:=h1.ex;obtain ⟨e2,x2,y2⟩:=h2.ex;obtain ⟨e3,x3,y3⟩:=h3.ex;have ga:=World.grownBy_alloc w (.cells #[.slice a1 n1 c1,.slice a2 n2 c2,.slice a3 n3 c3] 109) none;have gd:(w.alloc (.cells #[.slice a1 n1 c1,.slice a2 n2 c2,.slice a3 n3 c3] 109)).grownBy (w.alloc (.cells #[.slice a1 n1 c1,.slice a2 n2 c2,.slice a3 n3 c3] 109)).drew none:=(Qt.refl _).drew.grown none;have l0:=ElsT.lit3 w 109 108 (by decide) 3 a1 a2 a3 n1 c1 n2 c2 n3 c3 e1 e2 e3 x1 x2 x3;have l1:ElsT (w.alloc (.cells #[.slice a1 n1 c1,.slice a2 n2 c2,.slice a3 n3 c3] 109)).drew (some ⟨w.heap.size,0,none⟩) 108 3 [e1,e2,e3]:=l0.keptN (by decide) gd;have hy:=(y1.app (y2.app y3));have hl:=hy.len;have e:[e1,e2,e3].flatten=e1++(e2++e3):=by simp
 refine (concat_tp _ 3 3 [e1,e2,e3] _ l1 rfl (by omega) (by rw [e,hl];exact ht)).mono ?_;rintro en w' ⟨⟨a,c,rfl,h9⟩,hg⟩;rw [e] at h9;rw [hl] at h9;have g:=gZq ga (gZq gd hg);exact ⟨⟨a,_,c,by rw [e,hl],_,h9,hy.mono (fun _ _ h=>hJ _ _ g _ _ h)⟩,g⟩
theorem ip_keptN:∀ w w',w.grownBy w' none->∀ e x,IpT w e x->IpT w' e x:=fun _ _ hg _ _ h=>h.kept (FrT.of hg)
theorem ib_keptN:∀ w w',w.grownBy w' none->∀ e x,IbT w e x->IbT w' e x:=fun _ _ hg _ _ h=>h.kept (FrT.of hg)
theorem in_keptN (n:Nat):∀ w w',w.grownBy w' none->∀ e x,InT n w e x->InT n w' e x:=fun _ _ hg _ _ h=>h.kept (FrT.of hg)
def ChT (n:Nat)(R:Option (RwT (NdT n)))(en:Ending)(w':World):Prop:=match R with
 | none=>en=.panicked [{ v:=.iface 117 (.agg #[]),recovered:=false }]
 | some r=>∃ a m c sa sm sc,en=.returned (.agg #[.slice a m c,.slice sa sm sc])/\RowT n w' a m c sa sm sc r
theorem ret_endC {fn:Func}{p:Tmp}{n:Nat}{r:RwT (NdT n)}{w w6:World}{ac:Act}{a:Option Addr}{m c:Nat}{sa:Option Addr}{sm sc:Nat}(h1:∀ tmps:Array Value,tmps.getD p undef=.pointer (some ⟨w.heap.size,0,none⟩)->(results fn tmps).run Tryz.prog w6=.ok (.agg #[.slice a m c,.slice sa sm sc]) w6)(h2:RowT n w6 a m c sa sm sc r)(h3:w.grownBy w6 none)(hp:ac.tmps.getD p undef=.pointer (some ⟨w.heap.size,0,none⟩))(hd:ac.defers=[]) :
  bodyPost Tryz.prog fn (fun en w'=>ChT n (some r) en w'/\w.grownBy w' none) Exit.ret ac w6:=ret_end h1 h2 h3 hp hd
structure LokT (L:List PrT):Prop where
 s:Srt L
 v:∀ p∈L,Vp p
 f:size (its L)<=4092
theorem LokT.of {x:NdT 0}(h:OkT 0 x):LokT (LfT.ps x):=⟨h.2.1,h.2.2.2,h.2.2.1⟩
theorem LokT.nil:LokT []:=⟨List.Pairwise.nil,fun p hp=>by simp at hp,by decide⟩
theorem LokT.len {L:List PrT}(h:LokT L):L.length<=2045:=by
 have:=size_least (its L);rw [its_len] at this;have:=h.f;omega
theorem upd_len {L:List PrT}{key:List Int}{now:List PrT}(h1:now.length<=1):(L.take (findT L key)++(now++L.drop (endT L key))).length<=L.length+1:=by
 have:=find_end L key;have:=find_le L key;simp only [List.length_append,List.length_take,List.length_drop];omega
theorem settle_upd {L:List PrT}{key:List Int}{now:List PrT}(hL:LokT L)(hn:NowT key now)(a:Option Addr)(n c:Nat)(w:World)(hl:PsT w a n c (L.take (findT L key)++(now++L.drop (endT L key)))) :
  Calls Tryz.prog 76 #[.slice a n c] w fun en w'=>(∃ a m c sa sm sc,en=.returned (.agg #[.slice a m c,.slice sa sm sc])/\RowT 0 w' a m c sa sm sc (settleL (L.take (findT L key)++(now++L.drop (endT L key)))))/\w.grownBy w' none:=by
 have hlen:=hl.len;have hle:=upd_len (key:=key) (now:=now) (L:=L) hn.one;have h9:=hL.len;rw [upd_leaf hL.s] at *
 have hv:∀ p∈updT L key now,Vp p:=fun p hp=>by
  rcases upd_mem hp with h | h
  ·exact hn.vp p h
  ·exact hL.v p h
 have hk:=ok_settleL (upd_srt hL.s hn.key hn.one) hv (upd_cut hL.s hL.f hL.v (fun p hp=>⟨hn.key p hp,hn.vp p hp⟩) hn.one);exact settledLeaf_any a n c _ w hl (by omega) (upd_srt hL.s hn.key hn.one) hv hk.2.2
theorem lchanged_some (b:Nat)(x:LfT)(ka:Option Addr)(kn kc:Nat)(key:List Int)(na:Option Addr)(nn nc:Nat)(now:List PrT)(w:World)(hx:NodeT 0 w (.iface 118 (.pointer (some ⟨b,0,none⟩))) x)(hL:LokT x.ps)(hk:Byt w ka kn kc key)(bt:Bt key)(hnow:PsT w na nn nc now)(hn:NowT key now)(hne:x.ps≠[]) :
  Calls Tryz.prog 68 #[.pointer (some ⟨b,0,none⟩),.slice ka kn kc,.slice na nn nc] w fun en w'=>ChT 0 (changedT 0 x key now) en w'/\w.grownBy w' none:=by
 obtain ⟨b',a,m,c,e,hb,hps⟩:=hx;simp only [Value.iface.injEq,Value.pointer.injEq,Option.some.injEq,Addr.mk.injEq,true_and,and_true] at e;subst e;have hlen:=hps.len;have hle:=hL.len;have hc0:=cell_heap (i:=1) hb rfl
 obtain ⟨g,off,rfl⟩:∃ g off,a=some ⟨g,off,none⟩:=by
  obtain ⟨es,h1,_⟩:=hps.ex;exact h1.where (by have:=List.length_pos_iff.2 hne;omega)
 have G1:=hZq (World.grownBy_alloc w (.cells #[.slice none 0 0,.slice none 0 0] 77) none);have B1:=hZq (BxT.new w (.slice none 0 0) (.slice none 0 0));have P1:=hZq (hps.kept (FrT.of G1.out));have N1:=hZq (hnow.kept (FrT.of G1.out));have c1:=G1.out.cell hc0 (by simp);have LF:=hZq (lfind_any b _ m c ka kn kc x.ps key _ c1 P1.out (by omega) hL.s (hk.keptN G1.out) bt (fun p hp=>(hL.v p hp).kb));have hfe:=find_end x.ps key;have hel:=find_le x.ps key;have hul:=upd_len (key:=key) (now:=now) (L:=x.ps) hn.one;have HE:Hid (endT x.ps key=if hasT x.ps key then findT x.ps key+1 else findT x.ps key):=rfl;have HC:Hid (changedT 0 x key now=if sameT x.ps now key then none else some (settleL (x.ps.take (findT x.ps key)++(now++x.ps.drop (endT x.ps key))))):=rfl;have HSM:Hid (sameT x.ps now key=decide (((x.ps.take (endT x.ps key)).drop (findT x.ps key)).map PrT.val=now.map PrT.val)):=rfl;have SU:=hZq (fun (a:Option Addr) (n c:Nat) (w:World)=>settle_upd hL hn a n c w);have hnl:=hnow.len;have hn1:=hn.one;have VA:=hZq (fun p (hp:p∈(x.ps.take (endT x.ps key)).drop (findT x.ps key))=>(hL.v p (List.mem_of_mem_take (List.mem_of_mem_drop hp))).vb);have VN:=hZq (fun p hp=>(hn.vp p hp).vb);have hcap:=hps.cap;rw [HC.out];have hbl:=cell_lt hc0
 have T2:hasT x.ps key=true/\endT x.ps key=findT x.ps key+1∨hasT x.ps key=false/\endT x.ps key=findT x.ps key:=by
  have:=HE.out;cases hh:hasT x.ps key
  ·rw [hh] at this
   exact .inr ⟨rfl,this⟩
  ·rw [hh] at this
   exact .inl ⟨rfl,this⟩
 generalize findT x.ps key=f at *;generalize hasT x.ps key=hh at *;generalize endT x.ps key=t at *;clear hb hps hnow hk hL hn hc0 HE HC;rcases T2 with ⟨rfl,rfl⟩ | ⟨rfl,ht⟩
 ·have hcf:¬ c=f:=by omega
  by_cases hct:c=f+1
  ·subst hct
   have hm:m=f+1:=by omega
   subst hm;go_enter Tryz.func68,Tryz.ntmps68
   go_wp2_with fail
   refine LF.out.mono ?_;rintro en w2 ⟨rfl,hg2⟩;have G2:=hZq hg2;have c2:=hg2.cell c1 (by simp);have P2:=hZq (P1.out.kept (FrT.of hg2));have N2:=hZq (N1.out.kept (FrT.of hg2));have D1:=hZq (show PsT w2 (some ⟨g,off+f*3,none⟩) 1 (1) ((x.ps.take (f+1)).drop f) from by have:=SlT.drop (SlT.take P2.out (Nat.le_refl _)) (i:=f) (by omega);exact (show SlT w2 108 3 (IpT w2) (some ⟨g,off+f*3,none⟩) 1 (1) _ from by simpa using this));clear hg2 LF c1
   go_wp2_with fail
   refine (equalFunc_any _ _ _ _ _ _ ((x.ps.take (f+1)).drop f) now w2 D1.out N2.out (by omega) (by omega) VA.out VN.out).mono ?_;rintro en w3 ⟨rfl,hg3⟩;rw [<- HSM.out];have G3:=hZq (gZq G2.out hg3);have c3:=hg3.cell c2 (by simp);have P3:=hZq (P2.out.kept (FrT.of hg3));have N3:=hZq (N2.out.kept (FrT.of hg3));clear hg3 c2 D1 P2 N2 VA VN;cases hs:sameT x.ps now key with
   | true =>
    clear HSM SU;go_wp2;exact ⟨rfl,rfl,gZq G1.out G3.out⟩
   | false =>
    have E1:Hid (PsT w3 (some ⟨g,off,none⟩) f (f+1) (x.ps.take f)):=SlT.take P3.out (by omega);have E3:Hid (PsT w3 (some ⟨g,off,none⟩) 0 (0) (x.ps.drop (f+1))):=SlT.end P3.out (by omega) _ _ (by omega) (fun e=>by cases e) (fun x hx=>by cases hx;exact ⟨_,_,rfl⟩);have CT:=hZq (cat3_tp IpT ip_keptN _ _ _ _ _ _ _ _ _ _ _ _ E1.out N3.out E3.out (by omega));clear HSM;have v1:(0:Int)<=(f:Int):=by omega
    have v2:(f:Int)<=((f+1:Nat):Int):=by omega
    have v3:¬ (((f+1:Nat):Int)<(f:Int)):=by omega
    have v8:(f:Int)<=(f:Int)+1:=by omega
    have v9:(0:Int)<=(f:Int)+1:=by omega
    have v4:((f+1:Nat):Int)<=((f+1:Nat):Int):=by omega
    have v5:((f+1:Nat):Int)<=((f+1:Nat):Int):=by omega
    have v6:(0:Int)<=((f+1:Nat):Int):=by omega
    have v7:(f:Int)<=((f+1:Nat):Int):=by omega
    have hbn:¬ b=w.heap.size:=by omega
    have hbn2:¬ w.heap.size=b:=by omega
    skip
    go_upto_region 7 with fail
    go_region_held3 (fun w'=>w'.cell? ⟨b,1,none⟩=some (.slice (some ⟨g,off,none⟩) (f+1) (f+1))) (first | exact c3 | exact c5 | exact c6 | go_keep) (first
     | (go_at_call 77;(with_reducible refine CT.out.mono ?_);rintro en w5 ⟨⟨a5,n5,cc5,rfl,hp5⟩,hg5⟩;have c5:=hg5.cell c3 (by simp);have hq5:PsT w5 a5 n5 cc5 (x.ps.take f++(now++x.ps.drop (f+1))):=hp5)
     | (go_at_call 76;(with_reducible refine (SU.out _ _ _ _ hq5).mono ?_);rintro en w6 ⟨⟨a6,m6,cc6,sa6,sm6,sc6,rfl,hr6⟩,hg6⟩;have c6:=hg6.cell c5 (by simp);obtain ⟨⟨x,cx⟩,⟨y,cy⟩,z1,z2⟩:=(B1.out.keptN (gZq G3.out (gZq hg5 hg6))).cells))
    all_goals go_wp2
    all_goals
     obtain ⟨r1,r2,r3⟩:=ret_row (fn:=Tryz.f68) (p:=6) rfl (B1.out.keptN (gZq G3.out (gZq hg5 hg6))) hr6 (gZq G1.out (gZq G3.out (gZq hg5 hg6)));refine ret_endC r1 r2 r3 ?_ ?_ <;> rfl
  ·have u1:(f:Int)+1<=(m:Int):=by omega
   have u2:(f:Int)+1<=(c:Int):=by omega
   have u3:(0:Int)<=(f:Int)+1:=by omega
   go_enter Tryz.func68,Tryz.ntmps68
   go_wp2_with fail
   refine LF.out.mono ?_;rintro en w2 ⟨rfl,hg2⟩;have G2:=hZq hg2;have c2:=hg2.cell c1 (by simp);have P2:=hZq (P1.out.kept (FrT.of hg2));have N2:=hZq (N1.out.kept (FrT.of hg2));have D1:=hZq (show PsT w2 (some ⟨g,off+f*3,none⟩) 1 (c - f) ((x.ps.take (f+1)).drop f) from by have:=SlT.drop (SlT.take P2.out (i:=f+1) (by omega)) (i:=f) (by omega);exact (show SlT w2 108 3 (IpT w2) (some ⟨g,off+f*3,none⟩) 1 (c - f) _ from by simpa using this));clear hg2 LF c1
   go_wp2_with fail
   refine (equalFunc_any _ _ _ _ _ _ ((x.ps.take (f+1)).drop f) now w2 D1.out N2.out (by omega) (by omega) VA.out VN.out).mono ?_;rintro en w3 ⟨rfl,hg3⟩;rw [<- HSM.out];have G3:=hZq (gZq G2.out hg3);have c3:=hg3.cell c2 (by simp);have P3:=hZq (P2.out.kept (FrT.of hg3));have N3:=hZq (N2.out.kept (FrT.of hg3));clear hg3 c2 D1 P2 N2 VA VN;cases hs:sameT x.ps now key with
   | true =>
    clear HSM SU;go_wp2;exact ⟨rfl,rfl,gZq G1.out G3.out⟩
   | false =>
    have E1:Hid (PsT w3 (some ⟨g,off,none⟩) f (c) (x.ps.take f)):=SlT.take P3.out (by omega);have E3:Hid (PsT w3 (some ⟨g,off+(f+1)*3,none⟩) (m - (f+1)) (c - (f+1)) (x.ps.drop (f+1))):=SlT.drop P3.out (by omega);have CT:=hZq (cat3_tp IpT ip_keptN _ _ _ _ _ _ _ _ _ _ _ _ E1.out N3.out E3.out (by omega));clear HSM;have v1:(0:Int)<=(f:Int):=by omega
    have v2:(f:Int)<=((c:Nat):Int):=by omega
    have v3:¬ (((c:Nat):Int)<(f:Int)):=by omega
    have v8:(f:Int)<=(f:Int)+1:=by omega
    have v9:(0:Int)<=(f:Int)+1:=by omega
    have v4:((f+1:Nat):Int)<=((m:Nat):Int):=by omega
    have v5:((f+1:Nat):Int)<=((c:Nat):Int):=by omega
    have v6:(0:Int)<=((f+1:Nat):Int):=by omega
    have v7:(f:Int)<=((m:Nat):Int):=by omega
    have hbn:¬ b=w.heap.size:=by omega
    have hbn2:¬ w.heap.size=b:=by omega
    skip
    go_upto_region 7 with fail
    go_region_held3 (fun w'=>w'.cell? ⟨b,1,none⟩=some (.slice (some ⟨g,off,none⟩) (m) (c))) (first | exact c3 | exact c5 | exact c6 | go_keep) (first
     | (go_at_call 77;(with_reducible refine CT.out.mono ?_);rintro en w5 ⟨⟨a5,n5,cc5,rfl,hp5⟩,hg5⟩;have c5:=hg5.cell c3 (by simp);have hq5:PsT w5 a5 n5 cc5 (x.ps.take f++(now++x.ps.drop (f+1))):=hp5)
     | (go_at_call 76;(with_reducible refine (SU.out _ _ _ _ hq5).mono ?_);rintro en w6 ⟨⟨a6,m6,cc6,sa6,sm6,sc6,rfl,hr6⟩,hg6⟩;have c6:=hg6.cell c5 (by simp);obtain ⟨⟨x,cx⟩,⟨y,cy⟩,z1,z2⟩:=(B1.out.keptN (gZq G3.out (gZq hg5 hg6))).cells))
    all_goals go_wp2
    all_goals
     obtain ⟨r1,r2,r3⟩:=ret_row (fn:=Tryz.f68) (p:=6) rfl (B1.out.keptN (gZq G3.out (gZq hg5 hg6))) hr6 (gZq G1.out (gZq G3.out (gZq hg5 hg6)));refine ret_endC r1 r2 r3 ?_ ?_ <;> rfl
 ·have ht2:=ht.symm
  subst ht2
  by_cases hct:f=c
  ·subst hct
   have hm:f=m:=by omega
   subst hm;go_enter Tryz.func68,Tryz.ntmps68
   go_wp2_with fail
   refine LF.out.mono ?_;rintro en w2 ⟨rfl,hg2⟩;have G2:=hZq hg2;have c2:=hg2.cell c1 (by simp);have P2:=hZq (P1.out.kept (FrT.of hg2));have N2:=hZq (N1.out.kept (FrT.of hg2));have D1:=hZq (show PsT w2 (some ⟨g,off,none⟩) 0 (0) ((x.ps.take (f)).drop f) from by have:=SlT.end (SlT.take P2.out (Nat.le_refl _)) (Nat.le_refl _) (some ⟨g,off,none⟩) 0 (by omega) (fun e=>by cases e) (fun x hx=>by cases hx;exact ⟨_,_,rfl⟩);exact this);clear hg2 LF c1
   go_wp2_with fail
   refine (equalFunc_any _ _ _ _ _ _ ((x.ps.take (f)).drop f) now w2 D1.out N2.out (by omega) (by omega) VA.out VN.out).mono ?_;rintro en w3 ⟨rfl,hg3⟩;rw [<- HSM.out];have G3:=hZq (gZq G2.out hg3);have c3:=hg3.cell c2 (by simp);have P3:=hZq (P2.out.kept (FrT.of hg3));have N3:=hZq (N2.out.kept (FrT.of hg3));clear hg3 c2 D1 P2 N2 VA VN;cases hs:sameT x.ps now key with
   | true =>
    clear HSM SU;go_wp2;exact ⟨rfl,rfl,gZq G1.out G3.out⟩
   | false =>
    have E1:Hid (PsT w3 (some ⟨g,off,none⟩) f (f) (x.ps.take f)):=SlT.take P3.out (by omega);have E3:Hid (PsT w3 (some ⟨g,off,none⟩) 0 (0) (x.ps.drop (f))):=SlT.end P3.out (by omega) _ _ (by omega) (fun e=>by cases e) (fun x hx=>by cases hx;exact ⟨_,_,rfl⟩);have CT:=hZq (cat3_tp IpT ip_keptN _ _ _ _ _ _ _ _ _ _ _ _ E1.out N3.out E3.out (by omega));clear HSM;have v1:(0:Int)<=(f:Int):=by omega
    have v2:(f:Int)<=((f:Nat):Int):=by omega
    have v3:¬ (((f:Nat):Int)<(f:Int)):=by omega
    have v8:(f:Int)<=(f:Int)+1:=by omega
    have v9:(0:Int)<=(f:Int)+1:=by omega
    have v4:((f:Nat):Int)<=((f:Nat):Int):=by omega
    have v5:((f:Nat):Int)<=((f:Nat):Int):=by omega
    have v6:(0:Int)<=((f:Nat):Int):=by omega
    have v7:(f:Int)<=((f:Nat):Int):=by omega
    have hbn:¬ b=w.heap.size:=by omega
    have hbn2:¬ w.heap.size=b:=by omega
    skip
    go_upto_region 7 with fail
    go_region_held3 (fun w'=>w'.cell? ⟨b,1,none⟩=some (.slice (some ⟨g,off,none⟩) (f) (f))) (first | exact c3 | exact c5 | exact c6 | go_keep) (first
     | (go_at_call 77;(with_reducible refine CT.out.mono ?_);rintro en w5 ⟨⟨a5,n5,cc5,rfl,hp5⟩,hg5⟩;have c5:=hg5.cell c3 (by simp);have hq5:PsT w5 a5 n5 cc5 (x.ps.take f++(now++x.ps.drop (f))):=hp5)
     | (go_at_call 76;(with_reducible refine (SU.out _ _ _ _ hq5).mono ?_);rintro en w6 ⟨⟨a6,m6,cc6,sa6,sm6,sc6,rfl,hr6⟩,hg6⟩;have c6:=hg6.cell c5 (by simp);obtain ⟨⟨x,cx⟩,⟨y,cy⟩,z1,z2⟩:=(B1.out.keptN (gZq G3.out (gZq hg5 hg6))).cells))
    all_goals go_wp2
    all_goals
     obtain ⟨r1,r2,r3⟩:=ret_row (fn:=Tryz.f68) (p:=6) rfl (B1.out.keptN (gZq G3.out (gZq hg5 hg6))) hr6 (gZq G1.out (gZq G3.out (gZq hg5 hg6)));refine ret_endC r1 r2 r3 ?_ ?_ <;> rfl
  ·have hcf:¬ c=f:=by omega
   go_enter Tryz.func68,Tryz.ntmps68
   go_wp2_with fail
   refine LF.out.mono ?_;rintro en w2 ⟨rfl,hg2⟩;have G2:=hZq hg2;have c2:=hg2.cell c1 (by simp);have P2:=hZq (P1.out.kept (FrT.of hg2));have N2:=hZq (N1.out.kept (FrT.of hg2));have D1:=hZq (show PsT w2 (some ⟨g,off+f*3,none⟩) 0 (c - f) ((x.ps.take (f)).drop f) from by have:=SlT.drop (SlT.take P2.out (i:=f) (by omega)) (i:=f) (by omega);exact (show SlT w2 108 3 (IpT w2) (some ⟨g,off+f*3,none⟩) 0 (c - f) _ from by simpa using this));clear hg2 LF c1
   go_wp2_with fail
   refine (equalFunc_any _ _ _ _ _ _ ((x.ps.take (f)).drop f) now w2 D1.out N2.out (by omega) (by omega) VA.out VN.out).mono ?_;rintro en w3 ⟨rfl,hg3⟩;rw [<- HSM.out];have G3:=hZq (gZq G2.out hg3);have c3:=hg3.cell c2 (by simp);have P3:=hZq (P2.out.kept (FrT.of hg3));have N3:=hZq (N2.out.kept (FrT.of hg3));clear hg3 c2 D1 P2 N2 VA VN;cases hs:sameT x.ps now key with
   | true =>
    clear HSM SU;go_wp2;exact ⟨rfl,rfl,gZq G1.out G3.out⟩
   | false =>
    have E1:Hid (PsT w3 (some ⟨g,off,none⟩) f (c) (x.ps.take f)):=SlT.take P3.out (by omega);have E3:Hid (PsT w3 (some ⟨g,off+f*3,none⟩) (m - f) (c - f) (x.ps.drop (f))):=SlT.drop P3.out (by omega);have CT:=hZq (cat3_tp IpT ip_keptN _ _ _ _ _ _ _ _ _ _ _ _ E1.out N3.out E3.out (by omega));clear HSM;have v1:(0:Int)<=(f:Int):=by omega
    have v2:(f:Int)<=((c:Nat):Int):=by omega
    have v3:¬ (((c:Nat):Int)<(f:Int)):=by omega
    have v8:(f:Int)<=(f:Int)+1:=by omega
    have v9:(0:Int)<=(f:Int)+1:=by omega
    have v4:((f:Nat):Int)<=((m:Nat):Int):=by omega
    have v5:((f:Nat):Int)<=((c:Nat):Int):=by omega
    have v6:(0:Int)<=((f:Nat):Int):=by omega
    have v7:(f:Int)<=((m:Nat):Int):=by omega
    have hbn:¬ b=w.heap.size:=by omega
    have hbn2:¬ w.heap.size=b:=by omega
    skip
    go_upto_region 7 with fail
    go_region_held3 (fun w'=>w'.cell? ⟨b,1,none⟩=some (.slice (some ⟨g,off,none⟩) (m) (c))) (first | exact c3 | exact c5 | exact c6 | go_keep) (first
     | (go_at_call 77;(with_reducible refine CT.out.mono ?_);rintro en w5 ⟨⟨a5,n5,cc5,rfl,hp5⟩,hg5⟩;have c5:=hg5.cell c3 (by simp);have hq5:PsT w5 a5 n5 cc5 (x.ps.take f++(now++x.ps.drop (f))):=hp5)
     | (go_at_call 76;(with_reducible refine (SU.out _ _ _ _ hq5).mono ?_);rintro en w6 ⟨⟨a6,m6,cc6,sa6,sm6,sc6,rfl,hr6⟩,hg6⟩;have c6:=hg6.cell c5 (by simp);obtain ⟨⟨x,cx⟩,⟨y,cy⟩,z1,z2⟩:=(B1.out.keptN (gZq G3.out (gZq hg5 hg6))).cells))
    all_goals go_wp2
    all_goals
     obtain ⟨r1,r2,r3⟩:=ret_row (fn:=Tryz.f68) (p:=6) rfl (B1.out.keptN (gZq G3.out (gZq hg5 hg6))) hr6 (gZq G1.out (gZq G3.out (gZq hg5 hg6)));refine ret_endC r1 r2 r3 ?_ ?_ <;> rfl
theorem assertL (v:Value)(w:World):(Instr.typeAssert (.iface 118 v) 82 118 false).run Tryz.prog w=.ok v w:=by kernel_rfl
theorem assertB (v:Value)(w:World):(Instr.typeAssert (.iface 134 v) 82 134 false).run Tryz.prog w=.ok v w:=by kernel_rfl
theorem assertBy (v:Value)(w:World):(Instr.typeAssert (.iface 134 v) 82 134 true).run Tryz.prog w=.ok (.tuple #[v,.bool true]) w:=by kernel_rfl
theorem assertBn (v:Value)(w:World):(Instr.typeAssert (.iface 118 v) 82 134 true).run Tryz.prog w=.ok (.tuple #[.pointer none,.bool false]) w:=by kernel_rfl
theorem NodeT.leaf {w:World}{v:Value}{x:NdT 0}(h:NodeT 0 w v x):∃ b a m c,v=.iface 118 (.pointer (some ⟨b,0,none⟩))/\w.heap[b]?=some (.cells #[.int .i64 (LfT.no x),.slice a m c] 120 (0,0))/\PsT w a m c (LfT.ps x):=h
theorem lget_any (b:Nat)(x:LfT)(ka:Option Addr)(kn kc:Nat)(key:List Int)(w:World)(hx:NodeT 0 w (.iface 118 (.pointer (some ⟨b,0,none⟩))) x)(hL:LokT x.ps)(hk:Byt w ka kn kc key)(bt:Bt key) :
  Calls Tryz.prog 146 #[.pointer (some ⟨b,0,none⟩),.slice ka kn kc] w fun en w'=>(∃ ao n c,en=.returned (.tuple #[.slice ao n c,.bool (getT 0 x key).isSome])/\BtyT w' ao n c ((getT 0 x key).getD []))/\w.grownBy w' none:=by
 obtain ⟨b',a,m,c,e,hb,hps⟩:=hx;simp only [Value.iface.injEq,Value.pointer.injEq,Option.some.injEq,Addr.mk.injEq,true_and,and_true] at e;subst e;have hlen:=hps.len;have hle:=hL.len;have hc0:=cell_heap (i:=1) hb rfl;have LF:=hZq (lfind_any b _ m c ka kn kc x.ps key _ hc0 hps (by omega) hL.s hk bt (fun p hp=>(hL.v p hp).kb));have HG:Hid (getT 0 x key=if hasT x.ps key then some (x.ps.getD (findT x.ps key) pr0).val else none):=rfl;cases hh:hasT x.ps key with
 | false =>
  rw [HG.out,hh];rw [hh] at LF;clear hb hps hk;go_enter Tryz.func146,Tryz.ntmps146
  go_wp2_with fail
  refine LF.out.mono ?_;rintro en w2 ⟨rfl,hg2⟩;have G2:=hZq hg2;clear hg2 LF;go_wp2
  go_ret2
  exact ⟨⟨_,_,_,rfl,BtyT.nil _⟩,G2.out⟩
 | true =>
  have hp:∃ p,x.ps[findT x.ps key]?=some p:=by
   unfold hasT at hh;cases e:x.ps[findT x.ps key]? with
   | none=>rw [e] at hh;simp at hh
   | some p=>exact ⟨p,rfl⟩
  obtain ⟨p,hp⟩:=hp;have hlt:=(List.getElem?_eq_some_iff.1 hp).1;have hgd:x.ps.getD (findT x.ps key) pr0=p:=by simp [List.getD,hp]
  rw [HG.out,hh,hgd];rw [hh] at LF;generalize findT x.ps key=f at *;obtain ⟨g,off,ka2,kn2,kc2,va,vn,vc,ca,cn,cc,rfl,_,c1,_,hip⟩:=hps.pair hp;have hi1:(0:Int)<=(f:Int)/\(f:Int)<(m:Int):=by omega
  have HI:=hZq hip;clear hb hps hk hip;go_enter Tryz.func146,Tryz.ntmps146
  go_wp2_with fail
  refine LF.out.mono ?_;rintro en w2 ⟨rfl,hg2⟩;have G2:=hZq hg2;have c2:=hg2.cell hc0 (by simp);have d1:=hg2.cell c1 (by simp);clear hg2 LF c1 hc0;go_wp2
  go_ret2
  exact ⟨⟨_,_,_,rfl,HI.out.v.kept (FrT.of G2.out)⟩,G2.out⟩
theorem its_keys {L:List PrT}(h:∀ p∈L,Vp p):∀ x∈its L,x.key.length<=140737488351232:=by
 intro x hx;obtain ⟨p,hp,rfl⟩:=List.mem_map.1 hx;have:=(h p hp).k2
 show p.key.length<=_
 omega
theorem ljoins_any (b:Nat)(v:Value)(x y:LfT)(so:Option Addr)(sn sc:Nat)(s:List Int)(w:World)(hx:NodeT 0 w (.iface 118 (.pointer (some ⟨b,0,none⟩))) x)(hy:NodeT 0 w v y)(hL:LokT x.ps)(hM:LokT y.ps) :
  Calls Tryz.prog 148 #[.pointer (some ⟨b,0,none⟩),.slice so sn sc,v] w fun en w'=>en=.returned (.bool (joinsT 0 x s y))/\w.grownBy w' none:=by
 obtain ⟨b',a,m,c,e,hb,hps⟩:=hx;simp only [Value.iface.injEq,Value.pointer.injEq,Option.some.injEq,Addr.mk.injEq,true_and,and_true] at e;subst e;obtain ⟨d,a2,m2,c2,rfl,hd,hqs⟩:=hy;have hl1:=hps.len;have hl2:=hqs.len;have hle:=hL.len;have hle2:=hM.len;have k1:=cell_heap (i:=1) hb rfl;have k2:=cell_heap (i:=1) hd rfl;have g0:w.grownBy w.drew none:=(Qt.refl w).drew.grown none;have G0:=hZq g0;have IA:=hZq (fun (W:World) (h:w.grownBy W none)=>itemsOf_any a m c x.ps W (hps.kept (FrT.of h)) (by omega));have IBB:=hZq (fun (W:World) (h:w.grownBy W none)=>itemsOf_any a2 m2 c2 y.ps W (hqs.kept (FrT.of h)) (by omega))
 have HJ:Hid (joinsT 0 x s y=decide (size (its x.ps++its y.ps)<=3000)):=by
  show decide (size (its (x.ps++y.ps))<=3000)=_
  rw [its_app]
 have KX:Hid (∀ z∈its x.ps++its y.ps,z.key.length<=140737488351232):=by
  intro z hz;rcases List.mem_append.1 hz with h | h
  ·exact its_keys hL.v z h
  ·exact its_keys hM.v z h
 have JL:=hZq (fun (W:World) (g h:Nat) (h1:SlT W 167 4 (IiT W) (some ⟨g,0,none⟩) m m (its x.ps)) (h2:SlT W 167 4 (IiT W) (some ⟨h,0,none⟩) m2 m2 (its y.ps))=>joinLeaves_any (some ⟨g,0,none⟩) m m (its x.ps) (some ⟨h,0,none⟩) m2 m2 (its y.ps) W h1.il (by rw [its_len,hl1]) (fun e=>by cases e) h2.il (by rw [its_len,hl2]) (fun e=>by cases e) (by omega) KX.out);rw [HJ.out];have hta:=assertL;clear hb hd hps hqs g0;go_enter Tryz.func148,Tryz.ntmps148
 go_wp2_with fail
 go_region_held3 (fun w'=>w'.cell? ⟨b,1,none⟩=some (.slice a m c)/\w'.cell? ⟨d,1,none⟩=some (.slice a2 m2 c2)) (first | exact ⟨k1,k2⟩ | exact S1 | exact S2 | exact S3 | go_keep) (first
  | (go_at_call 175;(with_reducible refine (JL.out _ _ _ T1 T2).mono ?_);rintro en w6 ⟨rfl,hg6⟩;have S3:=And.intro (hg6.cell S2.1 (by simp)) (hg6.cell S2.2 (by simp)))
  | (go_at_call 94;(with_reducible refine (IA.out _ G0.out).mono ?_);rintro en w4 ⟨⟨g4,rfl,h4⟩,hg4⟩;have GA:=gZq G0.out hg4;have S1:=And.intro (GA.cell k1 (by simp)) (GA.cell k2 (by simp)))
  | (go_at_call 94;(with_reducible refine (IBB.out _ GA).mono ?_);rintro en w5 ⟨⟨g5,rfl,T2⟩,hg5⟩;have T1:=h4.mono (by decide) (FrT.of hg5) (fun _ _ h=>IiT.kept h (FrT.of hg5));have GB:=gZq GA hg5;have S2:=And.intro (GB.cell k1 (by simp)) (GB.cell k2 (by simp)))
  | (go_at_call 94;(with_reducible refine (IBB.out _ G0.out).mono ?_);rintro en w4 ⟨⟨g5,rfl,h5⟩,hg4⟩;have GA:=gZq G0.out hg4;have S1:=And.intro (GA.cell k1 (by simp)) (GA.cell k2 (by simp)))
  | (go_at_call 94;(with_reducible refine (IA.out _ GA).mono ?_);rintro en w5 ⟨⟨g4,rfl,T1⟩,hg5⟩;have T2:=h5.mono (by decide) (FrT.of hg5) (fun _ _ h=>IiT.kept h (FrT.of hg5));have GB:=gZq GA hg5;have S2:=And.intro (GB.cell k1 (by simp)) (GB.cell k2 (by simp))))
 all_goals go_wp2
 all_goals (go_ret;exact ⟨rfl,gZq GB hg6⟩)
theorem ljoined_any (b:Nat)(v:Value)(x y:LfT)(so:Option Addr)(sn sc:Nat)(s:List Int)(w:World)(hx:NodeT 0 w (.iface 118 (.pointer (some ⟨b,0,none⟩))) x)(hy:NodeT 0 w v y)(hL:LokT x.ps)(hM:LokT y.ps) :
  Calls Tryz.prog 147 #[.pointer (some ⟨b,0,none⟩),.slice so sn sc,v] w fun en w'=>(∃ u,en=.returned u/\NodeT 0 w' u (joinedT 0 x s y))/\w.grownBy w' none:=by
 obtain ⟨b',a,m,c,e,hb,hps⟩:=hx;simp only [Value.iface.injEq,Value.pointer.injEq,Option.some.injEq,Addr.mk.injEq,true_and,and_true] at e;subst e;obtain ⟨d,a2,m2,c2,rfl,hd,hqs⟩:=hy;have hle:=hL.len;have hle2:=hM.len;have k1:=cell_heap (i:=1) hb rfl;have k2:=cell_heap (i:=1) hd rfl;have CT:=hZq (cat2_tp IpT ip_keptN _ _ _ _ _ _ _ _ hps hqs (by rw [List.length_append];omega));have hta:=assertL;have hb1:=cell_lt k1;have hd1:=cell_lt k2;have hj:joinedT 0 x s y=(⟨0,x.ps++y.ps⟩:LfT):=rfl;rw [hj];clear hb hd hps hqs;go_enter Tryz.func147,Tryz.ntmps147
 go_wp2_with fail
 go_region_held3 (fun w'=>w'.cell? ⟨b,1,none⟩=some (.slice a m c)/\w'.cell? ⟨d,1,none⟩=some (.slice a2 m2 c2)) (first | exact ⟨k1,k2⟩ | exact S1 | exact S2 | go_keep) (first
  | (go_at_call 77;(with_reducible refine CT.out.mono ?_);rintro en w5 ⟨⟨a5,n5,cc5,rfl,hp5⟩,hg5⟩;have S1:=And.intro (hg5.cell k1 (by simp)) (hg5.cell k2 (by simp));have hq5:PsT w5 a5 n5 cc5 (x.ps++y.ps):=hp5;have GL:=World.grownBy_alloc w5 (.cells #[.int .i64 0,.slice a5 n5 cc5] 120) none;have S2:=And.intro (GL.cell S1.1 (by simp)) (GL.cell S1.2 (by simp))))
 all_goals go_wp2
 all_goals (go_ret;exact ⟨⟨_,rfl,node_leaf 0 hq5⟩,gZq hg5 GL⟩)
def tyN:Nat->Nat
 | 0=>118
 | _+1=>134
theorem NodeT.at {n:Nat}{w:World}{u:Value}{x:NdT n}(h:NodeT n w u x):∃ b,u=.iface (tyN n) (.pointer (some ⟨b,0,none⟩)):=by
 cases n with
 | zero =>
  obtain ⟨b,a,m,c,h1,_⟩:=h;exact ⟨b,h1⟩
 | succ n =>
  obtain ⟨b,a,m,c,sa,sm,sc,h1,_⟩:=h;exact ⟨b,h1⟩
theorem mL_joins (v:Value)(w:World):(method 312 118 v "coppice/tree.joins").run Tryz.prog w=.ok (148,v) w:=by kernel_rfl
theorem mB_joins (v:Value)(w:World):(method 312 134 v "coppice/tree.joins").run Tryz.prog w=.ok (160,v) w:=by kernel_rfl
theorem mL_joined (v:Value)(w:World):(method 312 118 v "coppice/tree.joined").run Tryz.prog w=.ok (147,v) w:=by kernel_rfl
theorem mB_joined (v:Value)(w:World):(method 312 134 v "coppice/tree.joined").run Tryz.prog w=.ok (159,v) w:=by kernel_rfl
theorem mL_changed (v:Value)(w:World):(method 312 118 v "coppice/tree.changed").run Tryz.prog w=.ok (68,v) w:=by kernel_rfl
theorem mB_changed (v:Value)(w:World):(method 312 134 v "coppice/tree.changed").run Tryz.prog w=.ok (155,v) w:=by kernel_rfl
theorem mL_get (v:Value)(w:World):(method 312 118 v "coppice/tree.get").run Tryz.prog w=.ok (146,v) w:=by kernel_rfl
theorem mB_get (v:Value)(w:World):(method 312 134 v "coppice/tree.get").run Tryz.prog w=.ok (158,v) w:=by kernel_rfl
theorem mL_level (v:Value)(w:World):(method 312 118 v "coppice/tree.level").run Tryz.prog w=.ok (149,v) w:=by kernel_rfl
theorem mB_level (v:Value)(w:World):(method 312 134 v "coppice/tree.level").run Tryz.prog w=.ok (161,v) w:=by kernel_rfl
theorem mL_tell (v:Value)(w:World):(method 312 118 v "coppice/tree.tell").run Tryz.prog w=.ok (152,v) w:=by kernel_rfl
theorem mB_tell (v:Value)(w:World):(method 312 134 v "coppice/tree.tell").run Tryz.prog w=.ok (164,v) w:=by kernel_rfl
theorem mL_count (v:Value)(w:World):(method 312 118 v "coppice/tree.count").run Tryz.prog w=.ok (143,v) w:=by kernel_rfl
theorem grown_al {w W:World}(h:w.grownBy W none)(o:Obj):w.grownBy (W.alloc o) none:=gZq h (World.grownBy_alloc W o none)
theorem grown_dw {w W:World}(h:w.grownBy W none):w.grownBy W.drew none:=gZq h ((Qt.refl W).drew.grown none)
theorem keep1 {w W:World}{a:Addr}{v:Value}(h:w.cell? a=some v)(hg:w.grownBy W none):W.cell? a=some v:=hg.cell h (by simp)
theorem heap_at0 (w:World)(cs:Array Value)(t:TypeId):(w.alloc (.cells cs t)).heap[w.heap.size]?=some (.cells cs t (0,0)):=heap_alloc_new w _
theorem heap_at1 (w:World)(o:Obj)(cs:Array Value)(t:TypeId):((w.alloc o).alloc (.cells cs t)).heap[w.heap.size+1]?=some (.cells cs t (0,0)):=by
 have:=heap_alloc_new (w.alloc o) (.cells cs t);simpa using this
theorem heap_at2 (w:World)(o o':Obj)(cs:Array Value)(t:TypeId):(((w.alloc o).alloc o').alloc (.cells cs t)).heap[w.heap.size+1+1]?=some (.cells cs t (0,0)):=by
 have:=heap_alloc_new ((w.alloc o).alloc o') (.cells cs t);simpa using this
theorem heap_dw {w:World}{k:Nat}{x:Obj}(h:w.heap[k]?=some x):w.drew.heap[k]?=some x:=h
theorem els3_at {W:World}{q:Nat}{t y:TypeId}{k:Nat}{a b d:Option Addr}{n c m e r f:Nat}{A B D:List (List Value)}(hq:W.heap[q]?=some (.cells #[.slice a n c,.slice b m e,.slice d r f] t (0,0)))(h1:EsT W y a n c k A)(h2:EsT W y b m e k B)(h3:EsT W y d r f k D):ElsT W (some ⟨q,0,none⟩) y k [A,B,D]:=by
 refine ⟨fun j hj=>?_⟩
 match j,hj with
 | 0,_=>exact ⟨_,0,a,n,c,rfl,cell_heap hq rfl,h1⟩
 | 1,_=>exact ⟨_,0,b,m,e,rfl,cell_heap hq rfl,h2⟩
 | 2,_=>exact ⟨_,0,d,r,f,rfl,cell_heap hq rfl,h3⟩
 | k+3,h =>
  have h2:k+3<3:=h;omega
theorem els2_at {W:World}{q:Nat}{t y:TypeId}{k:Nat}{a b:Option Addr}{n c m e:Nat}{A B:List (List Value)}(hq:W.heap[q]?=some (.cells #[.slice a n c,.slice b m e] t (0,0)))(h1:EsT W y a n c k A)(h2:EsT W y b m e k B):ElsT W (some ⟨q,0,none⟩) y k [A,B]:=by
 refine ⟨fun j hj=>?_⟩
 match j,hj with
 | 0,_=>exact ⟨_,0,a,n,c,rfl,cell_heap hq rfl,h1⟩
 | 1,_=>exact ⟨_,0,b,m,e,rfl,cell_heap hq rfl,h2⟩
 | k+2,h =>
  have h2:k+2<2:=h;omega
theorem es_one {W:World}{p:Nat}{t:TypeId}{v:Value}(h:W.heap[p]?=some (.cells #[v] t (0,0)))(hv:v.oneCell'=true):EsT W t (some ⟨p,0,none⟩) 1 1 1 [[v]]:=by
 refine ⟨rfl,Nat.le_refl _,by omega,(fun e=>by cases e),(fun x hx=>by cases hx;exact ⟨_,_,rfl⟩),by simp,by simpa using hv,fun i e he=>⟨_,0,rfl,⟨_,_,h⟩,fun f u hu=>?_⟩⟩
 match i,he with
 | 0,he =>
  simp only [List.getElem?_cons_zero,Option.some.injEq] at he;subst he
  match f,hu with
  | 0,hu =>
   simp only [List.getElem?_cons_zero,Option.some.injEq] at hu;subst hu;exact cell_heap h rfl
  | f+1,hu=>simp at hu
 | i+1,he=>simp at he
theorem catAt2_tn {T:Type}(J:World->List Value->T->Prop)(hJ:∀ w w',w.grownBy w' none->∀ e x,J w e x->J w' e x){W:World}{q:Nat}{t:TypeId}{a1:Option Addr}{n1 c1:Nat}{L1:List T}{a2:Option Addr}{n2 c2:Nat}{L2:List T}(hq:W.heap[q]?=some (.cells #[.slice a1 n1 c1,.slice a2 n2 c2] t (0,0)))(h1:SlT W 82 1 (J W) a1 n1 c1 L1)(h2:SlT W 82 1 (J W) a2 n2 c2 L2)(ht:(L1++L2).length<=100000) :
  Calls Tryz.prog 172 #[.slice (some ⟨q,0,none⟩) 2 2] W fun en w'=>(∃ a N c,en=.returned (.slice a N c)/\SlT w' 82 1 (J w') a N c (L1++L2))/\W.grownBy w' none:=by
 obtain ⟨e1,x1,y1⟩:=h1.ex;obtain ⟨e2,x2,y2⟩:=h2.ex;have l1:=els2_at hq x1 x2;have hy:=(y1.app y2);have hl:=hy.len;have e:[e1,e2].flatten=e1++e2:=by simp
 refine (concat_tn _ 2 2 [e1,e2] _ l1 rfl (by omega) (by rw [e,hl];exact ht)).mono ?_;rintro en w' ⟨⟨a,c,rfl,h9⟩,hg⟩;rw [e] at h9;rw [hl] at h9;exact ⟨⟨a,_,c,by rw [e,hl],_,h9,hy.mono (fun _ _ h=>hJ _ _ hg _ _ h)⟩,hg⟩
theorem catAt3_tn {T:Type}(J:World->List Value->T->Prop)(hJ:∀ w w',w.grownBy w' none->∀ e x,J w e x->J w' e x){W:World}{q:Nat}{t:TypeId}{a1:Option Addr}{n1 c1:Nat}{L1:List T}{a2:Option Addr}{n2 c2:Nat}{L2:List T}{a3:Option Addr}{n3 c3:Nat}{L3:List T}(hq:W.heap[q]?=some (.cells #[.slice a1 n1 c1,.slice a2 n2 c2,.slice a3 n3 c3] t (0,0)))(h1:SlT W 82 1 (J W) a1 n1 c1 L1)(h2:SlT W 82 1 (J W) a2 n2 c2 L2)(h3:SlT W 82 1 (J W) a3 n3 c3 L3)(ht:(L1++(L2++L3)).length<=100000) :
  Calls Tryz.prog 172 #[.slice (some ⟨q,0,none⟩) 3 3] W fun en w'=>(∃ a N c,en=.returned (.slice a N c)/\SlT w' 82 1 (J w') a N c (L1++(L2++L3)))/\W.grownBy w' none:=by
 obtain ⟨e1,x1,y1⟩:=h1.ex;obtain ⟨e2,x2,y2⟩:=h2.ex;obtain ⟨e3,x3,y3⟩:=h3.ex;have l1:=els3_at hq x1 x2 x3;have hy:=(y1.app (y2.app y3));have hl:=hy.len;have e:[e1,e2,e3].flatten=e1++(e2++e3):=by simp
 refine (concat_tn _ 3 3 [e1,e2,e3] _ l1 rfl (by omega) (by rw [e,hl];exact ht)).mono ?_;rintro en w' ⟨⟨a,c,rfl,h9⟩,hg⟩;rw [e] at h9;rw [hl] at h9;exact ⟨⟨a,_,c,by rw [e,hl],_,h9,hy.mono (fun _ _ h=>hJ _ _ hg _ _ h)⟩,hg⟩
theorem catAt2_ts {T:Type}(J:World->List Value->T->Prop)(hJ:∀ w w',w.grownBy w' none->∀ e x,J w e x->J w' e x){W:World}{q:Nat}{t:TypeId}{a1:Option Addr}{n1 c1:Nat}{L1:List T}{a2:Option Addr}{n2 c2:Nat}{L2:List T}(hq:W.heap[q]?=some (.cells #[.slice a1 n1 c1,.slice a2 n2 c2] t (0,0)))(h1:SlT W 30 1 (J W) a1 n1 c1 L1)(h2:SlT W 30 1 (J W) a2 n2 c2 L2)(ht:(L1++L2).length<=100000) :
  Calls Tryz.prog 173 #[.slice (some ⟨q,0,none⟩) 2 2] W fun en w'=>(∃ a N c,en=.returned (.slice a N c)/\SlT w' 30 1 (J w') a N c (L1++L2))/\W.grownBy w' none:=by
 obtain ⟨e1,x1,y1⟩:=h1.ex;obtain ⟨e2,x2,y2⟩:=h2.ex;have l1:=els2_at hq x1 x2;have hy:=(y1.app y2);have hl:=hy.len;have e:[e1,e2].flatten=e1++e2:=by simp
 refine (concat_ts _ 2 2 [e1,e2] _ l1 rfl (by omega) (by rw [e,hl];exact ht)).mono ?_;rintro en w' ⟨⟨a,c,rfl,h9⟩,hg⟩;rw [e] at h9;rw [hl] at h9;exact ⟨⟨a,_,c,by rw [e,hl],_,h9,hy.mono (fun _ _ h=>hJ _ _ hg _ _ h)⟩,hg⟩
theorem catAt3_ts {T:Type}(J:World->List Value->T->Prop)(hJ:∀ w w',w.grownBy w' none->∀ e x,J w e x->J w' e x){W:World}{q:Nat}{t:TypeId}{a1:Option Addr}{n1 c1:Nat}{L1:List T}{a2:Option Addr}{n2 c2:Nat}{L2:List T}{a3:Option Addr}{n3 c3:Nat}{L3:List T}(hq:W.heap[q]?=some (.cells #[.slice a1 n1 c1,.slice a2 n2 c2,.slice a3 n3 c3] t (0,0)))(h1:SlT W 30 1 (J W) a1 n1 c1 L1)(h2:SlT W 30 1 (J W) a2 n2 c2 L2)(h3:SlT W 30 1 (J W) a3 n3 c3 L3)(ht:(L1++(L2++L3)).length<=100000) :
  Calls Tryz.prog 173 #[.slice (some ⟨q,0,none⟩) 3 3] W fun en w'=>(∃ a N c,en=.returned (.slice a N c)/\SlT w' 30 1 (J w') a N c (L1++(L2++L3)))/\W.grownBy w' none:=by
 obtain ⟨e1,x1,y1⟩:=h1.ex;obtain ⟨e2,x2,y2⟩:=h2.ex;obtain ⟨e3,x3,y3⟩:=h3.ex;have l1:=els3_at hq x1 x2 x3;have hy:=(y1.app (y2.app y3));have hl:=hy.len;have e:[e1,e2,e3].flatten=e1++(e2++e3):=by simp
 refine (concat_ts _ 3 3 [e1,e2,e3] _ l1 rfl (by omega) (by rw [e,hl];exact ht)).mono ?_;rintro en w' ⟨⟨a,c,rfl,h9⟩,hg⟩;rw [e] at h9;rw [hl] at h9;exact ⟨⟨a,_,c,by rw [e,hl],_,h9,hy.mono (fun _ _ h=>hJ _ _ hg _ _ h)⟩,hg⟩
theorem NodeT.atL {w:World}{u:Value}{x:NdT 0}(h:NodeT 0 w u x):∃ b,u=.iface 118 (.pointer (some ⟨b,0,none⟩)):=h.at
theorem NodeT.atB {n:Nat}{w:World}{u:Value}{x:NdT (n+1)}(h:NodeT (n+1) w u x):∃ b,u=.iface 134 (.pointer (some ⟨b,0,none⟩)):=h.at
theorem ret_rowG {fn:Func}{p:Tmp}{n:Nat}{r:RwT (NdT n)}{w w5:World}{G:Nat}{a:Option Addr}{m c:Nat}{sa:Option Addr}{sm sc:Nat}(h:fn.results=#[.cell p 77])(hb:BxT w5 G)(hG:w.heap.size<=G)(hr:RowT n w5 a m c sa sm sc r)(hg:w.grownBy w5 none){ac:Act}(hp:ac.tmps.getD p undef=.pointer (some ⟨G,0,none⟩))(hd:ac.defers=[]) :
  bodyPost Tryz.prog fn (fun en w'=>(∃ a m c sa sm sc,en=.returned (.agg #[.slice a m c,.slice sa sm sc])/\RowT n w' a m c sa sm sc r)/\w.grownBy w' none) Exit.ret ac ((w5.setCell ⟨G,0,none⟩ (.slice a m c)).setCell ⟨G,1,none⟩ (.slice sa sm sc)):=by
 obtain ⟨k1,k2,k3⟩:=hb.put (.slice a m c) (.slice sa sm sc);exact bodyPost_ret (results_row h _ _ _ _ _ hp k1) hd ⟨⟨_,_,_,_,_,_,rfl,hr.kept k2⟩,grown_new hg k3 hG⟩
def fJoined:Nat->Nat
 | 0=>147
 | _+1=>159
def fJoins:Nat->Nat
 | 0=>148
 | _+1=>160
def JoinedC (n:Nat):Prop:=∀ (b:Nat) (v:Value) (x y:NdT n) (so:Option Addr) (sn sc:Nat) (s:List Int) (w:World),NodeT n w (.iface (tyN n) (.pointer (some ⟨b,0,none⟩))) x->NodeT n w v y->OkT n x->OkT n y->BtyT w so sn sc s->Vs s->joinsT n x s y=true ->
 (∀ p∈flatT n x,cmpZ p.key s<0)->(∀ p∈flatT n y,cmpZ s p.key<=0) ->
 Calls Tryz.prog (fJoined n) #[.pointer (some ⟨b,0,none⟩),.slice so sn sc,v] w fun en w'=>(∃ u,en=.returned u/\NodeT n w' u (joinedT n x s y))/\w.grownBy w' none
def JoinsC (n:Nat):Prop:=∀ (b:Nat) (v:Value) (x y:NdT n) (so:Option Addr) (sn sc:Nat) (s:List Int) (w:World),NodeT n w (.iface (tyN n) (.pointer (some ⟨b,0,none⟩))) x->NodeT n w v y->OkT n x->OkT n y->BtyT w so sn sc s->Vs s ->
 Calls Tryz.prog (fJoins n) #[.pointer (some ⟨b,0,none⟩),.slice so sn sc,v] w fun en w'=>en=.returned (.bool (joinsT n x s y))/\w.grownBy w' none
theorem joinedC0:JoinedC 0:=fun b v x y so sn sc s w hx hy ox oy _ _ _ _ _=>ljoined_any b v x y so sn sc s w hx hy (LokT.of ox) (LokT.of oy)
theorem joinsC0:JoinsC 0:=fun b v x y so sn sc s w hx hy ox oy _ _=>ljoins_any b v x y so sn sc s w hx hy (LokT.of ox) (LokT.of oy)
theorem seps_few {L:List (List Int)}(h:bsize L<=4092):L.length<=370:=by
 have:=bsize_least L;omega
theorem bjoins_any (n:Nat):JoinsC (n+1):=by
 intro b v x y so sn sc s w hx hy ox oy hs hv;obtain ⟨b',a,m,c,sa,sm,sc1,e,hb,_,hss⟩:=hx;simp only [tyN,Value.iface.injEq,Value.pointer.injEq,Option.some.injEq,Addr.mk.injEq,true_and,and_true] at e;subst e;obtain ⟨d,a2,m2,c2,sa2,sm2,sc2,rfl,hd,_,hss2⟩:=hy;obtain ⟨_,_,_,x4,x5⟩:=ox;obtain ⟨_,_,_,y4,y5⟩:=oy;have l1:=hss.len;have l2:=hss2.len;have f1:=seps_few x4;have f2:=seps_few y4;have k1:=cell_heap (i:=2) hb rfl;have k2:=cell_heap (i:=2) hd rfl
 have KX:Hid (∀ z∈(BnT.row (T:=NdT n) x).ss++([s]++(BnT.row (T:=NdT n) y).ss),z.length<=140737488351232):=by
  intro z hz;simp only [List.mem_append,List.mem_cons,List.not_mem_nil,or_false] at hz;rcases hz with h | rfl | h
  ·have:=(x5 z h).k2;omega
  ·have:=hv.k2;omega
  ·have:=(y5 z h).k2;omega
 have JB:=hZq (fun (W:World) (h:w.grownBy W none)=>joinBranches_any sa sm sc1 (BnT.row (T:=NdT n) x).ss so sn sc s sa2 sm2 sc2 (BnT.row (T:=NdT n) y).ss W (hss.kept (FrT.of h)).lz l1 hss.cap.2.2 (hs.b.keptN h) hs.l1 hs.l2 (hss2.kept (FrT.of h)).lz l2 hss2.cap.2.2 (by omega) KX.out);have HJ:Hid (joinsT (n+1) x s y=decide (bsize ((BnT.row (T:=NdT n) x).ss++([s]++(BnT.row (T:=NdT n) y).ss))<=3000)):=rfl;have G0:=hZq ((Qt.refl w).drew.grown none);have hta:=assertB;rw [HJ.out]
 show Calls Tryz.prog 160 _ _ _
 clear hb hd hss hss2 hs x5 y5;go_enter Tryz.func160,Tryz.ntmps160
 go_wp2_with fail
 go_region_held3 (fun w'=>w'.cell? ⟨b,2,none⟩=some (.slice sa sm sc1)/\w'.cell? ⟨d,2,none⟩=some (.slice sa2 sm2 sc2)) (first | exact ⟨k1,k2⟩ | exact S1 | go_keep) (first
  | (go_at_call 176;(with_reducible refine (JB.out _ G0.out).mono ?_);rintro en w6 ⟨rfl,hg6⟩;have GG:=gZq G0.out hg6;have S1:=And.intro (GG.cell k1 (by simp)) (GG.cell k2 (by simp))))
 all_goals go_wp2
 all_goals (go_ret;exact ⟨rfl,GG⟩)
theorem search_tr (A B:Nat)(n:Nat)(p:Nat->Bool)(w:World)(hn:n<=100000)
  (hp:∀ (k:Nat) (w1:World),k<n->w.grownBy w1 none->Calls Tryz.prog 169 #[.int .i64 k,.pointer (some ⟨A,0,none⟩),.pointer (some ⟨B,0,none⟩)] w1 fun en w'=>en=.returned (.bool (p k))/\w1.grownBy w' none) :
  Calls Tryz.prog 121 #[.int .i64 n,.func (.func 169) #[] #[.pointer (some ⟨A,0,none⟩),.pointer (some ⟨B,0,none⟩)]] w fun en w'=>(∃ k:Nat,en=.returned (.int .i64 k)/\k<=n/\(0<k->p (k - 1)=false)/\(k<n->p k=true))/\w.grownBy w' none:=by
 have HP:=hZq hp;clear hp;go_enter Tryz.func121,Tryz.ntmps121;go_wp2;go_loopw [5,6,7] (fun si sj _ wr=>∃ i j:Nat,i<=j/\j<=n/\si=.int .i64 i/\sj=.int .i64 j/\(0<i->p (i - 1)=false)/\(j<n->p j=true)/\w.grownBy wr none) (fun si sj _ _=>(intOf sj).toNat - (intOf si).toNat)
 case atStart=>exact ⟨0,n,Nat.zero_le _,Nat.le_refl _,rfl,rfl,fun h=>by omega,fun h=>by omega,World.grownBy.refl _ _⟩
 case round =>
  obtain ⟨i,j,hij,hj,rfl,rfl,hlo,hhi,hg⟩:=hrel;have HLO:=hZq hlo;have HHI:=hZq hhi;have HG:=hZq hg;clear hlo hhi hg
  by_cases hlt:i<j
  ·obtain ⟨m,hm⟩:∃ m:Nat,(i+j) / 2=m:=⟨_,rfl⟩
   have h1:i<=m/\m<j:=by omega
   have e1:((i:Int)+(j:Int)) / 2=(m:Int):=by omega
   have e2:((i:Int)+(j:Int)) % 18446744073709551616=(i:Int)+(j:Int):=by omega
   go_wp2_with fail
   refine (HP.out m _ (by omega) HG.out).mono ?_;rintro en w2 ⟨rfl,hg2⟩;have HG2:=hZq (gZq HG.out hg2);clear hg2 HG;cases hb:p m with
   | false =>
    have HB:Hid (0<m+1->p (m+1 - 1)=false):=fun _=>hb
    clear hb;go_wp2;go_roundw
    case rel=>exact ⟨m+1,j,by omega,hj,by go_num,rfl,HB.out,HHI.out,HG2.out⟩
    case measure=>simp [intOf];omega
   | true =>
    have HB:Hid (m<n->p m=true):=fun _=>hb
    clear hb;go_wp2;go_roundw
    case rel=>exact ⟨i,m,by omega,by omega,rfl,rfl,HLO.out,HB.out,HG2.out⟩
    case measure=>simp [intOf];omega
  ·have hin:i=j:=by omega
   subst hin;go_wp2;go_ret;exact ⟨⟨i,rfl,hj,HLO.out,HHI.out⟩,HG.out⟩
theorem place_cons (x:List Int)(L:List (List Int))(key:List Int):placeT (x::L) key=if cmpZ x key<=0 then placeT L key+1 else 0:=by
 unfold placeT;rw [List.takeWhile_cons]
 by_cases h:cmpZ x key<=0 <;> simp [h]
theorem place_at {key:List Int}:∀ {L:List (List Int)} {k:Nat},L.Pairwise (fun a b=>cmpZ a b<0)->k<=L.length->(0<k->cmpZ (L.getD (k - 1) []) key<=0)->(k<L.length->0<cmpZ (L.getD k []) key)->placeT L key=k
 | [],k,_,hk,_,_=>by simp [placeT] at *;omega
 | x::L,0,_,_,_,h2=>by
  have:=h2 (by simp);rw [place_cons,if_neg (by simpa using this)]
 | x::L,k+1,hs,hk,h1,h2=>by
  have hp:=List.pairwise_cons.1 hs;simp only [List.length_cons] at hk h2;have h3:=h1 (by omega);rw [show k+1 - 1=k by omega] at h3
  have hx:cmpZ x key<=0:=by
   cases k with
   | zero=>simpa using h3
   | succ k =>
    have e:(x::L).getD (k+1) []=L.getD k []:=by simp [List.getD]
    rw [e] at h3
    have hm:L.getD k []∈L:=by
     rw [show L.getD k []=L[k]'(by omega) by simp [List.getD,List.getElem?_eq_getElem (show k<L.length by omega)]];exact List.getElem_mem _
    have:=lt_trans10 (hp.1 _ hm) h3;omega
  rw [place_cons,if_pos hx]
  congr 1
  refine place_at hp.2 (by omega) (fun h0=>?_) (fun h0=>?_)
  ·cases k with
   | zero=>omega
   | succ k =>
    have e:(x::L).getD (k+1) []=L.getD k []:=by simp [List.getD]
    rw [e] at h3;simpa using h3
  ·have:=h2 (by omega)
   have e:(x::L).getD (k+1) []=L.getD k []:=by simp [List.getD]
   rw [e] at this;exact this
theorem seps_rise {T:Type}{F:T->List PrT}:∀ (ns:List T) (ss:List (List Int)),(ss.map Sum.inr).Sublist (wordT F ns ss)
 | [],ss=>List.Sublist.refl _
 | x::xs,[]=>by simp
 | x::xs,s::ss=>by
  rw [wordT,List.map_cons];exact List.Sublist.trans ((seps_rise xs ss).cons_cons _) (List.sublist_append_right _ _)
theorem rise_of {T:Type}{F:T->List PrT}{ns:List T}{ss:List (List Int)}(h:SepT F ns ss):ss.Pairwise fun a b=>cmpZ a b<0:=by
 have:=h.ord.sublist (seps_rise ns ss);rw [List.pairwise_map] at this;exact this.imp (fun k=>rk_ss.1 k)
theorem place1_any (b A B:Nat)(sa:Option Addr)(sm sc:Nat)(ka:Option Addr)(kn kc:Nat)(L:List (List Int))(key:List Int)(k:Nat)(w:World)(hA:w.cell? ⟨A,0,none⟩=some (.pointer (some ⟨b,0,none⟩)))(hB:w.cell? ⟨B,0,none⟩=some (.slice ka kn kc))(hc:w.cell? ⟨b,2,none⟩=some (.slice sa sm sc))(hl:SsT w sa sm sc L)(hk:k<sm)
  (hb:Byt w ka kn kc key) (bt:Bt key) (bl:∀ s∈L,Bt s) :
  Calls Tryz.prog 169 #[.int .i64 k,.pointer (some ⟨A,0,none⟩),.pointer (some ⟨B,0,none⟩)] w fun en w'=>en=.returned (.bool (decide (0<cmpZ (L.getD k []) key)))/\w.grownBy w' none:=by
 have hlen:=hl.len;have hx:L[k]?=some (L.getD k []):=by rw [List.getElem?_eq_getElem (by omega)];simp [List.getD,List.getElem?_eq_getElem (show k<L.length by omega)]
 obtain ⟨g,off,qa,qn,qc,rfl,c0,hp⟩:=hl.str hx;have HC:=hZq (fun (W:World) (h:W.heap=w.heap)=>compare_any qa ka qn kn qc kc (L.getD k []) key W (hp.b.heap h) (hb.heap h) (bl _ (List.mem_of_getElem? hx)) bt);have hk2:(0:Int)<=(k:Int)/\(k:Int)<(sm:Int):=by omega
 generalize L.getD k []=s at *;clear hb hp hl bl hx;go_enter Tryz.func169,Tryz.ntmps169;go_wp2
 go_region_with (go_at_call 92;refine (HC.out w.drew rfl).mono ?_;rintro en w2 ⟨rfl,rfl⟩)
 all_goals (go_wp2;go_ret;exact ⟨rfl,(Qt.refl _).drew.grown none⟩)
theorem place_any (b:Nat)(sa:Option Addr)(sm sc:Nat)(ka:Option Addr)(kn kc:Nat)(L:List (List Int))(key:List Int)(w:World)(hc:w.cell? ⟨b,2,none⟩=some (.slice sa sm sc))(hl:SsT w sa sm sc L)(hm:sm<=5000)(hs:L.Pairwise fun a b=>cmpZ a b<0)
  (hb:Byt w ka kn kc key) (bt:Bt key) (bl:∀ s∈L,Bt s) :
  Calls Tryz.prog 165 #[.pointer (some ⟨b,0,none⟩),.slice ka kn kc] w fun en w'=>en=.returned (.int .i64 ((placeT L key:Nat):Int))/\w.grownBy w' none:=by
 have hlen:=hl.len;have hmf:∀ (fn:Fn) (first cap:Array Value) (w:World),(Instr.makeFunc fn first cap).run Tryz.prog w=.ok (.func fn first cap) w:=fun _ _ _ _=>rfl
 have G1:=hZq (World.grownBy_alloc w (.cells #[.pointer (some ⟨b,0,none⟩)] 134) none);have G2:=hZq (gZq G1.out (World.grownBy_alloc (w.alloc (.cells #[.pointer (some ⟨b,0,none⟩)] 134)) (.cells #[.slice ka kn kc] 30) none))
 have HP:Hid (∀ (k:Nat) (w1:World),k<sm->((w.alloc (.cells #[.pointer (some ⟨b,0,none⟩)] 134)).alloc (.cells #[.slice ka kn kc] 30)).grownBy w1 none->Calls Tryz.prog 169 #[.int .i64 k,.pointer (some ⟨w.heap.size,0,none⟩),.pointer (some ⟨w.heap.size+1,0,none⟩)] w1 fun en w'=>en=.returned (.bool (decide (0<cmpZ (L.getD k []) key)))/\w1.grownBy w' none):=by
  intro k w1 hk hg;have hg2:=gZq G2.out hg;have c1:((w.alloc (.cells #[.pointer (some ⟨b,0,none⟩)] 134)).alloc (.cells #[.slice ka kn kc] 30)).cell? ⟨w.heap.size+1,0,none⟩=some (.slice ka kn kc):=cell_heap (heap_at1 w _ _ _) rfl;have c2:((w.alloc (.cells #[.pointer (some ⟨b,0,none⟩)] 134)).alloc (.cells #[.slice ka kn kc] 30)).cell? ⟨w.heap.size,0,none⟩=some (.pointer (some ⟨b,0,none⟩)):=cell_heap (heap_old (heap_at0 w _ _)) rfl;exact place1_any b _ _ sa sm sc ka kn kc L key k w1 (hg.cell c2 (by simp)) (hg.cell c1 (by simp)) (hg2.cell hc (by simp)) (hl.kept (FrT.of hg2)) hk (hb.keptN hg2) bt bl
 have hbl:=cell_lt hc;have HS:=hZq hs;clear hl hb hs bl;go_enter Tryz.func165,Tryz.ntmps165
 go_wp2_with fail
 refine (search_tr _ _ sm _ _ (by omega) HP.out).mono ?_;rintro en w2 ⟨⟨k,rfl,h1,h2,h3⟩,hg⟩;have hf:placeT L key=k:=place_at HS.out (by omega) (fun h=>by have:=h2 h;simpa using this) (fun h=>by have:=h3 (by omega);simpa using this);have HF:=hZq hf;have HG:=hZq (gZq G2.out hg);clear hf h2 h3 hg HP;go_wp2;go_ret;rw [HF.out];exact ⟨rfl,HG.out⟩
def fGet:Nat->Nat
 | 0=>146
 | _+1=>158
def GetC (n:Nat):Prop:=∀ (b:Nat) (x:NdT n) (ka:Option Addr) (kn kc:Nat) (key:List Int) (w:World),NodeT n w (.iface (tyN n) (.pointer (some ⟨b,0,none⟩))) x->OkT n x->Byt w ka kn kc key->Bt key ->
 Calls Tryz.prog (fGet n) #[.pointer (some ⟨b,0,none⟩),.slice ka kn kc] w fun en w'=>(∃ ao n' c,en=.returned (.tuple #[.slice ao n' c,.bool (getT n x key).isSome])/\BtyT w' ao n' c ((getT n x key).getD []))/\w.grownBy w' none
theorem get_at {n:Nat}{x:NdT (n+1)}{y:NdT n}{key:List Int}(h:(BnT.row (T:=NdT n) x).ns[placeT (BnT.row (T:=NdT n) x).ss key]?=some y):getT (n+1) x key=getT n y key:=by rw [getT,h]
theorem getC0:GetC 0:=fun b x ka kn kc key w hx ox hk bt=>lget_any b x ka kn kc key w hx (LokT.of ox) hk bt
theorem getC_L (hG:GetC 0):GetC 1:=by
 intro b x ka kn kc key w hx ox hk bt;obtain ⟨b',a,m,c,sa,sm,sc,e,hb,hns,hss⟩:=hx;simp only [tyN,Value.iface.injEq,Value.pointer.injEq,Option.some.injEq,Addr.mk.injEq,true_and,and_true] at e;subst e;obtain ⟨x1,x2,x3,x4,x5⟩:=ox;obtain ⟨y,hy⟩:=at_place x3 x1 key;have ls:=hss.len;have ln:=hns.len;have f1:=seps_few x4;have k1:=cell_heap (i:=1) hb rfl;have k2:=cell_heap (i:=2) hb rfl;have G0:=hZq ((Qt.refl w).drew.grown none);have PL:=hZq (fun (W:World) (h:w.grownBy W none)=>place_any b sa sm sc ka kn kc (BnT.row (T:=NdT 0) x).ss key W (h.cell k2 (by simp)) (hss.kept (FrT.of h)) (by omega) (rise_of x3) (hk.keptN h) bt (fun s hs=>(x5 s hs).kb));obtain ⟨g,off,u,rfl,c1,hu⟩:=NsT.node (n:=0) hns hy.at_;obtain ⟨b1,rfl⟩:=hu.atL;have hlt:=hy.lt;have KG:Hid (∀ (W:World),w.grownBy W none->Calls Tryz.prog 146 #[.pointer (some ⟨b1,0,none⟩),.slice ka kn kc] W fun en w'=>(∃ ao n' c,en=.returned (.tuple #[.slice ao n' c,.bool (getT 0 y key).isSome])/\BtyT w' ao n' c ((getT 0 y key).getD []))/\W.grownBy w' none):=fun W h=>hG b1 y ka kn kc key W (NodeT.kept _ hu (FrT.of h)) (x2 y (List.mem_of_getElem? hy.at_)) (hk.keptN h) bt
 have he:getT 1 x key=getT 0 y key:=get_at hy.at_;have HE:=hZq he;clear he;rw [HE.out];generalize placeT (BnT.row (T:=NdT 0) x).ss key=i at *;have v1:(0:Int)<=(i:Int)/\(i:Int)<(m:Int):=by omega
 have hme:=mL_get
 show Calls Tryz.prog 158 _ _ _
 clear hb hns hss hk hu x2 x3 x5 hy;go_enter Tryz.func158,Tryz.ntmps158
 go_wp2_with fail
 go_region_held3 (fun w'=>w'.cell? ⟨b,1,none⟩=some (.slice (some ⟨g,off,none⟩) m c)/\w'.cell? ⟨g,off+i,none⟩=some (.iface 118 (.pointer (some ⟨b1,0,none⟩)))) (first | exact ⟨k1,c1⟩ | exact S1 | exact S2 | go_keep) (first
  | (go_at_call 165;(with_reducible refine (PL.out _ G0.out).mono ?_);rintro en w4 ⟨rfl,hg4⟩;have GA:=gZq G0.out hg4;have S1:=And.intro (GA.cell k1 (by simp)) (GA.cell c1 (by simp)))
  | (go_at_call 146;(with_reducible refine (KG.out _ GA).mono ?_);rintro en w5 ⟨⟨ao,n',c',rfl,hv⟩,hg5⟩;have GB:=gZq GA hg5;have S2:=And.intro (GB.cell k1 (by simp)) (GB.cell c1 (by simp))))
 all_goals go_wp2
 all_goals (go_ret2;exact ⟨⟨_,_,_,rfl,hv⟩,GB⟩)
theorem getC_B {n:Nat}(hG:GetC (n+1)):GetC (n+1+1):=by
 intro b x ka kn kc key w hx ox hk bt;obtain ⟨b',a,m,c,sa,sm,sc,e,hb,hns,hss⟩:=hx;simp only [tyN,Value.iface.injEq,Value.pointer.injEq,Option.some.injEq,Addr.mk.injEq,true_and,and_true] at e;subst e;obtain ⟨x1,x2,x3,x4,x5⟩:=ox;obtain ⟨y,hy⟩:=at_place x3 x1 key;have ls:=hss.len;have ln:=hns.len;have f1:=seps_few x4;have k1:=cell_heap (i:=1) hb rfl;have k2:=cell_heap (i:=2) hb rfl;have G0:=hZq ((Qt.refl w).drew.grown none);have PL:=hZq (fun (W:World) (h:w.grownBy W none)=>place_any b sa sm sc ka kn kc (BnT.row (T:=NdT (n+1)) x).ss key W (h.cell k2 (by simp)) (hss.kept (FrT.of h)) (by omega) (rise_of x3) (hk.keptN h) bt (fun s hs=>(x5 s hs).kb));obtain ⟨g,off,u,rfl,c1,hu⟩:=NsT.node (n:=(n+1)) hns hy.at_;obtain ⟨b1,rfl⟩:=hu.atB;have hlt:=hy.lt;have KG:Hid (∀ (W:World),w.grownBy W none->Calls Tryz.prog 158 #[.pointer (some ⟨b1,0,none⟩),.slice ka kn kc] W fun en w'=>(∃ ao n' c,en=.returned (.tuple #[.slice ao n' c,.bool (getT (n+1) y key).isSome])/\BtyT w' ao n' c ((getT (n+1) y key).getD []))/\W.grownBy w' none):=fun W h=>hG b1 y ka kn kc key W (NodeT.kept _ hu (FrT.of h)) (x2 y (List.mem_of_getElem? hy.at_)) (hk.keptN h) bt
 have he:getT (n+1+1) x key=getT (n+1) y key:=get_at hy.at_;have HE:=hZq he;clear he;rw [HE.out];generalize placeT (BnT.row (T:=NdT (n+1)) x).ss key=i at *;have v1:(0:Int)<=(i:Int)/\(i:Int)<(m:Int):=by omega
 have hme:=mB_get
 show Calls Tryz.prog 158 _ _ _
 clear hb hns hss hk hu x2 x3 x5 hy;go_enter Tryz.func158,Tryz.ntmps158
 go_wp2_with fail
 go_region_held3 (fun w'=>w'.cell? ⟨b,1,none⟩=some (.slice (some ⟨g,off,none⟩) m c)/\w'.cell? ⟨g,off+i,none⟩=some (.iface 134 (.pointer (some ⟨b1,0,none⟩)))) (first | exact ⟨k1,c1⟩ | exact S1 | exact S2 | go_keep) (first
  | (go_at_call 165;(with_reducible refine (PL.out _ G0.out).mono ?_);rintro en w4 ⟨rfl,hg4⟩;have GA:=gZq G0.out hg4;have S1:=And.intro (GA.cell k1 (by simp)) (GA.cell c1 (by simp)))
  | (go_at_call 158;(with_reducible refine (KG.out _ GA).mono ?_);rintro en w5 ⟨⟨ao,n',c',rfl,hv⟩,hg5⟩;have GB:=gZq GA hg5;have S2:=And.intro (GB.cell k1 (by simp)) (GB.cell c1 (by simp))))
 all_goals go_wp2
 all_goals (go_ret2;exact ⟨⟨_,_,_,rfl,hv⟩,GB⟩)
theorem getC:∀ n,GetC n
 | 0=>getC0
 | 1=>getC_L getC0
 | n+1+1=>getC_B (getC (n+1))
theorem keep2 {W:World}{G b i:Nat}{u v x:Value}(h:W.cell? ⟨b,i,none⟩=some x)(hne:b≠G):((W.setCell ⟨G,0,none⟩ u).setCell ⟨G,1,none⟩ v).cell? ⟨b,i,none⟩=some x:=by
 rw [<- h];refine World.cell?_of_block ?_;rw [heap_setCell_other _ ⟨G,1,none⟩ b v (fun e=>hne e),heap_setCell_other _ ⟨G,0,none⟩ b u (fun e=>hne e)]
theorem node_at {n:Nat}{W:World}{p:Nat}{a:Option Addr}{m c:Nat}{sa:Option Addr}{sm sc:Nat}{r:RwT (NdT n)}{no:Int}(h:W.heap[p]?=some (.cells #[.int .i64 no,.slice a m c,.slice sa sm sc] 136 (0,0)))(hr:RowT n W a m c sa sm sc r):NodeT (n+1) W (.iface 134 (.pointer (some ⟨p,0,none⟩))) (⟨no,r⟩:BnT (NdT n)):=⟨_,a,m,c,sa,sm,sc,rfl,h,hr.ns,hr.ss⟩
theorem settledBranch_any {n:Nat}(r:RwT (NdT n))(hok:RokT n r)(hc:4092<bsize r.ss->2<=cutB r.ss/\cutB r.ss<r.ss.length)(a:Option Addr)(m c:Nat)(sa:Option Addr)(sm sc:Nat)(w:World)(hr:RowT n w a m c sa sm sc r)(hm:m<=5000) :
  Calls Tryz.prog 166 #[.agg #[.slice a m c,.slice sa sm sc]] w fun en w'=>(∃ a m c sa sm sc,en=.returned (.agg #[.slice a m c,.slice sa sm sc])/\RowT (n+1) w' a m c sa sm sc (settleB r))/\w.grownBy w' none:=by
 have ln:=hr.ns.len;have ls:=hr.ss.len;have hsl:=hok.sep.len;have caps:=hr.ss.cap;have capn:=hr.ns.cap;have G1:=hZq (grown_al (grown_al (World.grownBy.refl w none) (.cells #[.slice a m c,.slice sa sm sc] 77)) (.cells #[.slice none 0 0,.slice none 0 0] 77));have X1:Hid (((w.alloc (.cells #[.slice a m c,.slice sa sm sc] 77)).alloc (.cells #[.slice none 0 0,.slice none 0 0] 77)).heap[w.heap.size]?=some (.cells #[.slice a m c,.slice sa sm sc] 77 (0,0))):=heap_old (heap_at0 w _ _);have B1:Hid (BxT ((w.alloc (.cells #[.slice a m c,.slice sa sm sc] 77)).alloc (.cells #[.slice none 0 0,.slice none 0 0] 77)) (w.heap.size+1)):=⟨_,_,heap_at1 w _ _ _⟩;have R1:=hZq (hr.kept (FrT.of G1.out));have e0:=cell_heap (i:=0) X1.out rfl;have e1:=cell_heap (i:=1) X1.out rfl
 have KK:Hid (∀ x∈r.ss,x.length<=140737488351232):=fun x hx=>by
  have:=(hok.vs x hx).k2;omega
 have HZ:=hZq (fun (W:World) (h:RowT n W a m c sa sm sc r)=>bsize_any sa sm sc r.ss W h.ss.lz ls (by omega) caps.1 caps.2.1 KK.out)
 by_cases h0:m=0
 ·have es:settleB r=⟨[],[]⟩:=by unfold settleB;rw [if_pos (by omega)]
  rw [es];subst h0;obtain ⟨⟨x,cx⟩,⟨y,cy⟩,z1,z2⟩:=B1.out.cells;clear hr HZ hc;go_enter Tryz.func166,Tryz.ntmps166;go_wp2;exact bodyPost_ret (results_row rfl _ _ (w.heap.size+1) (.slice none 0 0) (.slice none 0 0) rfl (heap_at1 w _ _ _)) rfl ⟨⟨_,_,_,_,_,_,rfl,⟨SlT.nil _ _ _ _,SlT.nil _ _ _ _⟩⟩,G1.out⟩
 ·have n0:¬ ((m:Int)=0):=by omega
  by_cases hf:bsize r.ss<=4092
  ·have es:settleB r=⟨[⟨0,r⟩],[]⟩:=by unfold settleB;rw [if_neg (by omega),if_pos hf]
   rw [es];clear hr hc;go_enter Tryz.func166,Tryz.ntmps166
   go_wp2_with fail
   generalize (w.alloc (.cells #[.slice a m c,.slice sa sm sc] 77)).alloc (.cells #[.slice none 0 0,.slice none 0 0] 77)=w1 at *;refine (HZ.out w1 R1.out).mono ?_;rintro en w3 ⟨rfl,hg3⟩;have G3:=hZq hg3;have d0:=hg3.cell e0 (by simp);have d1:=hg3.cell e1 (by simp);have hlt:=cell_lt d0;clear hg3 e0 e1
   go_wp2_with fail
   refine (cfits_any _ w3).mono ?_;rintro en w4 ⟨rfl,rfl⟩;rw [decide_eq_true hf];have NL:=hZq (node_branch 0 (R1.out.kept (FrT.of G3.out)));have GL:=hZq (World.grownBy_alloc w4 (.cells #[.int .i64 0,.slice a m c,.slice sa sm sc] 136) none)
   go_wp2_with fail
   refine (alone_row (n:=n+1) NL.out (World.grownBy.refl _ _)).mono ?_;rintro en w5 ⟨⟨a5,m5,c5,sa5,sm5,sc5,rfl,hr5⟩,hg5⟩;have G5:=hZq (gZq G3.out (gZq GL.out hg5));have B5:=B1.out.keptN G5.out;obtain ⟨⟨x,cx⟩,⟨y,cy⟩,z1,z2⟩:=B5.cells;have HB:=hZq B5;have HR:=hZq hr5;clear B5 hr5 hg5;go_wp2;refine ret_rowG (p:=2) rfl HB.out (by omega) HR.out (gZq G1.out G5.out) ?_ ?_ <;> rfl
  ·obtain ⟨hc1,hc2⟩:=hc (by omega)
   have es:settleB r=⟨[⟨0,⟨r.ns.take (cutB r.ss),r.ss.take (cutB r.ss - 1)⟩⟩,⟨0,⟨r.ns.drop (cutB r.ss),r.ss.drop (cutB r.ss)⟩⟩],[r.ss.getD (cutB r.ss - 1) []]⟩:=by unfold settleB;rw [if_neg (by omega),if_neg hf]
   rw [es];have HC:=hZq (fun (W:World) (h:RowT n W a m c sa sm sc r)=>cutBranch_any sa sm sc r.ss W h.ss.lz ls (by omega) caps.1 caps.2.1 KK.out);have hbest:=cutB_best r.ss;rw [ls] at hbest;have HU:=hZq (fun (k:Nat) (h:Best (fun i=>bsize (r.ss.take (i - 1))) (fun i=>bsize (r.ss.drop i)) sm k)=>h.uniq hbest);generalize cutB r.ss=k at *
   have hsk:r.ss[k - 1]?=some (r.ss.getD (k - 1) []):=by
    rw [List.getElem?_eq_getElem (by omega)];simp [List.getD,List.getElem?_eq_getElem (show k - 1<r.ss.length by omega)]
   generalize r.ss.getD (k - 1) []=s at *
   obtain ⟨b,off,rfl⟩:∃ b off,a=some ⟨b,off,none⟩:=by
    obtain ⟨es,h1,_⟩:=hr.ns.ex;exact h1.where (by omega)
   obtain ⟨sg,soff,so,sn,sc',rfl,c3w,hsw⟩:=hr.ss.str hsk;have hsg:=cell_lt c3w;have CW:=hZq (gZq (World.grownBy.refl w none) G1.out);have hs1:Hid (((w.alloc (.cells #[.slice (some ⟨b,off,none⟩) m c,.slice (some ⟨sg,soff,none⟩) sm sc] 77)).alloc (.cells #[.slice none 0 0,.slice none 0 0] 77)).heap.size=w.heap.size+1+1):=by simp [Hid]
   clear hbest es hc;go_enter Tryz.func166,Tryz.ntmps166
   go_wp2_with fail
   generalize (w.alloc (.cells #[.slice (some ⟨b,off,none⟩) m c,.slice (some ⟨sg,soff,none⟩) sm sc] 77)).alloc (.cells #[.slice none 0 0,.slice none 0 0] 77)=w1 at *;refine (HZ.out w1 R1.out).mono ?_;rintro en w3 ⟨rfl,hg3⟩;have G3:=hZq hg3;have d0:=hg3.cell e0 (by simp);have d1:=hg3.cell e1 (by simp);clear hg3 e0 e1
   go_wp2_with fail
   refine (cfits_any _ w3).mono ?_;rintro en w4 ⟨rfl,rfl⟩;rw [decide_eq_false hf]
   go_wp2_with fail
   refine (HC.out w4 (R1.out.kept (FrT.of G3.out))).mono ?_;rintro en w5 ⟨⟨k9,rfl,hb9⟩,hg5⟩;have hk9:=HU.out k9 hb9;subst hk9;have G5:=hZq (gZq G3.out hg5);have c0:=hg5.cell d0 (by simp);have c1:=hg5.cell d1 (by simp);have R5:=R1.out.kept (FrT.of G5.out);have c3:=(gZq CW.out G5.out).cell c3w (by simp);have hs:=hsw.kept (FrT.of (gZq CW.out G5.out));have RT:=hZq R5;have SS:=hZq hs;obtain ⟨j,hj⟩:∃ j,k9 - 1=j:=⟨_,rfl⟩;rw [hj] at c3;have v1:((k9:Nat):Int) - 1=(j:Int):=by omega
   have v2:IntKind.i64.wrap (j:Int)=(j:Int):=by rw [IntKind.wrap_i64];omega
   have v3:(0:Int)<=(j:Int)/\(j:Int)<(sm:Int):=by omega
   have v4:(0:Int)<=(k9:Int):=by omega
   have v5:(k9:Int)<=(m:Int):=by omega
   have v6:(k9:Int)<=(c:Int):=by omega
   have v7:(k9:Int)<=(sm:Int):=by omega
   have v8:(k9:Int)<=(sc:Int):=by omega
   have v9:(j:Int)<=(sc:Int):=by omega
   have va:¬ c=k9:=by omega
   have vb:¬ sc=k9:=by omega
   have vc:(0:Int)<=(j:Int):=by omega
   have hs5:=hZq G5.out.size;clear hb9 hg5 HU HZ HC d0 d1 hsk R5 hs hr hsw c3w;go_upto_region 6 with fail
   go_cut [4] from 25 to 35 (fun s4 wx=>s4=.pointer (some ⟨w5.heap.size,0,none⟩)/\wx=(w5.alloc (.cells #[.slice (some ⟨b,off,none⟩) k9 c,.slice (some ⟨sg,soff,none⟩) j sc] 77)).drew)
   case first =>
    go_region_held3 (fun w'=>w'.cell? ⟨w.heap.size,0,none⟩=some (.slice (some ⟨b,off,none⟩) m c)/\w'.cell? ⟨w.heap.size,1,none⟩=some (.slice (some ⟨sg,soff,none⟩) sm sc)) (first | exact ⟨c0,c1⟩ | go_keep) (fail)
    all_goals (go_wp2_with fail;go_meet;exact ⟨rfl,rfl⟩)
   case rest =>
    obtain ⟨rfl,rfl⟩:=hcut;have hs6:Hid ((w5.alloc (.cells #[.slice (some ⟨b,off,none⟩) k9 c,.slice (some ⟨sg,soff,none⟩) j sc] 77)).drew.heap.size=w5.heap.size+1):=by simp [Hid]
    have GA:=hZq (grown_dw (grown_al (World.grownBy.refl w5 none) (.cells #[.slice (some ⟨b,off,none⟩) k9 c,.slice (some ⟨sg,soff,none⟩) j sc] 77)));have HA:Hid ((w5.alloc (.cells #[.slice (some ⟨b,off,none⟩) k9 c,.slice (some ⟨sg,soff,none⟩) j sc] 77)).drew.heap[w5.heap.size]?=some (.cells #[.slice (some ⟨b,off,none⟩) k9 c,.slice (some ⟨sg,soff,none⟩) j sc] 77 (0,0))):=heap_dw (heap_at0 w5 _ _);have c0a:=GA.out.cell c0 (by simp);have c1a:=GA.out.cell c1 (by simp);have c3a:=GA.out.cell c3 (by simp);generalize (w5.alloc (.cells #[.slice (some ⟨b,off,none⟩) k9 c,.slice (some ⟨sg,soff,none⟩) j sc] 77)).drew=w6 at *;go_upto_region 7 with fail
    go_cut [5] from 35 to 44 (fun s5 wx=>s5=.pointer (some ⟨w6.heap.size,0,none⟩)/\wx=(w6.alloc (.cells #[.slice (some ⟨b,off+k9,none⟩) (m - k9) (c - k9),.slice (some ⟨sg,soff+k9,none⟩) (sm - k9) (sc - k9)] 77)).drew)
    case first =>
     go_region_held3 (fun w'=>w'.cell? ⟨w.heap.size,0,none⟩=some (.slice (some ⟨b,off,none⟩) m c)/\w'.cell? ⟨w.heap.size,1,none⟩=some (.slice (some ⟨sg,soff,none⟩) sm sc)) (first | exact ⟨c0a,c1a⟩ | go_keep) (fail)
     all_goals (go_wp2_with fail;go_meet;exact ⟨rfl,rfl⟩)
    case rest =>
     obtain ⟨rfl,rfl⟩:=hcut;have GB:=hZq (grown_dw (grown_al (World.grownBy.refl w6 none) (.cells #[.slice (some ⟨b,off+k9,none⟩) (m - k9) (c - k9),.slice (some ⟨sg,soff+k9,none⟩) (sm - k9) (sc - k9)] 77)));have HB2:=heap_dw (heap_at0 w6 #[.slice (some ⟨b,off+k9,none⟩) (m - k9) (c - k9),.slice (some ⟨sg,soff+k9,none⟩) (sm - k9) (sc - k9)] 77);have f0:=cell_heap (i:=0) (heap_kept HA.out GB.out) rfl;have f1:=cell_heap (i:=1) (heap_kept HA.out GB.out) rfl;have f2:=cell_heap (i:=0) HB2 rfl;have f3:=cell_heap (i:=1) HB2 rfl;have f4:=GB.out.cell c1a (by simp);have f5:=GB.out.cell c3a (by simp);have G7:=hZq (gZq GA.out GB.out);have TT:=hZq (And.intro f0 (And.intro f1 (And.intro f2 (And.intro f3 (And.intro f4 f5)))));generalize (w6.alloc (.cells #[.slice (some ⟨b,off+k9,none⟩) (m - k9) (c - k9),.slice (some ⟨sg,soff+k9,none⟩) (sm - k9) (sc - k9)] 77)).drew=w7 at *
     have L1:Hid (RowT n w7 (some ⟨b,off,none⟩) k9 c (some ⟨sg,soff,none⟩) j sc ⟨r.ns.take k9,r.ss.take (k9 - 1)⟩):=by
      have h:=RT.out.kept (FrT.of G7.out);rw [<- hj];exact ⟨SlT.take h.ns (by omega),SlT.take h.ss (by omega)⟩
     have L2:Hid (RowT n w7 (some ⟨b,off+k9,none⟩) (m - k9) (c - k9) (some ⟨sg,soff+k9,none⟩) (sm - k9) (sc - k9) ⟨r.ns.drop k9,r.ss.drop k9⟩):=by
      have h:=RT.out.kept (FrT.of G7.out);have h1:=SlT.drop h.ns (i:=k9) (by omega);have h2:=SlT.drop h.ss (i:=k9) (by omega);rw [Nat.mul_one] at h1 h2;exact ⟨h1,h2⟩
     have BO:Hid (∀ (W:World) (p q:Nat),w7.grownBy W none->W.heap[p]?=some (.cells #[.int .i64 0,.slice (some ⟨b,off,none⟩) k9 c,.slice (some ⟨sg,soff,none⟩) j sc] 136 (0,0))->W.heap[q]?=some (.cells #[.int .i64 0,.slice (some ⟨b,off+k9,none⟩) (m - k9) (c - k9),.slice (some ⟨sg,soff+k9,none⟩) (sm - k9) (sc - k9)] 136 (0,0))->Calls Tryz.prog 99 #[.iface 134 (.pointer (some ⟨p,0,none⟩)),.slice so sn sc',.iface 134 (.pointer (some ⟨q,0,none⟩))] W fun en w'=>(∃ a m c sa sm sc,en=.returned (.agg #[.slice a m c,.slice sa sm sc])/\RowT (n+1) w' a m c sa sm sc ⟨[(⟨0,⟨r.ns.take k9,r.ss.take (k9 - 1)⟩⟩:BnT (NdT n)),(⟨0,⟨r.ns.drop k9,r.ss.drop k9⟩⟩:BnT (NdT n))],[s]⟩)/\W.grownBy w' none):=fun W p q hg hp hq =>
      both_row (n:=n+1) (node_at hp (L1.out.kept (FrT.of hg))) (node_at hq (L2.out.kept (FrT.of hg))) ⟨_,_,_,rfl,SS.out.kept (FrT.of (gZq G7.out hg))⟩ (World.grownBy.refl _ _)
     clear c0 c1 c3 c0a c1a c3a f0 f1 f2 f3 f4 f5 HB2 L1 L2 RT SS hj HA GA GB;go_upto_region 8 with fail
     go_region_held3 (fun w'=>w'.cell? ⟨w5.heap.size,0,none⟩=some (.slice (some ⟨b,off,none⟩) k9 c)/\w'.cell? ⟨w5.heap.size,1,none⟩=some (.slice (some ⟨sg,soff,none⟩) j sc)/\w'.cell? ⟨w6.heap.size,0,none⟩=some (.slice (some ⟨b,off+k9,none⟩) (m - k9) (c - k9))/\w'.cell? ⟨w6.heap.size,1,none⟩=some (.slice (some ⟨sg,soff+k9,none⟩) (sm - k9) (sc - k9))/\w'.cell? ⟨w.heap.size,1,none⟩=some (.slice (some ⟨sg,soff,none⟩) sm sc)/\w'.cell? ⟨sg,soff+j,none⟩=some (.slice so sn sc')) (first | (with_reducible exact T9) | ((with_reducible refine And.intro (keep1 TT.out.1 ?_) (And.intro (keep1 TT.out.2.1 ?_) (And.intro (keep1 TT.out.2.2.1 ?_) (And.intro (keep1 TT.out.2.2.2.1 ?_) (And.intro (keep1 TT.out.2.2.2.2.1 ?_) (keep1 TT.out.2.2.2.2.2 ?_)))))) <;> (repeat' first | (with_reducible exact World.grownBy.refl _ _) | (with_reducible exact H9) | (with_reducible apply grown_dw) | (with_reducible apply grown_al));done) | (refine And.intro (keep2 T9.1 ?_) (And.intro (keep2 T9.2.1 ?_) (And.intro (keep2 T9.2.2.1 ?_) (And.intro (keep2 T9.2.2.2.1 ?_) (And.intro (keep2 T9.2.2.2.2.1 ?_) (keep2 T9.2.2.2.2.2 ?_))))) <;> (have q1:=hs1.out;have q5:=hs5.out;have q6:=hs6.out;omega)) | go_keep) (first
      | (go_at_call 99;(with_reducible refine (BO.out _ _ _ ?_ ?_ ?_).mono ?_);(· (repeat' first | (with_reducible exact World.grownBy.refl _ _) | (with_reducible apply grown_dw) | (with_reducible apply grown_al)));(· (repeat' first | (with_reducible exact heap_at0 _ _ _) | (with_reducible exact heap_at1 _ _ _ _) | (with_reducible apply heap_dw) | (with_reducible apply heap_old)));(· (repeat' first | (with_reducible exact heap_at0 _ _ _) | (with_reducible exact heap_at1 _ _ _ _) | (with_reducible apply heap_dw) | (with_reducible apply heap_old)));rintro en w9 ⟨⟨a9,m9,c9,sa9,sm9,sc9,rfl,RR⟩,hg9⟩;have H9:w7.grownBy w9 none:=gZq (by (repeat' first | (with_reducible exact World.grownBy.refl _ _) | (with_reducible apply grown_dw) | (with_reducible apply grown_al))) hg9;have T9:=And.intro (H9.cell TT.out.1 (by simp)) (And.intro (H9.cell TT.out.2.1 (by simp)) (And.intro (H9.cell TT.out.2.2.1 (by simp)) (And.intro (H9.cell TT.out.2.2.2.1 (by simp)) (And.intro (H9.cell TT.out.2.2.2.2.1 (by simp)) (H9.cell TT.out.2.2.2.2.2 (by simp))))));have B9:=B1.out.keptN (gZq G5.out (gZq G7.out H9));obtain ⟨⟨x1,cx⟩,⟨y1,cy⟩,z1,z2⟩:=B9.cells))
     all_goals go_wp2
     all_goals (refine ret_rowG (p:=2) rfl B9 (by omega) RR (gZq G1.out (gZq G5.out (gZq G7.out H9))) ?_ ?_ <;> rfl)
theorem lchanged_nil (b:Nat)(ka:Option Addr)(kn kc:Nat)(key:List Int)(na:Option Addr)(nn nc:Nat)(now:List PrT)(w:World)(hb:w.heap[b]?=some (.cells #[.int .i64 0,.slice none 0 0] 120 (0,0)))(hk:Byt w ka kn kc key)(bt:Bt key)(hnow:PsT w na nn nc now)(hn:NowT key now) :
  Calls Tryz.prog 68 #[.pointer (some ⟨b,0,none⟩),.slice ka kn kc,.slice na nn nc] w fun en w'=>ChT 0 (changedT 0 (⟨0,[]⟩:LfT) key now) en w'/\w.grownBy w' none:=by
 have hps:PsT w none 0 0 []:=SlT.nil _ _ _ _;have hc0:=cell_heap (i:=1) hb rfl;have G1:=hZq (World.grownBy_alloc w (.cells #[.slice none 0 0,.slice none 0 0] 77) none);have B1:=hZq (BxT.new w (.slice none 0 0) (.slice none 0 0));have N1:=hZq (hnow.kept (FrT.of G1.out));have c1:=G1.out.cell hc0 (by simp);have LF:=lfind_any b none 0 0 ka kn kc [] key _ c1 (hps.kept (FrT.of G1.out)) (by omega) List.Pairwise.nil (hk.keptN G1.out) bt (fun p hp=>by simp at hp);rw [show findT [] key=0 from rfl,show hasT [] key=false from rfl] at LF;have LF:=hZq LF;have hnl:=hnow.len;have hn1:=hn.one
 have SU:Hid (∀ (a:Option Addr) (n c:Nat) (w:World),PsT w a n c ([]++(now++[]))->Calls Tryz.prog 76 #[.slice a n c] w fun en w'=>(∃ a m c sa sm sc,en=.returned (.agg #[.slice a m c,.slice sa sm sc])/\RowT 0 w' a m c sa sm sc (settleL now))/\w.grownBy w' none):=by
  intro a n c w h;have e:List.take (findT [] key) ([]:List PrT)++(now++List.drop (endT [] key) [])=now:=by simp
  have:=settle_upd (L:=[]) (key:=key) LokT.nil hn a n c w h;rw [e] at this;exact this
 have VN:=hZq (fun p hp=>(hn.vp p hp).vb);have HC:Hid (changedT 0 (⟨0,[]⟩:LfT) key now=if sameT [] now key then none else some (settleL ([]++(now++[])))):=rfl;have HSM:Hid (sameT [] now key=decide (([]:List PrT).map PrT.val=now.map PrT.val)):=rfl;rw [HC.out];have hbl:=cell_lt hc0;clear hb hnow hk hn hc0 HC hps;go_enter Tryz.func68,Tryz.ntmps68
 go_wp2_with fail
 refine LF.out.mono ?_;rintro en w2 ⟨rfl,hg2⟩;have G2:=hZq hg2;have c2:=hg2.cell c1 (by simp);have N2:=hZq (N1.out.kept (FrT.of hg2));clear hg2 LF c1
 go_wp2_with fail
 refine (equalFunc_any none na 0 0 nn nc [] now w2 (SlT.nil _ _ _ _) N2.out (by omega) (by omega) (fun p hp=>by simp at hp) VN.out).mono ?_;rintro en w3 ⟨rfl,hg3⟩;rw [<- HSM.out];have G3:=hZq (gZq G2.out hg3);have c3:=hg3.cell c2 (by simp);have N3:=hZq (N2.out.kept (FrT.of hg3));clear hg3 c2 N2 VN;cases hs:sameT [] now key with
 | true =>
  clear HSM SU;go_wp2;exact ⟨rfl,rfl,gZq G1.out G3.out⟩
 | false =>
  have CT:=hZq (cat3_tp IpT ip_keptN none 0 0 [] na nn nc now none 0 0 [] (SlT.nil _ _ _ _) N3.out (SlT.nil _ _ _ _) (by simp;omega));have hbn:¬ b=w.heap.size:=by omega
  have hbn2:¬ w.heap.size=b:=by omega
  clear HSM;go_upto_region 7 with fail
  go_region_held3 (fun w'=>w'.cell? ⟨b,1,none⟩=some (.slice none 0 0)) (first | exact c3 | exact c5 | exact c6 | go_keep) (first
   | (go_at_call 77;(with_reducible refine CT.out.mono ?_);rintro en w5 ⟨⟨a5,n5,cc5,rfl,hp5⟩,hg5⟩;have c5:=hg5.cell c3 (by simp);have hq5:PsT w5 a5 n5 cc5 ([]++(now++[])):=hp5)
   | (go_at_call 76;(with_reducible refine (SU.out _ _ _ _ hq5).mono ?_);rintro en w6 ⟨⟨a6,m6,cc6,sa6,sm6,sc6,rfl,hr6⟩,hg6⟩;have c6:=hg6.cell c5 (by simp);obtain ⟨⟨x,cx⟩,⟨y,cy⟩,z1,z2⟩:=(B1.out.keptN (gZq G3.out (gZq hg5 hg6))).cells))
  all_goals go_wp2
  all_goals
   obtain ⟨r1,r2,r3⟩:=ret_row (fn:=Tryz.f68) (p:=6) rfl (B1.out.keptN (gZq G3.out (gZq hg5 hg6))) hr6 (gZq G1.out (gZq G3.out (gZq hg5 hg6)));refine ret_endC r1 r2 r3 ?_ ?_ <;> rfl
theorem info_pair10:(Tryz.prog.info? 40).map (fun i=>(i.zero,i.size,i.bytes))=some (some (.agg #[.slice none 0 0,.slice none 0 0]),2,48):=by kernel_rfl
theorem info_ints10:(Tryz.prog.info? 52).map (fun i=>(i.zero,i.size,i.bytes))=some (some (.slice none 0 0),1,24):=by kernel_rfl
theorem info_anode10:(Tryz.prog.info? 54).map (fun i=>(i.zero,i.size,i.bytes))=some (some (.agg #[.int .i64 0,.int .i64 0,.slice none 0 0,.slice none 0 0,.slice none 0 0,.slice none 0 0]),6,112):=by kernel_rfl
theorem al3_0 (w:World)(X Y Z:Obj):(((w.alloc X).alloc Y).alloc Z).drew.heap[w.heap.size]?=some X:=by
 show (((w.alloc X).alloc Y).alloc Z).heap[w.heap.size]?=some X
 rw [Below.heap_alloc _ _ _ (by simp;omega),Below.heap_alloc _ _ _ (by simp),heap_alloc_new]
theorem al3_1 (w:World)(X Y Z:Obj):(((w.alloc X).alloc Y).alloc Z).drew.heap[w.heap.size+1]?=some Y:=by
 show (((w.alloc X).alloc Y).alloc Z).heap[w.heap.size+1]?=some Y
 rw [Below.heap_alloc _ _ _ (by simp)];have:=heap_alloc_new (w.alloc X) Y;rw [World.size_alloc] at this;exact this
theorem al3_2 (w:World)(X Y Z:Obj):(((w.alloc X).alloc Y).alloc Z).drew.heap[w.heap.size+1+1]?=some Z:=by
 show (((w.alloc X).alloc Y).alloc Z).heap[w.heap.size+1+1]?=some Z
 have:=heap_alloc_new ((w.alloc X).alloc Y) Z;rw [World.size_alloc,World.size_alloc] at this;exact this
theorem al3_g (w:World)(X Y Z:Obj):w.grownBy (((w.alloc X).alloc Y).alloc Z).drew none:=grown_dw (grown_al (grown_al (grown_al (World.grownBy.refl _ _) _) _) _)
def nbx (no:Int)(P C m:Nat):Array Value:=#[.int .i64 no,.int .i64 0,.slice (some ⟨P,0,none⟩) m m,.slice (some ⟨C,0,none⟩) m m,.slice none 0 0,.slice none 0 0]
structure TlB (w0 w:World)(N P C m:Nat)(no:Int):Prop where
 bx:w.heap[N]?=some (.cells (nbx no P C m) 54 (0,0))
 gr:w0.grownBy w none
 n0:w0.heap.size<=N
 p0:w0.heap.size<=P
 c0:w0.heap.size<=C
theorem FlT.of_heap {w:World}{g n k:Nat}{t:TypeId}{cs:Array Value}(h:w.heap[g]?=some (.cells cs t (0,0)))(hs:cs.size=n*k):FlT w g n k t []:=⟨⟨cs,h,hs,fun i e he=>by simp at he⟩,EwfT.nil _⟩
theorem FlT.tg {w:World}{g n k:Nat}{t:TypeId}{es:List (List Value)}(h:FlT w g n k t es):TgT w g t:=by
 obtain ⟨cur,h1,_⟩:=h.row;exact ⟨_,_,h1⟩
theorem FlT.other {w w':World}{g n k:Nat}{t:TypeId}{es:List (List Value)}{d:Nat}(h:FlT w g n k t es)(hg:w.grownBy w' (some d))(hd:d≠g):FlT w' g n k t es:=by
 obtain ⟨cur,h1,h2⟩:=h.row;exact ⟨⟨cur,(hg.block g (Array.getElem?_eq_some_iff.1 h1).1 (by simpa using Ne.symm hd)).trans h1,h2⟩,h.wf⟩
theorem tg_ne {w:World}{a b:Nat}{t u:TypeId}(h:TgT w a t)(k:TgT w b u)(hne:t≠u):a≠b:=by
 rintro rfl;obtain ⟨_,_,h1⟩:=h;obtain ⟨_,_,h2⟩:=k;rw [h1] at h2;simp only [Option.some.injEq,Obj.cells.injEq] at h2;exact hne h2.2.1
theorem TlB.other {w0 w w':World}{N P C m:Nat}{no:Int}{d:Nat}(h:TlB w0 w N P C m no)(hg:w.grownBy w' (some d))(hd:w0.heap.size<=d)(hN:d≠N):TlB w0 w' N P C m no :=
 ⟨(hg.block N (Array.getElem?_eq_some_iff.1 h.bx).1 (by simpa using Ne.symm hN)).trans h.bx,grown_new h.gr hg hd,h.n0,h.p0,h.c0⟩
theorem TlB.keptN {w0 w w':World}{N P C m:Nat}{no:Int}(h:TlB w0 w N P C m no)(hg:w.grownBy w' none):TlB w0 w' N P C m no :=
 ⟨heap_kept h.bx hg,gZq h.gr hg,h.n0,h.p0,h.c0⟩
theorem TlB.cell {w0 w:World}{N P C m:Nat}{no:Int}(h:TlB w0 w N P C m no)(i:Nat):w.cell? ⟨N,i,none⟩=(nbx no P C m)[i]?:=cell_of_row w N i _ _ _ h.bx
structure TlL (w0 w:World)(N P C m:Nat)(no:Int)(ps:List PrT)(kp kq:Nat)(es cs:List (List Value)):Prop where
 b:TlB w0 w N P C m no
 fp:FlT w P m 2 40 es
 el:es.length=kp
 pv:PvL w es (ps.take kp) w0.heap.size w.heap.size
 fc:FlT w C m 1 52 cs
 cl:cs.length=kq
 ic:ElyT (IcT w w0.heap.size) cs ((ps.take kq).map PrT.chain)
theorem PvL.wide {w:World}:∀ {es:List (List Value)} {ps:List PrT} {lo hi hi':Nat},PvL w es ps lo hi->hi<=hi'->PvL w es ps lo hi'
 | [],[],_,_,_,h,k=>Nat.le_trans h k
 | _::es,_::ps,lo,hi,_,h,k=>by
  obtain ⟨m,h1,h2,h3,h4⟩:=h;exact ⟨m,h1,by omega,h3,h4.wide k⟩
 | [],_::_,_,_,_,h,_=>h.elim
 | _::_,[],_,_,_,h,_=>h.elim
theorem TlL.keptN {w0 w w':World}{N P C m:Nat}{no:Int}{ps:List PrT}{kp kq:Nat}{es cs:List (List Value)}(h:TlL w0 w N P C m no ps kp kq es cs)(hg:w.grownBy w' none):TlL w0 w' N P C m no ps kp kq es cs :=
 ⟨h.b.keptN hg,h.fp.keptN hg,h.el,(h.pv.kept (FrT.of hg)).wide hg.size,h.fc.keptN hg,h.cl,h.ic.mono (fun _ _ q=>q.kept (FrT.of hg))⟩
theorem TlB.tN {w0 w:World}{N P C m:Nat}{no:Int}(h:TlB w0 w N P C m no):TgT w N 54:=⟨_,_,h.bx⟩
theorem EsT.other {w w':World}{t u:TypeId}{a:Option Addr}{n c k:Nat}{es:List (List Value)}{d:Nat}(h:EsT w t a n c k es)(hg:w.grownBy w' (some d))(hd:TgT w d u)(hne:t≠u):EsT w' t a n c k es :=
 ⟨h.len,h.cap,h.c2,h.nil,h.pl,h.sz,h.one,fun i e he=>by
  obtain ⟨b,off,h1,h2,h3⟩:=h.cell i e he
  have hb:w'.heap[b]?=w.heap[b]?:=by
   obtain ⟨cur,z,q⟩:=h2;exact hg.block b (Array.getElem?_eq_some_iff.1 q).1 (fun e=>tg_ne ⟨cur,z,q⟩ hd hne (Option.some.inj e))
  refine ⟨b,off,h1,?_,fun f v hv=>(World.cell?_of_block hb).trans (h3 f v hv)⟩;obtain ⟨cur,z,q⟩:=h2;exact ⟨cur,z,hb.trans q⟩⟩
theorem PvL.other {w w':World}{es:List (List Value)}{ps:List PrT}{lo hi d:Nat}{u:TypeId}(h:PvL w es ps lo hi)(hg:w.grownBy w' (some d))(hd:TgT w d u)(hne:5≠u):PvL w' es ps lo hi :=
 h.same fun g _ _ ht=>by
  have hl:g<w.heap.size:=by
   obtain ⟨_,_,q⟩:=ht;exact (Array.getElem?_eq_some_iff.1 q).1
  exact hg.block g hl (fun e=>tg_ne ht hd hne (Option.some.inj e))
theorem TlL.pair {w0 w w6:World}{N P C m:Nat}{no:Int}{ps:List PrT}{k:Nat}{es cs:List (List Value)}{kv vv:Value}{p:PrT}{q:Nat}(h:TlL w0 w N P C m no ps k k es cs)(hk:k<m)(hx:ps[k]?=some p)(hg:w.grownBy w6 none)
  (hkv:w6.ownsRow w.heap.size 5 1 kv p.key.length (p.key.map (Value.int .u8))) (hq:w.heap.size<=q) (hq6:q<=w6.heap.size) (hkq:∀ g,kv.ownBlock=some g->g<q) (hvv:w6.ownsRow q 5 1 vv p.val.length (p.val.map (Value.int .u8))) (h1:kv.oneCell'=true) (h2:vv.oneCell'=true) :
  TlL w0 (setL w6 P (k*2) [kv,vv]) N P C m no ps (k+1) k (es++[[kv,vv]]) cs/\w6.grownBy (setL w6 P (k*2) [kv,vv]) (some P):=by
 have h6:=h.keptN hg;have tP:=h6.fp.tg;have hs:=setL_grown (g:=P) [kv,vv] w6 (k*2);have hsz:(setL w6 P (k*2) [kv,vv]).heap.size=w6.heap.size:=by simp [setL]
 have hel:=h.el;have hnx:=h6.fp.next (by omega) [kv,vv] rfl (by simp [h1,h2])
 rw [hel] at hnx
 have hpv:PvL w6 (es++[[kv,vv]]) (ps.take (k+1)) w0.heap.size w6.heap.size:=by
  rw [takeS hx];exact (h.pv.kept (FrT.of hg)).snoc hg.size ⟨kv,vv,q,rfl,hq,hq6,⟨hkv,hkq⟩,⟨hvv,fun g e=>(own_lt10 hvv e).2.1⟩⟩
 refine ⟨⟨h6.b.other hs h6.b.p0 (tg_ne tP h6.b.tN (by decide)),hnx,by simp [hel],?_,h6.fc.other hs (tg_ne tP h6.fc.tg (by decide)),h6.cl,h6.ic.mono (fun e c q=>?_)⟩,hs⟩
 ·rw [hsz]
  exact hpv.other hs tP (by decide)
 ·obtain ⟨a,n,c',q1,q2,q3⟩:=q
  exact ⟨a,n,c',q1,EsT.other q2 hs tP (by decide),q3⟩
theorem TlL.chain {w0 w w6:World}{N P C m:Nat}{no:Int}{ps:List PrT}{k:Nat}{es cs:List (List Value)}{ca:Option Addr}{cn cc:Nat}{p:PrT}(h:TlL w0 w N P C m no ps (k+1) k es cs)(hk:k<m)(hx:ps[k]?=some p)(hg:w.grownBy w6 none)(hc:NmT w6 ca cn cc p.chain)(hcl9:∀ ad,ca=some ad->w0.heap.size<=ad.block) :
  TlL w0 (setL w6 C (k*1) [.slice ca cn cc]) N P C m no ps (k+1) (k+1) es (cs++[[.slice ca cn cc]])/\w6.grownBy (setL w6 C (k*1) [.slice ca cn cc]) (some C):=by
 have h6:=h.keptN hg;have tC:=h6.fc.tg;have hs:=setL_grown (g:=C) [.slice ca cn cc] w6 (k*1);have hsz:(setL w6 C (k*1) [.slice ca cn cc]).heap.size=w6.heap.size:=by simp [setL]
 have hcl:=h.cl;have hnx:=h6.fc.next (by omega) [.slice ca cn cc] rfl (by simp [Value.oneCell'])
 rw [hcl] at hnx;refine ⟨⟨h6.b.other hs h6.b.c0 (tg_ne tC h6.b.tN (by decide)),h6.fp.other hs (tg_ne tC h6.fp.tg (by decide)),h6.el,?_,hnx,by simp [hcl],?_⟩,hs⟩
 ·rw [hsz]
  exact h6.pv.other hs tC (by decide)
 ·rw [takeS hx,List.map_append]
  refine (h6.ic.mono (fun e c q=>?_)).app (ElyT.one ⟨ca,cn,cc,rfl,EsT.other hc hs tC (by decide),fun ad e _=>hcl9 ad e⟩);obtain ⟨a,n,c',q1,q2,q3⟩:=q;exact ⟨a,n,c',q1,EsT.other q2 hs tC (by decide),q3⟩
end Go.Proofs.YtepcgckapoljpaaGreat
