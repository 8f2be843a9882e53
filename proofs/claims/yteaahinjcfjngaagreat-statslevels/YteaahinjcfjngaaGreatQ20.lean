import Derived.Test.YteaahinjcfjngaaGreatQ19
import Derived.Deep.RegionHeld3
import Derived.Deep.CutBlock
import Derived.Deep.DeepCutAuto
import Derived.Deep.CutRange
import Derived.Deep.QuietTactic
set_option maxRecDepth 100000
set_option maxHeartbeats 16000000
namespace Go.Proofs.YteaahinjcfjngaaGreat
open Go.RowKit
theorem node_leaf {w:World}{a:Option Addr}{m c:Nat}{ps:List PrT}(no:Int)(h:PsT w a m c ps):NodeT 0 (w.alloc (.cells #[.int .i64 no,.slice a m c] 135)) (.iface 133 (.pointer (some ⟨w.heap.size,0,none⟩))) (⟨no,ps⟩:LfT) :=
 ⟨_,a,m,c,rfl,heap_alloc_new w _,h.kept (FrT.of (World.grownBy_alloc w _ none))⟩
theorem node_branch {n:Nat}{w:World}{a:Option Addr}{m c:Nat}{sa:Option Addr}{sm sc:Nat}{r:RwT (NdT n)}(no:Int)(h:RowT n w a m c sa sm sc r):NodeT (n+1) (w.alloc (.cells #[.int .i64 no,.slice a m c,.slice sa sm sc] 163)) (.iface 161 (.pointer (some ⟨w.heap.size,0,none⟩))) (⟨no,r⟩:BnT (NdT n)) :=
 ⟨_,a,m,c,sa,sm,sc,rfl,heap_alloc_new w _,(h.kept (FrT.of (World.grownBy_alloc w _ none))).ns,(h.kept (FrT.of (World.grownBy_alloc w _ none))).ss⟩
theorem sums_least:∀ (p:Nat) (L:List It),2*L.length<=sums p L
 | _,[]=>by simp
 | p,x::L=>by
  have:=sums_least p L;rw [sums];simp only [List.length_cons];omega
theorem size_least (L:List It):2*L.length+3<=size L:=by
 unfold size;have:=sums_least (pre L) L;omega
theorem bsize_least (L:List (List Int)):11*L.length+12<=bsize L:=by
 unfold bsize;have:=bsums_least (bpre L) L;omega
structure BxT (w:World)(g:Nat):Prop where
 row:∃ x y,w.heap[g]?=some (.cells #[x,y] 89 (0,0))
theorem BxT.keptN {w w':World}{g:Nat}(h:BxT w g)(hg:w.grownBy w' none):BxT w' g:=by
 obtain ⟨x,y,e⟩:=h.row;exact ⟨x,y,heap_kept e hg⟩
theorem BxT.cells {w:World}{g:Nat}(h:BxT w g):(∃ x,w.cell? ⟨g,0,none⟩=some x)/\(∃ y,w.cell? ⟨g,1,none⟩=some y)/\w.frozen? ⟨g,0,none⟩=false/\w.frozen? ⟨g,1,none⟩=false:=by
 obtain ⟨x,y,e⟩:=h.row;exact ⟨⟨x,cell_heap e rfl⟩,⟨y,cell_heap e rfl⟩,frozen_of_row w g 0 _ _ e,frozen_of_row w g 1 _ _ e⟩
theorem BxT.put {w:World}{g:Nat}(h:BxT w g)(u v:Value):((w.setCell ⟨g,0,none⟩ u).setCell ⟨g,1,none⟩ v).heap[g]?=some (.cells #[u,v] 89 (0,0))/\FrT w ((w.setCell ⟨g,0,none⟩ u).setCell ⟨g,1,none⟩ v)/\w.grownBy ((w.setCell ⟨g,0,none⟩ u).setCell ⟨g,1,none⟩ v) (some g):=by
 obtain ⟨x,y,e⟩:=h.row;have k1:=heap_setCell_same w g 0 _ _ u e;have k2:=heap_setCell_same _ g 1 _ _ v k1;refine ⟨?_,(FrT.set e (by decide)).trans (FrT.set k1 (by decide)),gZq (grown_cell w g 0 u) (grown_cell _ g 1 v)⟩;rw [k2]
 rfl
theorem ret_row {fn:Func}{p:Tmp}{n:Nat}{r:RwT (NdT n)}{w w5:World}{a:Option Addr}{m c:Nat}{sa:Option Addr}{sm sc:Nat}(h:fn.results=#[.cell p 89])(hb:BxT w5 w.heap.size)(hr:RowT n w5 a m c sa sm sc r)(hg:w.grownBy w5 none) :
  (∀ tmps:Array Value,tmps.getD p undef=.pointer (some ⟨w.heap.size,0,none⟩)->(results fn tmps).run Tryz.prog ((w5.setCell ⟨w.heap.size,0,none⟩ (.slice a m c)).setCell ⟨w.heap.size,1,none⟩ (.slice sa sm sc))=.ok (.agg #[.slice a m c,.slice sa sm sc]) ((w5.setCell ⟨w.heap.size,0,none⟩ (.slice a m c)).setCell ⟨w.heap.size,1,none⟩ (.slice sa sm sc))) /\
  RowT n ((w5.setCell ⟨w.heap.size,0,none⟩ (.slice a m c)).setCell ⟨w.heap.size,1,none⟩ (.slice sa sm sc)) a m c sa sm sc r/\w.grownBy ((w5.setCell ⟨w.heap.size,0,none⟩ (.slice a m c)).setCell ⟨w.heap.size,1,none⟩ (.slice sa sm sc)) none:=by
 obtain ⟨k1,k2,k3⟩:=hb.put (.slice a m c) (.slice sa sm sc);exact ⟨fun tmps hp=>results_row h tmps _ _ _ _ hp k1,hr.kept k2,grown_new hg k3 (Nat.le_refl _)⟩
theorem ret_end {fn:Func}{p:Tmp}{n:Nat}{r:RwT (NdT n)}{w w6:World}{ac:Act}{a:Option Addr}{m c:Nat}{sa:Option Addr}{sm sc:Nat}(h1:∀ tmps:Array Value,tmps.getD p undef=.pointer (some ⟨w.heap.size,0,none⟩)->(results fn tmps).run Tryz.prog w6=.ok (.agg #[.slice a m c,.slice sa sm sc]) w6)(h2:RowT n w6 a m c sa sm sc r)(h3:w.grownBy w6 none)(hp:ac.tmps.getD p undef=.pointer (some ⟨w.heap.size,0,none⟩))(hd:ac.defers=[]) :
  bodyPost Tryz.prog fn (fun en w'=>(∃ a m c sa sm sc,en=.returned (.agg #[.slice a m c,.slice sa sm sc])/\RowT n w' a m c sa sm sc r)/\w.grownBy w' none) Exit.ret ac w6 :=
 bodyPost_ret (h1 _ hp) hd ⟨⟨_,_,_,_,_,_,rfl,h2⟩,h3⟩
theorem BxT.new (w:World)(x y:Value):BxT (w.alloc (.cells #[x,y] 89)) w.heap.size:=⟨x,y,heap_alloc_new w _⟩
theorem two_leaves {w:World}{b off n c r:Nat}{ps:List PrT}{so:Option Addr}{sn sc:Nat}{s:List Int}(h:PsT w (some ⟨b,off,none⟩) n c ps)(hs:BtyT w so sn sc s)(hr:r<=n) :
  (Calls Tryz.prog 130 #[.iface 133 (.pointer (some ⟨w.heap.size,0,none⟩)),.slice so sn sc,.iface 133 (.pointer (some ⟨w.heap.size+1,0,none⟩))] ((w.alloc (.cells #[.int .i64 0,.slice (some ⟨b,off,none⟩) r c] 135)).alloc (.cells #[.int .i64 0,.slice (some ⟨b,off+r*3,none⟩) (n - r) (c - r)] 135)).drew
   fun en w'=>(∃ a m c sa sm sc,en=.returned (.agg #[.slice a m c,.slice sa sm sc])/\RowT 0 w' a m c sa sm sc ⟨[(⟨0,ps.take r⟩:LfT),(⟨0,ps.drop r⟩:LfT)],[s]⟩)/\w.grownBy w' none) /\
  (Calls Tryz.prog 130 #[.iface 133 (.pointer (some ⟨w.heap.size+1,0,none⟩)),.slice so sn sc,.iface 133 (.pointer (some ⟨w.heap.size,0,none⟩))] ((w.alloc (.cells #[.int .i64 0,.slice (some ⟨b,off+r*3,none⟩) (n - r) (c - r)] 135)).alloc (.cells #[.int .i64 0,.slice (some ⟨b,off,none⟩) r c] 135)).drew
   fun en w'=>(∃ a m c sa sm sc,en=.returned (.agg #[.slice a m c,.slice sa sm sc])/\RowT 0 w' a m c sa sm sc ⟨[(⟨0,ps.take r⟩:LfT),(⟨0,ps.drop r⟩:LfT)],[s]⟩)/\w.grownBy w' none):=by
 have t1:PsT w (some ⟨b,off,none⟩) r c (ps.take r):=SlT.take h hr;have t2:PsT w (some ⟨b,off+r*3,none⟩) (n - r) (c - r) (ps.drop r):=SlT.drop h hr;constructor
 ·have n1:=node_leaf 0 t1
  have ga:=World.grownBy_alloc w (.cells #[.int .i64 0,.slice (some ⟨b,off,none⟩) r c] 135) none;have n2:=node_leaf 0 (t2.kept (FrT.of ga));have gb:=World.grownBy_alloc (w.alloc (.cells #[.int .i64 0,.slice (some ⟨b,off,none⟩) r c] 135)) (.cells #[.int .i64 0,.slice (some ⟨b,off+r*3,none⟩) (n - r) (c - r)] 135) none;have gd:((w.alloc (.cells #[.int .i64 0,.slice (some ⟨b,off,none⟩) r c] 135)).alloc (.cells #[.int .i64 0,.slice (some ⟨b,off+r*3,none⟩) (n - r) (c - r)] 135)).grownBy ((w.alloc (.cells #[.int .i64 0,.slice (some ⟨b,off,none⟩) r c] 135)).alloc (.cells #[.int .i64 0,.slice (some ⟨b,off+r*3,none⟩) (n - r) (c - r)] 135)).drew none:=(Qt.refl _).drew.grown none;have e:(w.alloc (.cells #[.int .i64 0,.slice (some ⟨b,off,none⟩) r c] 135)).heap.size=w.heap.size+1:=by simp
  rw [e] at n2;refine (both_row (n:=0) (NodeT.kept 0 n1 (FrT.of gb)) n2 ⟨_,_,_,rfl,hs.kept (FrT.of (gZq ga gb))⟩ gd).mono ?_;rintro en w' ⟨h1,h2⟩;exact ⟨h1,gZq (gZq ga gb) (gZq gd h2)⟩
 ·have n1:=node_leaf 0 t2
  have ga:=World.grownBy_alloc w (.cells #[.int .i64 0,.slice (some ⟨b,off+r*3,none⟩) (n - r) (c - r)] 135) none;have n2:=node_leaf 0 (t1.kept (FrT.of ga));have gb:=World.grownBy_alloc (w.alloc (.cells #[.int .i64 0,.slice (some ⟨b,off+r*3,none⟩) (n - r) (c - r)] 135)) (.cells #[.int .i64 0,.slice (some ⟨b,off,none⟩) r c] 135) none;have gd:((w.alloc (.cells #[.int .i64 0,.slice (some ⟨b,off+r*3,none⟩) (n - r) (c - r)] 135)).alloc (.cells #[.int .i64 0,.slice (some ⟨b,off,none⟩) r c] 135)).grownBy ((w.alloc (.cells #[.int .i64 0,.slice (some ⟨b,off+r*3,none⟩) (n - r) (c - r)] 135)).alloc (.cells #[.int .i64 0,.slice (some ⟨b,off,none⟩) r c] 135)).drew none:=(Qt.refl _).drew.grown none;have e:(w.alloc (.cells #[.int .i64 0,.slice (some ⟨b,off+r*3,none⟩) (n - r) (c - r)] 135)).heap.size=w.heap.size+1:=by simp
  rw [e] at n2;refine (both_row (n:=0) n2 (NodeT.kept 0 n1 (FrT.of gb)) ⟨_,_,_,rfl,hs.kept (FrT.of (gZq ga gb))⟩ gd).mono ?_;rintro en w' ⟨h1,h2⟩;exact ⟨h1,gZq (gZq ga gb) (gZq gd h2)⟩
theorem settledLeaf_any (a:Option Addr)(n c:Nat)(ps:List PrT)(w:World)(hl:PsT w a n c ps)(hn:n<=5000)(hs:Srt ps)(hv:∀ p∈ps,Vp p)(hc:4092<size (its ps)->1<=cutL (its ps)/\cutL (its ps)<ps.length) :
  Calls Tryz.prog 104 #[.slice a n c] w fun en w'=>(∃ a m c sa sm sc,en=.returned (.agg #[.slice a m c,.slice sa sm sc])/\RowT 0 w' a m c sa sm sc (settleL ps))/\w.grownBy w' none:=by
 have hlen:=hl.len;have G1:=hZq (World.grownBy_alloc w (.cells #[.slice none 0 0,.slice none 0 0] 89) none);have B1:=hZq (BxT.new w (.slice none 0 0) (.slice none 0 0));have P1:=hZq (hl.kept (FrT.of G1.out));have HI:=hZq (itemsOf_any a n c ps _ P1.out (by omega))
 have hkk:∀ x∈its ps,x.key.length<=140737488351232:=by
  intro x hx;obtain ⟨p,hp,rfl⟩:=List.mem_map.1 hx;have:=(hv p hp).k2
  show p.key.length<=_
  omega
 have HK:=hZq hkk;clear hkk hl
 by_cases h0:n=0
 ·have e0:settleL ps=⟨[],[]⟩:=by unfold settleL;rw [if_pos (by omega)]
  rw [e0];subst h0;go_enter Tryz.func104,Tryz.ntmps104
  go_wp2_with fail
  refine HI.out.mono ?_;rintro en w2 ⟨⟨g,rfl,_⟩,hg2⟩;have B2:=B1.out.keptN hg2;obtain ⟨⟨x,cx⟩,⟨y,cy⟩,z1,z2⟩:=B2.cells;have HB:=hZq B2;have HG:=hZq (gZq G1.out hg2);clear hg2 B2;go_wp2;obtain ⟨r1,r2,r3⟩:=ret_row (n:=0) (r:=⟨[],[]⟩) (fn:=Tryz.f104) (p:=2) (a:=none) (m:=0) (c:=0) (sa:=none) (sm:=0) (sc:=0) rfl HB.out ⟨SlT.nil _ _ _ _,SlT.nil _ _ _ _⟩ HG.out;refine ret_end r1 r2 r3 ?_ ?_ <;> rfl
 ·have n0:¬ ((n:Int)=0):=by omega
  have HS:=hZq (fun (W:World) (g:Nat) (h:SlT W 122 4 (IiT W) (some ⟨g,0,none⟩) n n (its ps))=>size_any (some ⟨g,0,none⟩) n n (its ps) W h.il (by rw [its_len,hlen]) hn HK.out)
  by_cases hf:size (its ps)<=4092
  ·have e0:settleL ps=⟨[⟨0,ps⟩],[]⟩:=by unfold settleL;rw [if_neg (by omega),if_pos hf]
   rw [e0];go_enter Tryz.func104,Tryz.ntmps104
   go_wp2_with fail
   refine HI.out.mono ?_;rintro en w2 ⟨⟨g,rfl,hit⟩,hg2⟩;have HT:=hZq hit;have G2:=hZq hg2;clear hit hg2
   go_wp2_with fail
   refine (HS.out w2 g HT.out).mono ?_;rintro en w3 ⟨rfl,hg3⟩;have G3:=hZq (gZq G2.out hg3);clear hg3
   go_wp2_with fail
   refine (cfits_any _ w3).mono ?_;rintro en w4 ⟨rfl,rfl⟩;have NL:=hZq (node_leaf 0 (P1.out.kept (FrT.of G3.out)));have GL:=hZq (World.grownBy_alloc w4 (.cells #[.int .i64 0,.slice a n c] 135) none)
   go_wp2_with fail
   refine (alone_row (n:=0) NL.out (World.grownBy.refl _ _)).mono ?_;rintro en w5 ⟨⟨a5,m5,c5,sa5,sm5,sc5,rfl,hr5⟩,hg5⟩;have G5:=hZq (gZq G3.out (gZq GL.out hg5));have B5:=B1.out.keptN G5.out;obtain ⟨⟨x,cx⟩,⟨y,cy⟩,z1,z2⟩:=B5.cells;have HB:=hZq B5;have HR:=hZq hr5;clear B5 hr5 hg5;go_wp2;obtain ⟨r1,r2,r3⟩:=ret_row (fn:=Tryz.f104) (p:=2) rfl HB.out HR.out (gZq G1.out G5.out);refine ret_end r1 r2 r3 ?_ ?_ <;> rfl
  ·obtain ⟨hc1,hc2⟩:=hc (by omega)
   have e0:settleL ps=⟨[⟨0,ps.take (cutL (its ps))⟩,⟨0,ps.drop (cutL (its ps))⟩],[sepT (keyT ps (cutL (its ps) - 1)) (keyT ps (cutL (its ps)))]⟩:=by unfold settleL;rw [if_neg (by omega),if_neg hf]
   rw [e0];have HC:=hZq (fun (W:World) (g:Nat) (h:SlT W 122 4 (IiT W) (some ⟨g,0,none⟩) n n (its ps))=>cutLeaf_any (some ⟨g,0,none⟩) n n (its ps) W h.il (by rw [its_len,hlen]) hn (Nat.le_refl _) (by omega) HK.out);obtain ⟨s1,s2,s3⟩:=srt_cut hs hc1 hc2;obtain ⟨p,p1,p2,p3⟩:=keyT_mem (ps:=ps) (i:=cutL (its ps) - 1) (by omega);obtain ⟨q,q1,q2,q3⟩:=keyT_mem hc2;have hvp:=hv p p3;have hvq:=hv q q3;have hbest:=cutL_best (its ps);rw [its_len,hlen] at hbest;have HU:=hZq (fun (r:Nat) (h:Best (fun i=>size ((its ps).take i)) (fun i=>size ((its ps).drop i)) (n - 1) r)=>h.uniq hbest);generalize cutL (its ps)=k at *;rw [<- p2,<- q2] at s3;have S3:=hZq s3;have HE:=hZq (show [sepT (keyT ps (k - 1)) (keyT ps k)]=[sepT p.key q.key] by rw [p2,q2]);rw [HE.out];have hk:k<n:=by omega
   clear hbest e0 s1 s2 s3 hc;go_enter Tryz.func104,Tryz.ntmps104
   go_wp2_with fail
   refine HI.out.mono ?_;rintro en w2 ⟨⟨g,rfl,hit⟩,hg2⟩;have HT:=hZq hit;have G2:=hZq hg2;clear hit hg2
   go_wp2_with fail
   refine (HS.out w2 g HT.out).mono ?_;rintro en w3 ⟨rfl,hg3⟩;have T3:Hid (SlT w3 122 4 (IiT w3) (some ⟨g,0,none⟩) n n (its ps)):=HT.out.mono (by decide) (FrT.of hg3) (fun _ _ h=>h.kept (FrT.of hg3));have G3:=hZq (gZq G2.out hg3);clear hg3
   go_wp2_with fail
   refine (cfits_any _ w3).mono ?_;rintro en w4 ⟨rfl,rfl⟩
   go_wp2_with fail
   refine (HC.out w4 g T3.out).mono ?_;rintro en w5 ⟨⟨r,rfl,hb⟩,hg5⟩;have hr:=HU.out r hb;subst hr;have G5:=hZq (gZq G3.out hg5);clear hb hg5 HU;have P5:=P1.out.kept (FrT.of G5.out);obtain ⟨b,off,ka,kn,kc,va,vn,vc,ca,cn,cc,rfl,c0,_,_,hp⟩:=P5.pair p1;obtain ⟨b',off',ka',kn',kc',va',vn',vc',ca',cn',cc',e',d0,_,_,hq⟩:=P5.pair q1;simp only [Option.some.injEq,Addr.mk.injEq] at e';obtain ⟨rfl,rfl,_⟩:=e';have lk:=hvp.k2;have lq:=hvq.k2;have lkn:=hp.k.b.len;have lqn:=hq.k.b.len;obtain ⟨j,hj⟩:∃ j,r - 1=j:=⟨_,rfl⟩;rw [hj] at c0;have hk0:(0:Int)<=(j:Int)/\(j:Int)<(n:Int):=by omega
   have hk1:(0:Int)<=((r:Nat):Int)/\((r:Nat):Int)<(n:Int):=by omega
   have ek:((r:Nat):Int) - 1=(j:Int):=by omega
   have wk:IntKind.i64.wrap (j:Int)=(j:Int):=by rw [IntKind.wrap_i64];omega
   have SQ:=hZq (fun (W:World) (h:W.heap=w5.heap)=>sep_yes ka ka' kn kn' kc kc' p.key q.key W (hp.k.b.heap h) (hq.k.b.heap h) hvp.kb hvq.kb (by omega) (by omega) hq.k.l1 S3.out);have H5:=hZq P5;clear hp hq P5 HI HS HC p1 p2 q1 q2 hj HE;go_upto_region 7 with fail
   go_cut [5] from 25 to 40 (fun s5 wx=>∃ g cap,s5=.slice (some ⟨g,0,none⟩) (com p.key q.key+1) cap/\BtyT wx (some ⟨g,0,none⟩) (com p.key q.key+1) cap (sepT p.key q.key)/\w5.grownBy wx none)
   case first =>
    go_region_with (go_at_call 129;refine (SQ.out w5.drew rfl).mono ?_;rintro en w6 ⟨g6,cap6,rfl,ho6,hg6⟩)
    all_goals (go_wp2_with fail;go_meet;exact ⟨g6,cap6,rfl,BtyT.of_owns ho6,gZq ((Qt.refl _).drew.grown none) hg6⟩)
   case rest =>
    obtain ⟨g6,cap6,rfl,hb6,hg6⟩:=hcut;have G6:=hZq (gZq G5.out hg6);have P6:=H5.out.kept (FrT.of hg6);have Q6:=hZq (two_leaves P6 hb6 (Nat.le_of_lt hk));have hcap:=P6.cap;have g4:¬ ((c:Int)<(r:Int)):=by omega
    have g5:(r:Int)<=(c:Int):=by omega
    have g6':(r:Int)<=(n:Int):=by omega
    have g7:(0:Int)<=(r:Int):=by omega
    have g8:¬ c=r:=by omega
    have g9:((n:Int) - (r:Int))=((n - r:Nat):Int):=by omega
    have g10:((c:Int) - (r:Int))=((c - r:Nat):Int):=by omega
    have B6:=hZq B1.out;clear hb6 hg6 P6 SQ B1;go_upto_region 8 with fail
    go_region_held3 (fun _=>True) (trivial) (first
     | (go_at_call 130;with_reducible refine Q6.out.1.mono ?_;rintro en w9 ⟨⟨a9,m9,c9,sa9,sm9,sc9,rfl,hr9⟩,hg9⟩;obtain ⟨⟨x,cx⟩,⟨y,cy⟩,z1,z2⟩:=(B6.out.keptN (gZq G6.out hg9)).cells)
     | (go_at_call 130;with_reducible refine Q6.out.2.mono ?_;rintro en w9 ⟨⟨a9,m9,c9,sa9,sm9,sc9,rfl,hr9⟩,hg9⟩;obtain ⟨⟨x,cx⟩,⟨y,cy⟩,z1,z2⟩:=(B6.out.keptN (gZq G6.out hg9)).cells))
    all_goals
     go_wp2;obtain ⟨r1,r2,r3⟩:=ret_row (fn:=Tryz.f104) (p:=2) rfl (B6.out.keptN (gZq G6.out hg9)) hr9 (gZq G1.out (gZq G6.out hg9));refine ret_end r1 r2 r3 ?_ ?_ <;> rfl
theorem ElsT.keptN {w w':World}{q:Option Addr}{e:TypeId}{k:Nat}{Ls:List (List (List Value))}(h:ElsT w q e k Ls)(he:ScT e=false)(hg:w.grownBy w' none):ElsT w' q e k Ls:=by
 refine ⟨fun j hj=>?_⟩;obtain ⟨B,o,a,n,c,h1,h2,h3⟩:=h.row j hj;exact ⟨B,o,a,n,c,h1,hg.cell h2 (by simp),h3.kept he (FrT.of hg)⟩
theorem cat3_tp {T:Type}(J:World->List Value->T->Prop)(hJ:∀ w w',w.grownBy w' none->∀ e x,J w e x->J w' e x){w:World}(a1:Option Addr)(n1 c1:Nat)(L1:List T)(a2:Option Addr)(n2 c2:Nat)(L2:List T)(a3:Option Addr)(n3 c3:Nat)(L3:List T)(h1:SlT w 106 3 (J w) a1 n1 c1 L1)(h2:SlT w 106 3 (J w) a2 n2 c2 L2)(h3:SlT w 106 3 (J w) a3 n3 c3 L3)(ht:(L1++(L2++L3)).length<=100000) :
  Calls Tryz.prog 105 #[.slice (some ⟨w.heap.size,0,none⟩) 3 3] (w.alloc (.cells #[.slice a1 n1 c1,.slice a2 n2 c2,.slice a3 n3 c3] 107)).drew fun en w'=>(∃ a N c,en=.returned (.slice a N c)/\SlT w' 106 3 (J w') a N c (L1++(L2++L3)))/\w.grownBy w' none:=by
 obtain ⟨e1,x1,y1⟩:=h1.ex;obtain ⟨e2,x2,y2⟩:=h2.ex;obtain ⟨e3,x3,y3⟩:=h3.ex;have ga:=World.grownBy_alloc w (.cells #[.slice a1 n1 c1,.slice a2 n2 c2,.slice a3 n3 c3] 107) none;have gd:(w.alloc (.cells #[.slice a1 n1 c1,.slice a2 n2 c2,.slice a3 n3 c3] 107)).grownBy (w.alloc (.cells #[.slice a1 n1 c1,.slice a2 n2 c2,.slice a3 n3 c3] 107)).drew none:=(Qt.refl _).drew.grown none;have l0:=ElsT.lit3 w 107 106 (by decide) 3 a1 a2 a3 n1 c1 n2 c2 n3 c3 e1 e2 e3 x1 x2 x3;have l1:ElsT (w.alloc (.cells #[.slice a1 n1 c1,.slice a2 n2 c2,.slice a3 n3 c3] 107)).drew (some ⟨w.heap.size,0,none⟩) 106 3 [e1,e2,e3]:=l0.keptN (by decide) gd;have hy:=(y1.app (y2.app y3));have hl:=hy.len;have e:[e1,e2,e3].flatten=e1++(e2++e3):=by simp
 refine (concat_tp _ 3 3 [e1,e2,e3] _ l1 rfl (by omega) (by rw [e,hl];exact ht)).mono ?_;rintro en w' ⟨⟨a,c,rfl,h9⟩,hg⟩;rw [e] at h9;rw [hl] at h9;have g:=gZq ga (gZq gd hg);exact ⟨⟨a,_,c,by rw [e,hl],_,h9,hy.mono (fun _ _ h=>hJ _ _ g _ _ h)⟩,g⟩
theorem ip_keptN:∀ w w',w.grownBy w' none->∀ e x,IpT w e x->IpT w' e x:=fun _ _ hg _ _ h=>h.kept (FrT.of hg)
def ChT (n:Nat)(R:Option (RwT (NdT n)))(en:Ending)(w':World):Prop:=match R with
 | none=>en=.panicked [{ v:=.iface 132 (.agg #[]),recovered:=false }]
 | some r=>∃ a m c sa sm sc,en=.returned (.agg #[.slice a m c,.slice sa sm sc])/\RowT n w' a m c sa sm sc r
theorem ret_endC {fn:Func}{p:Tmp}{n:Nat}{r:RwT (NdT n)}{w w6:World}{ac:Act}{a:Option Addr}{m c:Nat}{sa:Option Addr}{sm sc:Nat}(h1:∀ tmps:Array Value,tmps.getD p undef=.pointer (some ⟨w.heap.size,0,none⟩)->(results fn tmps).run Tryz.prog w6=.ok (.agg #[.slice a m c,.slice sa sm sc]) w6)(h2:RowT n w6 a m c sa sm sc r)(h3:w.grownBy w6 none)(hp:ac.tmps.getD p undef=.pointer (some ⟨w.heap.size,0,none⟩))(hd:ac.defers=[]) :
  bodyPost Tryz.prog fn (fun en w'=>ChT n (some r) en w'/\w.grownBy w' none) Exit.ret ac w6:=ret_end h1 h2 h3 hp hd
structure LokT (L:List PrT):Prop where
 s:Srt L
 v:∀ p∈L,Vp p
 f:size (its L)<=4092
theorem LokT.of {x:NdT 0}(h:OkT 0 x):LokT (LfT.ps x):=⟨h.2.1,h.2.2.2,h.2.2.1⟩
theorem LokT.nil:LokT []:=⟨List.Pairwise.nil,fun p hp=>by simp at hp,by decide⟩
theorem LokT.len {L:List PrT}(h:LokT L):L.length<=2045:=by
 have:=size_least (its L);rw [its_len] at this;have:=h.f;omega
theorem upd_len {L:List PrT}{key:List Int}{now:List PrT}(h1:now.length<=1):(L.take (findT L key)++(now++L.drop (endT L key))).length<=L.length+1:=by
 have:=find_end L key;have:=find_le L key;simp only [List.length_append,List.length_take,List.length_drop];omega
theorem settle_upd {L:List PrT}{key:List Int}{now:List PrT}(hL:LokT L)(hn:NowT key now)(a:Option Addr)(n c:Nat)(w:World)(hl:PsT w a n c (L.take (findT L key)++(now++L.drop (endT L key)))) :
  Calls Tryz.prog 104 #[.slice a n c] w fun en w'=>(∃ a m c sa sm sc,en=.returned (.agg #[.slice a m c,.slice sa sm sc])/\RowT 0 w' a m c sa sm sc (settleL (L.take (findT L key)++(now++L.drop (endT L key)))))/\w.grownBy w' none:=by
 have hlen:=hl.len;have hle:=upd_len (key:=key) (now:=now) (L:=L) hn.one;have h9:=hL.len;rw [upd_leaf hL.s] at *
 have hv:∀ p∈updT L key now,Vp p:=fun p hp=>by
  rcases upd_mem hp with h | h
  ·exact hn.vp p h
  ·exact hL.v p h
 have hk:=ok_settleL (upd_srt hL.s hn.key hn.one) hv (upd_cut hL.s hL.f hL.v (fun p hp=>⟨hn.key p hp,hn.vp p hp⟩) hn.one);exact settledLeaf_any a n c _ w hl (by omega) (upd_srt hL.s hn.key hn.one) hv hk.2.2
theorem lchanged_some (b:Nat)(x:LfT)(ka:Option Addr)(kn kc:Nat)(key:List Int)(na:Option Addr)(nn nc:Nat)(now:List PrT)(w:World)(hx:NodeT 0 w (.iface 133 (.pointer (some ⟨b,0,none⟩))) x)(hL:LokT x.ps)(hk:Byt w ka kn kc key)(bt:Bt key)(hnow:PsT w na nn nc now)(hn:NowT key now)(hne:x.ps≠[]) :
  Calls Tryz.prog 75 #[.pointer (some ⟨b,0,none⟩),.slice ka kn kc,.slice na nn nc] w fun en w'=>ChT 0 (changedT 0 x key now) en w'/\w.grownBy w' none:=by
 obtain ⟨b',a,m,c,e,hb,hps⟩:=hx;simp only [Value.iface.injEq,Value.pointer.injEq,Option.some.injEq,Addr.mk.injEq,true_and,and_true] at e;subst e;have hlen:=hps.len;have hle:=hL.len;have hc0:=cell_heap (i:=1) hb rfl
 obtain ⟨g,off,rfl⟩:∃ g off,a=some ⟨g,off,none⟩:=by
  obtain ⟨es,h1,_⟩:=hps.ex;exact h1.where (by have:=List.length_pos_iff.2 hne;omega)
 have G1:=hZq (World.grownBy_alloc w (.cells #[.slice none 0 0,.slice none 0 0] 89) none);have B1:=hZq (BxT.new w (.slice none 0 0) (.slice none 0 0));have P1:=hZq (hps.kept (FrT.of G1.out));have N1:=hZq (hnow.kept (FrT.of G1.out));have c1:=G1.out.cell hc0 (by simp);have LF:=hZq (lfind_any b _ m c ka kn kc x.ps key _ c1 P1.out (by omega) hL.s (hk.keptN G1.out) bt (fun p hp=>(hL.v p hp).kb));have hfe:=find_end x.ps key;have hel:=find_le x.ps key;have hul:=upd_len (key:=key) (now:=now) (L:=x.ps) hn.one;have HE:Hid (endT x.ps key=if hasT x.ps key then findT x.ps key+1 else findT x.ps key):=rfl;have HC:Hid (changedT 0 x key now=if sameT x.ps now key then none else some (settleL (x.ps.take (findT x.ps key)++(now++x.ps.drop (endT x.ps key))))):=rfl;have HSM:Hid (sameT x.ps now key=decide (((x.ps.take (endT x.ps key)).drop (findT x.ps key)).map PrT.val=now.map PrT.val)):=rfl;have SU:=hZq (fun (a:Option Addr) (n c:Nat) (w:World)=>settle_upd hL hn a n c w);have hnl:=hnow.len;have hn1:=hn.one;have VA:=hZq (fun p (hp:p∈(x.ps.take (endT x.ps key)).drop (findT x.ps key))=>(hL.v p (List.mem_of_mem_take (List.mem_of_mem_drop hp))).vb);have VN:=hZq (fun p hp=>(hn.vp p hp).vb);have hcap:=hps.cap;rw [HC.out];have hbl:=cell_lt hc0
 have T2:hasT x.ps key=true/\endT x.ps key=findT x.ps key+1∨hasT x.ps key=false/\endT x.ps key=findT x.ps key:=by
  have:=HE.out;cases hh:hasT x.ps key
  ·rw [hh] at this
   exact .inr ⟨rfl,this⟩
  ·rw [hh] at this
   exact .inl ⟨rfl,this⟩
 generalize findT x.ps key=f at *;generalize hasT x.ps key=hh at *;generalize endT x.ps key=t at *;clear hb hps hnow hk hL hn hc0 HE HC;rcases T2 with ⟨rfl,rfl⟩ | ⟨rfl,ht⟩
 ·have hcf:¬ c=f:=by omega
  by_cases hct:c=f+1
  ·subst hct
   have hm:m=f+1:=by omega
   subst hm;go_enter Tryz.func75,Tryz.ntmps75
   go_wp2_with fail
   refine LF.out.mono ?_;rintro en w2 ⟨rfl,hg2⟩;have G2:=hZq hg2;have c2:=hg2.cell c1 (by simp);have P2:=hZq (P1.out.kept (FrT.of hg2));have N2:=hZq (N1.out.kept (FrT.of hg2));have D1:=hZq (show PsT w2 (some ⟨g,off+f*3,none⟩) 1 (1) ((x.ps.take (f+1)).drop f) from by have:=SlT.drop (SlT.take P2.out (Nat.le_refl _)) (i:=f) (by omega);exact (show SlT w2 106 3 (IpT w2) (some ⟨g,off+f*3,none⟩) 1 (1) _ from by simpa using this));clear hg2 LF c1
   go_wp2_with fail
   refine (equalFunc_any _ _ _ _ _ _ ((x.ps.take (f+1)).drop f) now w2 D1.out N2.out (by omega) (by omega) VA.out VN.out).mono ?_;rintro en w3 ⟨rfl,hg3⟩;rw [<- HSM.out];have G3:=hZq (gZq G2.out hg3);have c3:=hg3.cell c2 (by simp);have P3:=hZq (P2.out.kept (FrT.of hg3));have N3:=hZq (N2.out.kept (FrT.of hg3));clear hg3 c2 D1 P2 N2 VA VN;cases hs:sameT x.ps now key with
   | true =>
    clear HSM SU;go_wp2;exact ⟨rfl,rfl,gZq G1.out G3.out⟩
   | false =>
    have E1:Hid (PsT w3 (some ⟨g,off,none⟩) f (f+1) (x.ps.take f)):=SlT.take P3.out (by omega);have E3:Hid (PsT w3 (some ⟨g,off,none⟩) 0 (0) (x.ps.drop (f+1))):=SlT.end P3.out (by omega) _ _ (by omega) (fun e=>by cases e) (fun x hx=>by cases hx;exact ⟨_,_,rfl⟩);have CT:=hZq (cat3_tp IpT ip_keptN _ _ _ _ _ _ _ _ _ _ _ _ E1.out N3.out E3.out (by omega));clear HSM;have v1:(0:Int)<=(f:Int):=by omega
    have v2:(f:Int)<=((f+1:Nat):Int):=by omega
    have v3:¬ (((f+1:Nat):Int)<(f:Int)):=by omega
    have v8:(f:Int)<=(f:Int)+1:=by omega
    have v9:(0:Int)<=(f:Int)+1:=by omega
    have v4:((f+1:Nat):Int)<=((f+1:Nat):Int):=by omega
    have v5:((f+1:Nat):Int)<=((f+1:Nat):Int):=by omega
    have v6:(0:Int)<=((f+1:Nat):Int):=by omega
    have v7:(f:Int)<=((f+1:Nat):Int):=by omega
    have hbn:¬ b=w.heap.size:=by omega
    have hbn2:¬ w.heap.size=b:=by omega
    skip
    go_upto_region 7 with fail
    go_region_held3 (fun w'=>w'.cell? ⟨b,1,none⟩=some (.slice (some ⟨g,off,none⟩) (f+1) (f+1))) (first | exact c3 | exact c5 | exact c6 | go_keep) (first
     | (go_at_call 105;(with_reducible refine CT.out.mono ?_);rintro en w5 ⟨⟨a5,n5,cc5,rfl,hp5⟩,hg5⟩;have c5:=hg5.cell c3 (by simp);have hq5:PsT w5 a5 n5 cc5 (x.ps.take f++(now++x.ps.drop (f+1))):=hp5)
     | (go_at_call 104;(with_reducible refine (SU.out _ _ _ _ hq5).mono ?_);rintro en w6 ⟨⟨a6,m6,cc6,sa6,sm6,sc6,rfl,hr6⟩,hg6⟩;have c6:=hg6.cell c5 (by simp);obtain ⟨⟨x,cx⟩,⟨y,cy⟩,z1,z2⟩:=(B1.out.keptN (gZq G3.out (gZq hg5 hg6))).cells))
    all_goals go_wp2
    all_goals
     obtain ⟨r1,r2,r3⟩:=ret_row (fn:=Tryz.f75) (p:=6) rfl (B1.out.keptN (gZq G3.out (gZq hg5 hg6))) hr6 (gZq G1.out (gZq G3.out (gZq hg5 hg6)));refine ret_endC r1 r2 r3 ?_ ?_ <;> rfl
  ·have u1:(f:Int)+1<=(m:Int):=by omega
   have u2:(f:Int)+1<=(c:Int):=by omega
   have u3:(0:Int)<=(f:Int)+1:=by omega
   go_enter Tryz.func75,Tryz.ntmps75
   go_wp2_with fail
   refine LF.out.mono ?_;rintro en w2 ⟨rfl,hg2⟩;have G2:=hZq hg2;have c2:=hg2.cell c1 (by simp);have P2:=hZq (P1.out.kept (FrT.of hg2));have N2:=hZq (N1.out.kept (FrT.of hg2));have D1:=hZq (show PsT w2 (some ⟨g,off+f*3,none⟩) 1 (c - f) ((x.ps.take (f+1)).drop f) from by have:=SlT.drop (SlT.take P2.out (i:=f+1) (by omega)) (i:=f) (by omega);exact (show SlT w2 106 3 (IpT w2) (some ⟨g,off+f*3,none⟩) 1 (c - f) _ from by simpa using this));clear hg2 LF c1
   go_wp2_with fail
   refine (equalFunc_any _ _ _ _ _ _ ((x.ps.take (f+1)).drop f) now w2 D1.out N2.out (by omega) (by omega) VA.out VN.out).mono ?_;rintro en w3 ⟨rfl,hg3⟩;rw [<- HSM.out];have G3:=hZq (gZq G2.out hg3);have c3:=hg3.cell c2 (by simp);have P3:=hZq (P2.out.kept (FrT.of hg3));have N3:=hZq (N2.out.kept (FrT.of hg3));clear hg3 c2 D1 P2 N2 VA VN;cases hs:sameT x.ps now key with
   | true =>
    clear HSM SU;go_wp2;exact ⟨rfl,rfl,gZq G1.out G3.out⟩
   | false =>
    have E1:Hid (PsT w3 (some ⟨g,off,none⟩) f (c) (x.ps.take f)):=SlT.take P3.out (by omega);have E3:Hid (PsT w3 (some ⟨g,off+(f+1)*3,none⟩) (m - (f+1)) (c - (f+1)) (x.ps.drop (f+1))):=SlT.drop P3.out (by omega);have CT:=hZq (cat3_tp IpT ip_keptN _ _ _ _ _ _ _ _ _ _ _ _ E1.out N3.out E3.out (by omega));clear HSM;have v1:(0:Int)<=(f:Int):=by omega
    have v2:(f:Int)<=((c:Nat):Int):=by omega
    have v3:¬ (((c:Nat):Int)<(f:Int)):=by omega
    have v8:(f:Int)<=(f:Int)+1:=by omega
    have v9:(0:Int)<=(f:Int)+1:=by omega
    have v4:((f+1:Nat):Int)<=((m:Nat):Int):=by omega
    have v5:((f+1:Nat):Int)<=((c:Nat):Int):=by omega
    have v6:(0:Int)<=((f+1:Nat):Int):=by omega
    have v7:(f:Int)<=((m:Nat):Int):=by omega
    have hbn:¬ b=w.heap.size:=by omega
    have hbn2:¬ w.heap.size=b:=by omega
    skip
    go_upto_region 7 with fail
    go_region_held3 (fun w'=>w'.cell? ⟨b,1,none⟩=some (.slice (some ⟨g,off,none⟩) (m) (c))) (first | exact c3 | exact c5 | exact c6 | go_keep) (first
     | (go_at_call 105;(with_reducible refine CT.out.mono ?_);rintro en w5 ⟨⟨a5,n5,cc5,rfl,hp5⟩,hg5⟩;have c5:=hg5.cell c3 (by simp);have hq5:PsT w5 a5 n5 cc5 (x.ps.take f++(now++x.ps.drop (f+1))):=hp5)
     | (go_at_call 104;(with_reducible refine (SU.out _ _ _ _ hq5).mono ?_);rintro en w6 ⟨⟨a6,m6,cc6,sa6,sm6,sc6,rfl,hr6⟩,hg6⟩;have c6:=hg6.cell c5 (by simp);obtain ⟨⟨x,cx⟩,⟨y,cy⟩,z1,z2⟩:=(B1.out.keptN (gZq G3.out (gZq hg5 hg6))).cells))
    all_goals go_wp2
    all_goals
     obtain ⟨r1,r2,r3⟩:=ret_row (fn:=Tryz.f75) (p:=6) rfl (B1.out.keptN (gZq G3.out (gZq hg5 hg6))) hr6 (gZq G1.out (gZq G3.out (gZq hg5 hg6)));refine ret_endC r1 r2 r3 ?_ ?_ <;> rfl
 ·have ht2:=ht.symm
  subst ht2
  by_cases hct:f=c
  ·subst hct
   have hm:f=m:=by omega
   subst hm;go_enter Tryz.func75,Tryz.ntmps75
   go_wp2_with fail
   refine LF.out.mono ?_;rintro en w2 ⟨rfl,hg2⟩;have G2:=hZq hg2;have c2:=hg2.cell c1 (by simp);have P2:=hZq (P1.out.kept (FrT.of hg2));have N2:=hZq (N1.out.kept (FrT.of hg2));have D1:=hZq (show PsT w2 (some ⟨g,off,none⟩) 0 (0) ((x.ps.take (f)).drop f) from by have:=SlT.end (SlT.take P2.out (Nat.le_refl _)) (Nat.le_refl _) (some ⟨g,off,none⟩) 0 (by omega) (fun e=>by cases e) (fun x hx=>by cases hx;exact ⟨_,_,rfl⟩);exact this);clear hg2 LF c1
   go_wp2_with fail
   refine (equalFunc_any _ _ _ _ _ _ ((x.ps.take (f)).drop f) now w2 D1.out N2.out (by omega) (by omega) VA.out VN.out).mono ?_;rintro en w3 ⟨rfl,hg3⟩;rw [<- HSM.out];have G3:=hZq (gZq G2.out hg3);have c3:=hg3.cell c2 (by simp);have P3:=hZq (P2.out.kept (FrT.of hg3));have N3:=hZq (N2.out.kept (FrT.of hg3));clear hg3 c2 D1 P2 N2 VA VN;cases hs:sameT x.ps now key with
   | true =>
    clear HSM SU;go_wp2;exact ⟨rfl,rfl,gZq G1.out G3.out⟩
   | false =>
    have E1:Hid (PsT w3 (some ⟨g,off,none⟩) f (f) (x.ps.take f)):=SlT.take P3.out (by omega);have E3:Hid (PsT w3 (some ⟨g,off,none⟩) 0 (0) (x.ps.drop (f))):=SlT.end P3.out (by omega) _ _ (by omega) (fun e=>by cases e) (fun x hx=>by cases hx;exact ⟨_,_,rfl⟩);have CT:=hZq (cat3_tp IpT ip_keptN _ _ _ _ _ _ _ _ _ _ _ _ E1.out N3.out E3.out (by omega));clear HSM;have v1:(0:Int)<=(f:Int):=by omega
    have v2:(f:Int)<=((f:Nat):Int):=by omega
    have v3:¬ (((f:Nat):Int)<(f:Int)):=by omega
    have v8:(f:Int)<=(f:Int)+1:=by omega
    have v9:(0:Int)<=(f:Int)+1:=by omega
    have v4:((f:Nat):Int)<=((f:Nat):Int):=by omega
    have v5:((f:Nat):Int)<=((f:Nat):Int):=by omega
    have v6:(0:Int)<=((f:Nat):Int):=by omega
    have v7:(f:Int)<=((f:Nat):Int):=by omega
    have hbn:¬ b=w.heap.size:=by omega
    have hbn2:¬ w.heap.size=b:=by omega
    skip
    go_upto_region 7 with fail
    go_region_held3 (fun w'=>w'.cell? ⟨b,1,none⟩=some (.slice (some ⟨g,off,none⟩) (f) (f))) (first | exact c3 | exact c5 | exact c6 | go_keep) (first
     | (go_at_call 105;(with_reducible refine CT.out.mono ?_);rintro en w5 ⟨⟨a5,n5,cc5,rfl,hp5⟩,hg5⟩;have c5:=hg5.cell c3 (by simp);have hq5:PsT w5 a5 n5 cc5 (x.ps.take f++(now++x.ps.drop (f))):=hp5)
     | (go_at_call 104;(with_reducible refine (SU.out _ _ _ _ hq5).mono ?_);rintro en w6 ⟨⟨a6,m6,cc6,sa6,sm6,sc6,rfl,hr6⟩,hg6⟩;have c6:=hg6.cell c5 (by simp);obtain ⟨⟨x,cx⟩,⟨y,cy⟩,z1,z2⟩:=(B1.out.keptN (gZq G3.out (gZq hg5 hg6))).cells))
    all_goals go_wp2
    all_goals
     obtain ⟨r1,r2,r3⟩:=ret_row (fn:=Tryz.f75) (p:=6) rfl (B1.out.keptN (gZq G3.out (gZq hg5 hg6))) hr6 (gZq G1.out (gZq G3.out (gZq hg5 hg6)));refine ret_endC r1 r2 r3 ?_ ?_ <;> rfl
  ·have hcf:¬ c=f:=by omega
   go_enter Tryz.func75,Tryz.ntmps75
   go_wp2_with fail
   refine LF.out.mono ?_;rintro en w2 ⟨rfl,hg2⟩;have G2:=hZq hg2;have c2:=hg2.cell c1 (by simp);have P2:=hZq (P1.out.kept (FrT.of hg2));have N2:=hZq (N1.out.kept (FrT.of hg2));have D1:=hZq (show PsT w2 (some ⟨g,off+f*3,none⟩) 0 (c - f) ((x.ps.take (f)).drop f) from by have:=SlT.drop (SlT.take P2.out (i:=f) (by omega)) (i:=f) (by omega);exact (show SlT w2 106 3 (IpT w2) (some ⟨g,off+f*3,none⟩) 0 (c - f) _ from by simpa using this));clear hg2 LF c1
   go_wp2_with fail
   refine (equalFunc_any _ _ _ _ _ _ ((x.ps.take (f)).drop f) now w2 D1.out N2.out (by omega) (by omega) VA.out VN.out).mono ?_;rintro en w3 ⟨rfl,hg3⟩;rw [<- HSM.out];have G3:=hZq (gZq G2.out hg3);have c3:=hg3.cell c2 (by simp);have P3:=hZq (P2.out.kept (FrT.of hg3));have N3:=hZq (N2.out.kept (FrT.of hg3));clear hg3 c2 D1 P2 N2 VA VN;cases hs:sameT x.ps now key with
   | true =>
    clear HSM SU;go_wp2;exact ⟨rfl,rfl,gZq G1.out G3.out⟩
   | false =>
    have E1:Hid (PsT w3 (some ⟨g,off,none⟩) f (c) (x.ps.take f)):=SlT.take P3.out (by omega);have E3:Hid (PsT w3 (some ⟨g,off+f*3,none⟩) (m - f) (c - f) (x.ps.drop (f))):=SlT.drop P3.out (by omega);have CT:=hZq (cat3_tp IpT ip_keptN _ _ _ _ _ _ _ _ _ _ _ _ E1.out N3.out E3.out (by omega));clear HSM;have v1:(0:Int)<=(f:Int):=by omega
    have v2:(f:Int)<=((c:Nat):Int):=by omega
    have v3:¬ (((c:Nat):Int)<(f:Int)):=by omega
    have v8:(f:Int)<=(f:Int)+1:=by omega
    have v9:(0:Int)<=(f:Int)+1:=by omega
    have v4:((f:Nat):Int)<=((m:Nat):Int):=by omega
    have v5:((f:Nat):Int)<=((c:Nat):Int):=by omega
    have v6:(0:Int)<=((f:Nat):Int):=by omega
    have v7:(f:Int)<=((m:Nat):Int):=by omega
    have hbn:¬ b=w.heap.size:=by omega
    have hbn2:¬ w.heap.size=b:=by omega
    skip
    go_upto_region 7 with fail
    go_region_held3 (fun w'=>w'.cell? ⟨b,1,none⟩=some (.slice (some ⟨g,off,none⟩) (m) (c))) (first | exact c3 | exact c5 | exact c6 | go_keep) (first
     | (go_at_call 105;(with_reducible refine CT.out.mono ?_);rintro en w5 ⟨⟨a5,n5,cc5,rfl,hp5⟩,hg5⟩;have c5:=hg5.cell c3 (by simp);have hq5:PsT w5 a5 n5 cc5 (x.ps.take f++(now++x.ps.drop (f))):=hp5)
     | (go_at_call 104;(with_reducible refine (SU.out _ _ _ _ hq5).mono ?_);rintro en w6 ⟨⟨a6,m6,cc6,sa6,sm6,sc6,rfl,hr6⟩,hg6⟩;have c6:=hg6.cell c5 (by simp);obtain ⟨⟨x,cx⟩,⟨y,cy⟩,z1,z2⟩:=(B1.out.keptN (gZq G3.out (gZq hg5 hg6))).cells))
    all_goals go_wp2
    all_goals
     obtain ⟨r1,r2,r3⟩:=ret_row (fn:=Tryz.f75) (p:=6) rfl (B1.out.keptN (gZq G3.out (gZq hg5 hg6))) hr6 (gZq G1.out (gZq G3.out (gZq hg5 hg6)));refine ret_endC r1 r2 r3 ?_ ?_ <;> rfl
theorem assertL (v:Value)(w:World):(Instr.typeAssert (.iface 133 v) 116 133 false).run Tryz.prog w=.ok v w:=by kernel_rfl
theorem assertB (v:Value)(w:World):(Instr.typeAssert (.iface 161 v) 116 161 false).run Tryz.prog w=.ok v w:=by kernel_rfl
theorem assertBy (v:Value)(w:World):(Instr.typeAssert (.iface 161 v) 116 161 true).run Tryz.prog w=.ok (.tuple #[v,.bool true]) w:=by kernel_rfl
theorem assertBn (v:Value)(w:World):(Instr.typeAssert (.iface 133 v) 116 161 true).run Tryz.prog w=.ok (.tuple #[.pointer none,.bool false]) w:=by kernel_rfl
theorem its_keys {L:List PrT}(h:∀ p∈L,Vp p):∀ x∈its L,x.key.length<=140737488351232:=by
 intro x hx;obtain ⟨p,hp,rfl⟩:=List.mem_map.1 hx;have:=(h p hp).k2
 show p.key.length<=_
 omega
theorem ljoins_any (b:Nat)(v:Value)(x y:LfT)(so:Option Addr)(sn sc:Nat)(s:List Int)(w:World)(hx:NodeT 0 w (.iface 133 (.pointer (some ⟨b,0,none⟩))) x)(hy:NodeT 0 w v y)(hL:LokT x.ps)(hM:LokT y.ps) :
  Calls Tryz.prog 171 #[.pointer (some ⟨b,0,none⟩),.slice so sn sc,v] w fun en w'=>en=.returned (.bool (joinsT 0 x s y))/\w.grownBy w' none:=by
 obtain ⟨b',a,m,c,e,hb,hps⟩:=hx;simp only [Value.iface.injEq,Value.pointer.injEq,Option.some.injEq,Addr.mk.injEq,true_and,and_true] at e;subst e;obtain ⟨d,a2,m2,c2,rfl,hd,hqs⟩:=hy;have hl1:=hps.len;have hl2:=hqs.len;have hle:=hL.len;have hle2:=hM.len;have k1:=cell_heap (i:=1) hb rfl;have k2:=cell_heap (i:=1) hd rfl;have g0:w.grownBy w.drew none:=(Qt.refl w).drew.grown none;have G0:=hZq g0;have IA:=hZq (fun (W:World) (h:w.grownBy W none)=>itemsOf_any a m c x.ps W (hps.kept (FrT.of h)) (by omega));have IBB:=hZq (fun (W:World) (h:w.grownBy W none)=>itemsOf_any a2 m2 c2 y.ps W (hqs.kept (FrT.of h)) (by omega))
 have HJ:Hid (joinsT 0 x s y=decide (size (its x.ps++its y.ps)<=3000)):=by
  show decide (size (its (x.ps++y.ps))<=3000)=_
  rw [its_app]
 have KX:Hid (∀ z∈its x.ps++its y.ps,z.key.length<=140737488351232):=by
  intro z hz;rcases List.mem_append.1 hz with h | h
  ·exact its_keys hL.v z h
  ·exact its_keys hM.v z h
 have JL:=hZq (fun (W:World) (g h:Nat) (h1:SlT W 122 4 (IiT W) (some ⟨g,0,none⟩) m m (its x.ps)) (h2:SlT W 122 4 (IiT W) (some ⟨h,0,none⟩) m2 m2 (its y.ps))=>joinLeaves_any (some ⟨g,0,none⟩) m m (its x.ps) (some ⟨h,0,none⟩) m2 m2 (its y.ps) W h1.il (by rw [its_len,hl1]) (fun e=>by cases e) h2.il (by rw [its_len,hl2]) (fun e=>by cases e) (by omega) KX.out);rw [HJ.out];have hta:=assertL;clear hb hd hps hqs g0;go_enter Tryz.func171,Tryz.ntmps171
 go_wp2_with fail
 go_region_held3 (fun w'=>w'.cell? ⟨b,1,none⟩=some (.slice a m c)/\w'.cell? ⟨d,1,none⟩=some (.slice a2 m2 c2)) (first | exact ⟨k1,k2⟩ | exact S1 | exact S2 | exact S3 | go_keep) (first
  | (go_at_call 176;(with_reducible refine (JL.out _ _ _ T1 T2).mono ?_);rintro en w6 ⟨rfl,hg6⟩;have S3:=And.intro (hg6.cell S2.1 (by simp)) (hg6.cell S2.2 (by simp)))
  | (go_at_call 110;(with_reducible refine (IA.out _ G0.out).mono ?_);rintro en w4 ⟨⟨g4,rfl,h4⟩,hg4⟩;have GA:=gZq G0.out hg4;have S1:=And.intro (GA.cell k1 (by simp)) (GA.cell k2 (by simp)))
  | (go_at_call 110;(with_reducible refine (IBB.out _ GA).mono ?_);rintro en w5 ⟨⟨g5,rfl,T2⟩,hg5⟩;have T1:=h4.mono (by decide) (FrT.of hg5) (fun _ _ h=>IiT.kept h (FrT.of hg5));have GB:=gZq GA hg5;have S2:=And.intro (GB.cell k1 (by simp)) (GB.cell k2 (by simp)))
  | (go_at_call 110;(with_reducible refine (IBB.out _ G0.out).mono ?_);rintro en w4 ⟨⟨g5,rfl,h5⟩,hg4⟩;have GA:=gZq G0.out hg4;have S1:=And.intro (GA.cell k1 (by simp)) (GA.cell k2 (by simp)))
  | (go_at_call 110;(with_reducible refine (IA.out _ GA).mono ?_);rintro en w5 ⟨⟨g4,rfl,T1⟩,hg5⟩;have T2:=h5.mono (by decide) (FrT.of hg5) (fun _ _ h=>IiT.kept h (FrT.of hg5));have GB:=gZq GA hg5;have S2:=And.intro (GB.cell k1 (by simp)) (GB.cell k2 (by simp))))
 all_goals go_wp2
 all_goals (go_ret;exact ⟨rfl,gZq GB hg6⟩)
def tyN:Nat->Nat
 | 0=>133
 | _+1=>161
theorem NodeT.at {n:Nat}{w:World}{u:Value}{x:NdT n}(h:NodeT n w u x):∃ b,u=.iface (tyN n) (.pointer (some ⟨b,0,none⟩)):=by
 cases n with
 | zero =>
  obtain ⟨b,a,m,c,h1,_⟩:=h;exact ⟨b,h1⟩
 | succ n =>
  obtain ⟨b,a,m,c,sa,sm,sc,h1,_⟩:=h;exact ⟨b,h1⟩
theorem mL_joins (v:Value)(w:World):(method 330 133 v "coppice/tree.joins").run Tryz.prog w=.ok (171,v) w:=by kernel_rfl
theorem mB_joins (v:Value)(w:World):(method 330 161 v "coppice/tree.joins").run Tryz.prog w=.ok (184,v) w:=by kernel_rfl
theorem mL_changed (v:Value)(w:World):(method 330 133 v "coppice/tree.changed").run Tryz.prog w=.ok (75,v) w:=by kernel_rfl
theorem mL_level (v:Value)(w:World):(method 330 133 v "coppice/tree.level").run Tryz.prog w=.ok (172,v) w:=by kernel_rfl
theorem mB_level (v:Value)(w:World):(method 330 161 v "coppice/tree.level").run Tryz.prog w=.ok (185,v) w:=by kernel_rfl
theorem mL_tell (v:Value)(w:World):(method 330 133 v "coppice/tree.tell").run Tryz.prog w=.ok (175,v) w:=by kernel_rfl
theorem mB_tell (v:Value)(w:World):(method 330 161 v "coppice/tree.tell").run Tryz.prog w=.ok (188,v) w:=by kernel_rfl
theorem grown_al {w W:World}(h:w.grownBy W none)(o:Obj):w.grownBy (W.alloc o) none:=gZq h (World.grownBy_alloc W o none)
theorem grown_dw {w W:World}(h:w.grownBy W none):w.grownBy W.drew none:=gZq h ((Qt.refl W).drew.grown none)
theorem keep1 {w W:World}{a:Addr}{v:Value}(h:w.cell? a=some v)(hg:w.grownBy W none):W.cell? a=some v:=hg.cell h (by simp)
theorem heap_at0 (w:World)(cs:Array Value)(t:TypeId):(w.alloc (.cells cs t)).heap[w.heap.size]?=some (.cells cs t (0,0)):=heap_alloc_new w _
theorem heap_at1 (w:World)(o:Obj)(cs:Array Value)(t:TypeId):((w.alloc o).alloc (.cells cs t)).heap[w.heap.size+1]?=some (.cells cs t (0,0)):=by
 have:=heap_alloc_new (w.alloc o) (.cells cs t);simpa using this
theorem NodeT.atL {w:World}{u:Value}{x:NdT 0}(h:NodeT 0 w u x):∃ b,u=.iface 133 (.pointer (some ⟨b,0,none⟩)):=h.at
theorem NodeT.atB {n:Nat}{w:World}{u:Value}{x:NdT (n+1)}(h:NodeT (n+1) w u x):∃ b,u=.iface 161 (.pointer (some ⟨b,0,none⟩)):=h.at
def fJoined:Nat->Nat
 | 0=>170
 | _+1=>183
def fJoins:Nat->Nat
 | 0=>171
 | _+1=>184
theorem info_pair10:(Tryz.prog.info? 64).map (fun i=>(i.zero,i.size,i.bytes))=some (some (.agg #[.slice none 0 0,.slice none 0 0]),2,48):=by kernel_rfl
theorem info_ints10:(Tryz.prog.info? 30).map (fun i=>(i.zero,i.size,i.bytes))=some (some (.slice none 0 0),1,24):=by kernel_rfl
theorem info_anode10:(Tryz.prog.info? 61).map (fun i=>(i.zero,i.size,i.bytes))=some (some (.agg #[.int .i64 0,.int .i64 0,.slice none 0 0,.slice none 0 0,.slice none 0 0,.slice none 0 0]),6,112):=by kernel_rfl
theorem al3_0 (w:World)(X Y Z:Obj):(((w.alloc X).alloc Y).alloc Z).drew.heap[w.heap.size]?=some X:=by
 show (((w.alloc X).alloc Y).alloc Z).heap[w.heap.size]?=some X
 rw [Below.heap_alloc _ _ _ (by simp;omega),Below.heap_alloc _ _ _ (by simp),heap_alloc_new]
theorem al3_1 (w:World)(X Y Z:Obj):(((w.alloc X).alloc Y).alloc Z).drew.heap[w.heap.size+1]?=some Y:=by
 show (((w.alloc X).alloc Y).alloc Z).heap[w.heap.size+1]?=some Y
 rw [Below.heap_alloc _ _ _ (by simp)];have:=heap_alloc_new (w.alloc X) Y;rw [World.size_alloc] at this;exact this
theorem al3_2 (w:World)(X Y Z:Obj):(((w.alloc X).alloc Y).alloc Z).drew.heap[w.heap.size+1+1]?=some Z:=by
 show (((w.alloc X).alloc Y).alloc Z).heap[w.heap.size+1+1]?=some Z
 have:=heap_alloc_new ((w.alloc X).alloc Y) Z;rw [World.size_alloc,World.size_alloc] at this;exact this
theorem al3_g (w:World)(X Y Z:Obj):w.grownBy (((w.alloc X).alloc Y).alloc Z).drew none:=grown_dw (grown_al (grown_al (grown_al (World.grownBy.refl _ _) _) _) _)
def nbx (no:Int)(P C m:Nat):Array Value:=#[.int .i64 no,.int .i64 0,.slice (some ⟨P,0,none⟩) m m,.slice (some ⟨C,0,none⟩) m m,.slice none 0 0,.slice none 0 0]
structure TlB (w0 w:World)(N P C m:Nat)(no:Int):Prop where
 bx:w.heap[N]?=some (.cells (nbx no P C m) 61 (0,0))
 gr:w0.grownBy w none
 n0:w0.heap.size<=N
 p0:w0.heap.size<=P
 c0:w0.heap.size<=C
theorem FlT.of_heap {w:World}{g n k:Nat}{t:TypeId}{cs:Array Value}(h:w.heap[g]?=some (.cells cs t (0,0)))(hs:cs.size=n*k):FlT w g n k t []:=⟨⟨cs,h,hs,fun i e he=>by simp at he⟩,EwfT.nil _⟩
theorem FlT.tg {w:World}{g n k:Nat}{t:TypeId}{es:List (List Value)}(h:FlT w g n k t es):TgT w g t:=by
 obtain ⟨cur,h1,_⟩:=h.row;exact ⟨_,_,h1⟩
theorem FlT.other {w w':World}{g n k:Nat}{t:TypeId}{es:List (List Value)}{d:Nat}(h:FlT w g n k t es)(hg:w.grownBy w' (some d))(hd:d≠g):FlT w' g n k t es:=by
 obtain ⟨cur,h1,h2⟩:=h.row;exact ⟨⟨cur,(hg.block g (Array.getElem?_eq_some_iff.1 h1).1 (by simpa using Ne.symm hd)).trans h1,h2⟩,h.wf⟩
theorem tg_ne {w:World}{a b:Nat}{t u:TypeId}(h:TgT w a t)(k:TgT w b u)(hne:t≠u):a≠b:=by
 rintro rfl;obtain ⟨_,_,h1⟩:=h;obtain ⟨_,_,h2⟩:=k;rw [h1] at h2;simp only [Option.some.injEq,Obj.cells.injEq] at h2;exact hne h2.2.1
theorem TlB.other {w0 w w':World}{N P C m:Nat}{no:Int}{d:Nat}(h:TlB w0 w N P C m no)(hg:w.grownBy w' (some d))(hd:w0.heap.size<=d)(hN:d≠N):TlB w0 w' N P C m no :=
 ⟨(hg.block N (Array.getElem?_eq_some_iff.1 h.bx).1 (by simpa using Ne.symm hN)).trans h.bx,grown_new h.gr hg hd,h.n0,h.p0,h.c0⟩
theorem TlB.keptN {w0 w w':World}{N P C m:Nat}{no:Int}(h:TlB w0 w N P C m no)(hg:w.grownBy w' none):TlB w0 w' N P C m no :=
 ⟨heap_kept h.bx hg,gZq h.gr hg,h.n0,h.p0,h.c0⟩
theorem TlB.cell {w0 w:World}{N P C m:Nat}{no:Int}(h:TlB w0 w N P C m no)(i:Nat):w.cell? ⟨N,i,none⟩=(nbx no P C m)[i]?:=cell_of_row w N i _ _ _ h.bx
structure TlL (w0 w:World)(N P C m:Nat)(no:Int)(ps:List PrT)(kp kq:Nat)(es cs:List (List Value)):Prop where
 b:TlB w0 w N P C m no
 fp:FlT w P m 2 64 es
 el:es.length=kp
 pv:PvL w es (ps.take kp) w0.heap.size w.heap.size
 fc:FlT w C m 1 30 cs
 cl:cs.length=kq
 ic:ElyT (IcT w w0.heap.size) cs ((ps.take kq).map PrT.chain)
theorem PvL.wide {w:World}:∀ {es:List (List Value)} {ps:List PrT} {lo hi hi':Nat},PvL w es ps lo hi->hi<=hi'->PvL w es ps lo hi'
 | [],[],_,_,_,h,k=>Nat.le_trans h k
 | _::es,_::ps,lo,hi,_,h,k=>by
  obtain ⟨m,h1,h2,h3,h4⟩:=h;exact ⟨m,h1,by omega,h3,h4.wide k⟩
 | [],_::_,_,_,_,h,_=>h.elim
 | _::_,[],_,_,_,h,_=>h.elim
theorem TlL.keptN {w0 w w':World}{N P C m:Nat}{no:Int}{ps:List PrT}{kp kq:Nat}{es cs:List (List Value)}(h:TlL w0 w N P C m no ps kp kq es cs)(hg:w.grownBy w' none):TlL w0 w' N P C m no ps kp kq es cs :=
 ⟨h.b.keptN hg,h.fp.keptN hg,h.el,(h.pv.kept (FrT.of hg)).wide hg.size,h.fc.keptN hg,h.cl,h.ic.mono (fun _ _ q=>q.kept (FrT.of hg))⟩
theorem TlB.tN {w0 w:World}{N P C m:Nat}{no:Int}(h:TlB w0 w N P C m no):TgT w N 61:=⟨_,_,h.bx⟩
theorem EsT.other {w w':World}{t u:TypeId}{a:Option Addr}{n c k:Nat}{es:List (List Value)}{d:Nat}(h:EsT w t a n c k es)(hg:w.grownBy w' (some d))(hd:TgT w d u)(hne:t≠u):EsT w' t a n c k es :=
 ⟨h.len,h.cap,h.c2,h.nil,h.pl,h.sz,h.one,fun i e he=>by
  obtain ⟨b,off,h1,h2,h3⟩:=h.cell i e he
  have hb:w'.heap[b]?=w.heap[b]?:=by
   obtain ⟨cur,z,q⟩:=h2;exact hg.block b (Array.getElem?_eq_some_iff.1 q).1 (fun e=>tg_ne ⟨cur,z,q⟩ hd hne (Option.some.inj e))
  refine ⟨b,off,h1,?_,fun f v hv=>(World.cell?_of_block hb).trans (h3 f v hv)⟩;obtain ⟨cur,z,q⟩:=h2;exact ⟨cur,z,hb.trans q⟩⟩
theorem PvL.other {w w':World}{es:List (List Value)}{ps:List PrT}{lo hi d:Nat}{u:TypeId}(h:PvL w es ps lo hi)(hg:w.grownBy w' (some d))(hd:TgT w d u)(hne:5≠u):PvL w' es ps lo hi :=
 h.same fun g _ _ ht=>by
  have hl:g<w.heap.size:=by
   obtain ⟨_,_,q⟩:=ht;exact (Array.getElem?_eq_some_iff.1 q).1
  exact hg.block g hl (fun e=>tg_ne ht hd hne (Option.some.inj e))
theorem TlL.pair {w0 w w6:World}{N P C m:Nat}{no:Int}{ps:List PrT}{k:Nat}{es cs:List (List Value)}{kv vv:Value}{p:PrT}{q:Nat}(h:TlL w0 w N P C m no ps k k es cs)(hk:k<m)(hx:ps[k]?=some p)(hg:w.grownBy w6 none)
  (hkv:w6.ownsRow w.heap.size 5 1 kv p.key.length (p.key.map (Value.int .u8))) (hq:w.heap.size<=q) (hq6:q<=w6.heap.size) (hkq:∀ g,kv.ownBlock=some g->g<q) (hvv:w6.ownsRow q 5 1 vv p.val.length (p.val.map (Value.int .u8))) (h1:kv.oneCell'=true) (h2:vv.oneCell'=true) :
  TlL w0 (setL w6 P (k*2) [kv,vv]) N P C m no ps (k+1) k (es++[[kv,vv]]) cs/\w6.grownBy (setL w6 P (k*2) [kv,vv]) (some P):=by
 have h6:=h.keptN hg;have tP:=h6.fp.tg;have hs:=setL_grown (g:=P) [kv,vv] w6 (k*2);have hsz:(setL w6 P (k*2) [kv,vv]).heap.size=w6.heap.size:=by simp [setL]
 have hel:=h.el;have hnx:=h6.fp.next (by omega) [kv,vv] rfl (by simp [h1,h2])
 rw [hel] at hnx
 have hpv:PvL w6 (es++[[kv,vv]]) (ps.take (k+1)) w0.heap.size w6.heap.size:=by
  rw [takeS hx];exact (h.pv.kept (FrT.of hg)).snoc hg.size ⟨kv,vv,q,rfl,hq,hq6,⟨hkv,hkq⟩,⟨hvv,fun g e=>(own_lt10 hvv e).2.1⟩⟩
 refine ⟨⟨h6.b.other hs h6.b.p0 (tg_ne tP h6.b.tN (by decide)),hnx,by simp [hel],?_,h6.fc.other hs (tg_ne tP h6.fc.tg (by decide)),h6.cl,h6.ic.mono (fun e c q=>?_)⟩,hs⟩
 ·rw [hsz]
  exact hpv.other hs tP (by decide)
 ·obtain ⟨a,n,c',q1,q2,q3⟩:=q
  exact ⟨a,n,c',q1,EsT.other q2 hs tP (by decide),q3⟩
theorem TlL.chain {w0 w w6:World}{N P C m:Nat}{no:Int}{ps:List PrT}{k:Nat}{es cs:List (List Value)}{ca:Option Addr}{cn cc:Nat}{p:PrT}(h:TlL w0 w N P C m no ps (k+1) k es cs)(hk:k<m)(hx:ps[k]?=some p)(hg:w.grownBy w6 none)(hc:NmT w6 ca cn cc p.chain)(hcl9:∀ ad,ca=some ad->w0.heap.size<=ad.block) :
  TlL w0 (setL w6 C (k*1) [.slice ca cn cc]) N P C m no ps (k+1) (k+1) es (cs++[[.slice ca cn cc]])/\w6.grownBy (setL w6 C (k*1) [.slice ca cn cc]) (some C):=by
 have h6:=h.keptN hg;have tC:=h6.fc.tg;have hs:=setL_grown (g:=C) [.slice ca cn cc] w6 (k*1);have hsz:(setL w6 C (k*1) [.slice ca cn cc]).heap.size=w6.heap.size:=by simp [setL]
 have hcl:=h.cl;have hnx:=h6.fc.next (by omega) [.slice ca cn cc] rfl (by simp [Value.oneCell'])
 rw [hcl] at hnx;refine ⟨⟨h6.b.other hs h6.b.c0 (tg_ne tC h6.b.tN (by decide)),h6.fp.other hs (tg_ne tC h6.fp.tg (by decide)),h6.el,?_,hnx,by simp [hcl],?_⟩,hs⟩
 ·rw [hsz]
  exact h6.pv.other hs tC (by decide)
 ·rw [takeS hx,List.map_append]
  refine (h6.ic.mono (fun e c q=>?_)).app (ElyT.one ⟨ca,cn,cc,rfl,EsT.other hc hs tC (by decide),fun ad e _=>hcl9 ad e⟩);obtain ⟨a,n,c',q1,q2,q3⟩:=q;exact ⟨a,n,c',q1,EsT.other q2 hs tC (by decide),q3⟩
theorem cell_set1 {W:World}{P i M o:Nat}{v x:Value}(h:W.cell? ⟨M,o,none⟩=some x)(hn:M≠P):(W.setCell ⟨P,i,none⟩ v).cell? ⟨M,o,none⟩=some x:=(grown_cell W P i v).cell h (by simpa using hn)
theorem cell_set2 {W:World}{P i j M o:Nat}{v u x:Value}(h:W.cell? ⟨M,o,none⟩=some x)(hn:M≠P):((W.setCell ⟨P,i,none⟩ v).setCell ⟨P,j,none⟩ u).cell? ⟨M,o,none⟩=some x:=cell_set1 (cell_set1 h hn) hn
theorem ltell1 {y1 y2 y3 y4 y5 y6 y7 y8 y9 y10 y11 y12 y13 y14 y15 y16 y17 y18 y19 y20 y21 y22 y23 y24 y25 y26 y27 y28 y29 y30 y31 y32 y33 y34 y35 y36 y37 y38 y39 y40 y41 y42 y43 y44 y45 y46 y47 y48 y49 y50 y51 y52 y53 y54 y55 y56 y57:Value}{b m c:Nat}{a:Option Addr}{no:Int}{ps:List PrT}{wc:World}(k0:wc.cell? ⟨b,0,none⟩=some (.int .i64 no))(k1:wc.cell? ⟨b,1,none⟩=some (.slice a m c))(hm:m<=100000){J:Act->World->Prop}{Q':Exit->Act->World->Prop}
  (hK:∀ (v5 v8 v9 v10 v11 v12 v13 v14 v15 v16 v17 v18 v19 v20 v21 v22 v23 v24:Value) (wx:World),(∃ N P C,v5=.pointer (some ⟨N,0,none⟩)/\TlL wc wx N P C m no ps 0 0 [] [])->J ⟨#[.pointer (some ⟨b,0,none⟩),y1,y2,y3,y4,v5,y6,y7,v8,v9,v10,v11,v12,v13,v14,v15,v16,v17,v18,v19,v20,v21,v22,v23,v24,y25,y26,y27,y28,y29,y30,y31,y32,y33,y34,y35,y36,y37,y38,y39,y40,y41,y42,y43,y44,y45,y46,y47,y48,y49,y50,y51,y52,y53,y54,y55,y56,y57],[]⟩ wx) :
  Code.wp Tryz.prog (Go.Code.region 1 #[⟨some 8,.move (.tmp 0),133, "leaf.go:101",#[],none⟩,⟨some 9,.nilCheck (.tmp 8),0, "leaf.go:101",#[⟨0,.data⟩],none⟩,⟨some 10,.fieldAddr 135 (.tmp 9) 0,0, "leaf.go:101",#[⟨1,.data⟩],none⟩,⟨some 11,.load 3 (.tmp 10),3, "leaf.go:101",#[⟨2,.data⟩],none⟩,⟨some 12,.move (.tmp 0),133, "leaf.go:101",#[],none⟩,⟨some 13,.nilCheck (.tmp 12),0, "leaf.go:101",#[⟨4,.data⟩],none⟩,⟨some 14,.fieldAddr 135 (.tmp 13) 1,0, "leaf.go:101",#[⟨5,.data⟩],none⟩,⟨some 15,.load 107 (.tmp 14),107, "leaf.go:101",#[⟨6,.data⟩],none⟩,⟨some 16,.call { callee:=.builtin Go.Builtin.len,args:=#[.tmp 15],argTypes:=#[107] },3, "leaf.go:101",#[⟨7,.data⟩],none⟩,⟨some 17,.makeSlice 57 (.tmp 16) (.tmp 16),57, "leaf.go:101",#[⟨8,.data⟩,⟨8,.data⟩],none⟩,⟨some 18,.move (.tmp 0),133, "leaf.go:101",#[],none⟩,⟨some 19,.nilCheck (.tmp 18),0, "leaf.go:101",#[⟨10,.data⟩],none⟩,⟨some 20,.fieldAddr 135 (.tmp 19) 1,0, "leaf.go:101",#[⟨11,.data⟩],none⟩,⟨some 21,.load 107 (.tmp 20),107, "leaf.go:101",#[⟨12,.data⟩],none⟩,⟨some 22,.call { callee:=.builtin Go.Builtin.len,args:=#[.tmp 21],argTypes:=#[107] },3, "leaf.go:101",#[⟨13,.data⟩],none⟩,⟨some 23,.makeSlice 58 (.tmp 22) (.tmp 22),58, "leaf.go:101",#[⟨14,.data⟩,⟨14,.data⟩],none⟩,⟨some 24,.build 61 #[(0,.tmp 11),(2,.tmp 17),(3,.tmp 23)],61, "leaf.go:101",#[⟨3,.data⟩,⟨9,.data⟩,⟨15,.data⟩],none⟩,⟨some 5,.alloc 61,0, "leaf.go:101",#[],none⟩,⟨none,.store 61 (.tmp 5) (.tmp 24),0, "leaf.go:101",#[⟨17,.data⟩,⟨16,.data⟩,⟨0,.phase⟩,⟨1,.phase⟩,⟨2,.phase⟩,⟨3,.phase⟩,⟨4,.phase⟩,⟨5,.phase⟩,⟨6,.phase⟩,⟨7,.phase⟩,⟨8,.phase⟩,⟨9,.phase⟩,⟨10,.phase⟩,⟨11,.phase⟩,⟨12,.phase⟩,⟨13,.phase⟩,⟨14,.phase⟩,⟨15,.phase⟩,⟨16,.phase⟩,⟨17,.phase⟩],none⟩] true) (Exit.then J Q') ⟨#[.pointer (some ⟨b,0,none⟩),y1,y2,y3,y4,y5,y6,y7,y8,y9,y10,y11,y12,y13,y14,y15,y16,y17,y18,y19,y20,y21,y22,y23,y24,y25,y26,y27,y28,y29,y30,y31,y32,y33,y34,y35,y36,y37,y38,y39,y40,y41,y42,y43,y44,y45,y46,y47,y48,y49,y50,y51,y52,y53,y54,y55,y56,y57],[]⟩ wc:=by
 have HK:=hZq hK;clear hK
 dsimp only
 obtain ⟨ip,hip,hp0,hp1,hp2⟩:=info_parts info_pair10;obtain ⟨ic,hic,hc0,hc1,hc2⟩:=info_parts info_ints10;obtain ⟨Mp,hMp⟩:∃ Mp,Mp=madeCells (Value.agg #[.slice none 0 0,.slice none 0 0]).cells (m*2):=⟨_,rfl⟩;obtain ⟨Mc,hMc⟩:∃ Mc,Mc=madeCells (Value.slice none 0 0).cells (m*1):=⟨_,rfl⟩
 have mk1:∀ W:World,(Instr.makeSlice 57 (.int .i64 (m:Int)) (.int .i64 (m:Int))).run Tryz.prog W=.ok (.slice (some ⟨W.heap.size,0,none⟩) m m) (W.alloc (.cells Mp 64)):=fun W=>by
  rw [run_make (P:=Tryz.prog) W 57 64 ip _ Tryz.underlying57 hip hp0 .i64 .i64 m m (by omega) (Int.le_refl _) (by rw [hp2];omega) (by omega),hMp,hp1]
  rfl
 have mk2:∀ W:World,(Instr.makeSlice 58 (.int .i64 (m:Int)) (.int .i64 (m:Int))).run Tryz.prog W=.ok (.slice (some ⟨W.heap.size,0,none⟩) m m) (W.alloc (.cells Mc 30)):=fun W=>by
  rw [run_make (P:=Tryz.prog) W 58 30 ic _ Tryz.underlying58 hic hc0 .i64 .i64 m m (by omega) (Int.le_refl _) (by rw [hc2];omega) (by omega),hMc,hc1]
  rfl
 have HMp:Hid (Mp.size=m*2):=by show _=_;rw [hMp];exact size_madeCells _ _
 have HMc:Hid (Mc.size=m*1):=by show _=_;rw [hMc];exact size_madeCells _ _
 clear hMp hMc
 have fin:Hid (∀ (wx:World) (P C N':Nat),wx.heap[N']?=some (.cells (nbx no P C m) 61 (0,0))->wx.heap[P]?=some (.cells Mp 64 (0,0))->wx.heap[C]?=some (.cells Mc 30 (0,0))->wc.grownBy wx none->wc.heap.size<=N'->wc.heap.size<=P->wc.heap.size<=C->TlL wc wx N' P C m no ps 0 0 [] []):=fun wx P C N' h1 h2 h3 hg a1 a2 a3 =>
  ⟨⟨h1,hg,a1,a2,a3⟩,FlT.of_heap h2 HMp.out,rfl,by show PvL wx [] (ps.take 0) _ _;rw [List.take_zero];exact hg.size,FlT.of_heap h3 HMc.out,rfl,by rw [List.take_zero];exact ElyT.nil⟩
 refine wp_region_noPanic ?_
 go_region_held3 (fun w'=>w'.cell? ⟨b,0,none⟩=some (.int .i64 no)/\w'.cell? ⟨b,1,none⟩=some (.slice a m c)) (first | (with_reducible exact ⟨k0,k1⟩) | ((with_reducible refine And.intro (keep1 k0 ?_) (keep1 k1 ?_)) <;> (repeat' first | (with_reducible exact World.grownBy.refl _ _) | (with_reducible apply grown_dw) | (with_reducible apply grown_al));done) | go_keep) (fail)
 all_goals
  refine NoPanic.normal ?_;refine HK.out _ _ _ _ _ _ _ _ _ _ _ _ _ _ _ _ _ _ _ ?_;refine ⟨_,_,_,rfl,fin.out _ _ _ _ (by first | exact al3_0 _ _ _ _ | exact al3_1 _ _ _ _ | exact al3_2 _ _ _ _) (by first | exact al3_0 _ _ _ _ | exact al3_1 _ _ _ _ | exact al3_2 _ _ _ _) (by first | exact al3_0 _ _ _ _ | exact al3_1 _ _ _ _ | exact al3_2 _ _ _ _) (al3_g _ _ _ _) (by omega) (by omega) (by omega)⟩
theorem ltell5 {y0 y1 y2 y3 y4 y8 y9 y10 y11 y12 y13 y14 y15 y16 y17 y18 y19 y20 y21 y22 y23 y24 y25 y26 y27 y28 y29 y30 y31 y32 y33 y34 y35 y36 y37 y38 y39 y40 y41 y42 y43 y44 y45 y46 y47 y48 y49 y50 y51 y52 y53 y54 y55 y56 y57:Value}{w0 wc:World}{N P C m k D:Nat}{no:Int}{ps:List PrT}{es cs:List (List Value)}{p:PrT}{ka va:Option Addr}{kn kc vn vc:Nat}{ca:Option Addr}{cn cc:Nat}(HT:Hid (TlL w0 wc N P C m no ps k k es cs))(hkm:k<m)(hx:ps[k]?=some p)(HI:Hid (IpxT wc ka kn kc va vn vc ca cn cc p))(d0:wc.cell? ⟨D,0,none⟩=some (.slice ka kn kc))(d1:wc.cell? ⟨D,1,none⟩=some (.slice va vn vc))(hk9:kn<=1000000)(hv9:vn<=1000000)(hD:TgT wc D 106){J:Act->World->Prop}{Q':Exit->Act->World->Prop}
  (hK:∀ (v35 v36 v37 v38 v39 v40 v41 v42 v43 v44 v45:Value) (wx:World),(∃ e,TlL w0 wx N P C m no ps (k+1) k (es++[e]) cs/\wc.grownBy wx (some P))->J ⟨#[y0,y1,y2,y3,y4,.pointer (some ⟨N,0,none⟩),.int .i64 (k:Int),.pointer (some ⟨D,0,none⟩),y8,y9,y10,y11,y12,y13,y14,y15,y16,y17,y18,y19,y20,y21,y22,y23,y24,y25,y26,y27,y28,y29,y30,y31,y32,y33,y34,v35,v36,v37,v38,v39,v40,v41,v42,v43,v44,v45,y46,y47,y48,y49,y50,y51,y52,y53,y54,y55,y56,y57],[]⟩ wx) :
  Code.wp Tryz.prog (Go.Code.region 5 #[⟨some 35,.fieldAddr 61 (.tmp 5) 2,0, "leaf.go:103",#[],none⟩,⟨some 36,.load 57 (.tmp 35),57, "leaf.go:103",#[⟨0,.data⟩],none⟩,⟨some 37,.move (.tmp 6),3, "leaf.go:103",#[],none⟩,⟨some 38,.fieldAddr 106 (.tmp 7) 0,0, "leaf.go:103",#[],none⟩,⟨some 39,.load 62 (.tmp 38),62, "leaf.go:103",#[⟨3,.data⟩],none⟩,⟨some 40,.call { callee:=.value (.func 56),args:=#[.tmp 39],argTypes:=#[62] },62, "leaf.go:103",#[⟨4,.data⟩],none⟩,⟨some 41,.fieldAddr 106 (.tmp 7) 1,0, "leaf.go:103",#[],none⟩,⟨some 42,.load 62 (.tmp 41),62, "leaf.go:103",#[⟨6,.data⟩],none⟩,⟨some 43,.call { callee:=.value (.func 56),args:=#[.tmp 42],argTypes:=#[62] },62, "leaf.go:103",#[⟨7,.data⟩,⟨5,.chain⟩],none⟩,⟨some 44,.build 64 #[(0,.tmp 40),(1,.tmp 43)],64, "leaf.go:103",#[⟨5,.data⟩,⟨8,.data⟩],none⟩,⟨some 45,.indexAddr 57 (.tmp 36) (.tmp 37),0, "leaf.go:103",#[⟨1,.data⟩,⟨2,.data⟩,⟨0,.phase⟩,⟨1,.phase⟩,⟨2,.phase⟩,⟨3,.phase⟩,⟨4,.phase⟩,⟨5,.phase⟩,⟨6,.phase⟩,⟨7,.phase⟩,⟨8,.phase⟩,⟨9,.phase⟩],none⟩,⟨none,.store 64 (.tmp 45) (.tmp 44),0, "leaf.go:103",#[⟨10,.data⟩,⟨9,.data⟩,⟨8,.chain⟩,⟨0,.phase⟩,⟨1,.phase⟩,⟨2,.phase⟩,⟨3,.phase⟩,⟨4,.phase⟩,⟨5,.phase⟩,⟨6,.phase⟩,⟨7,.phase⟩,⟨8,.phase⟩,⟨9,.phase⟩],none⟩] true) (Exit.then J Q') ⟨#[y0,y1,y2,y3,y4,.pointer (some ⟨N,0,none⟩),.int .i64 (k:Int),.pointer (some ⟨D,0,none⟩),y8,y9,y10,y11,y12,y13,y14,y15,y16,y17,y18,y19,y20,y21,y22,y23,y24,y25,y26,y27,y28,y29,y30,y31,y32,y33,y34,y35,y36,y37,y38,y39,y40,y41,y42,y43,y44,y45,y46,y47,y48,y49,y50,y51,y52,y53,y54,y55,y56,y57],[]⟩ wc:=by
 have HK:=hZq hK;clear hK
 dsimp only
 have c2:=HT.out.b.cell 2;have hl1:=HI.out.k.b.len;have hl2:=HI.out.v.b.len;have hfp:=HT.out.fp;have nN:N≠P:=tg_ne HT.out.b.tN HT.out.fp.tg (by decide);have nD:D≠P:=tg_ne hD HT.out.fp.tg (by decide);have hel:=HT.out.el;have i0:(0:Int)<=(k:Int):=by omega
 have i1:(k:Int)<(m:Int):=by omega
 have g2:wc.cell? ⟨N,2,none⟩=some (.slice (some ⟨P,0,none⟩) m m):=c2;clear c2;refine wp_region_noPanic ?_
 go_region_held3 (fun w'=>w'.cell? ⟨N,2,none⟩=some (.slice (some ⟨P,0,none⟩) m m)/\w'.cell? ⟨D,0,none⟩=some (.slice ka kn kc)/\w'.cell? ⟨D,1,none⟩=some (.slice va vn vc)) (first | exact ⟨g2,d0,d1⟩ | exact T5.out | exact T6.out | exact ⟨cell_set2 T6.out.1 nN,cell_set2 T6.out.2.1 nD,cell_set2 T6.out.2.2 nD⟩ | go_keep)
  (first
   | (go_at_call_of 56 (Value.slice ka kn kc);refine (clone_own ka kn kc p.key _ (HI.out.k.b.keptN ((Qt.refl wc).drew.grown none)) (by omega)).mono ?_;rintro en w5 ⟨a5,c5,rfl,ho5,hg5⟩;have G5:=hZq (gZq ((Qt.refl wc).drew.grown none) hg5);have O5:=hZq ho5;have T5:=hZq (show w5.cell? ⟨N,2,none⟩=some (.slice (some ⟨P,0,none⟩) m m)/\w5.cell? ⟨D,0,none⟩=some (.slice ka kn kc)/\w5.cell? ⟨D,1,none⟩=some (.slice va vn vc) from ⟨G5.out.cell g2 (by simp),G5.out.cell d0 (by simp),G5.out.cell d1 (by simp)⟩);clear hg5 ho5)
   | (go_at_call_of 56 (Value.slice va vn vc);refine (clone_own va vn vc p.val _ (HI.out.v.b.keptN G5.out) (by omega)).mono ?_;rintro en w6 ⟨a6,c6,rfl,ho6,hg6⟩;have G6:=hZq (gZq G5.out hg6);have O6:=hZq ho6;have O56:=hZq (own_keptF O5.out (by decide) (FrT.of hg6));have T6:=hZq (show w6.cell? ⟨N,2,none⟩=some (.slice (some ⟨P,0,none⟩) m m)/\w6.cell? ⟨D,0,none⟩=some (.slice ka kn kc)/\w6.cell? ⟨D,1,none⟩=some (.slice va vn vc) from ⟨G6.out.cell g2 (by simp),G6.out.cell d0 (by simp),G6.out.cell d1 (by simp)⟩);obtain ⟨⟨q0,f0⟩,z0⟩:=(hfp.keptN G6.out).cell (j:=k*2) (by omega);obtain ⟨⟨q1,f1⟩,z1⟩:=(hfp.keptN G6.out).cell (j:=k*2+1) (by omega);have S6:=hZq hg6.size;clear hg6 ho6))
 all_goals
  refine NoPanic.normal ?_
  go_wp2_with fail
  have hz:=G5.out.size;have hkq:∀ g,(Value.slice a5 kn c5).ownBlock=some g->g<w5.heap.size:=fun g e=>(own_lt10 O5.out e).2.1
  have RS:=HT.out.pair hkm hx G6.out (kv:=.slice a5 kn c5) (vv:=.slice a6 vn c6) (by rw [hl1];exact O56.out) hz S6.out hkq (by rw [hl2];exact O6.out) rfl rfl;refine HK.out _ _ _ _ _ _ _ _ _ _ _ _ ?_;exact ⟨_,RS.1,gZq (grown_any G6.out) RS.2⟩
theorem ltell6 {y0 y1 y2 y3 y4 y8 y9 y10 y11 y12 y13 y14 y15 y16 y17 y18 y19 y20 y21 y22 y23 y24 y25 y26 y27 y28 y29 y30 y31 y32 y33 y34 y35 y36 y37 y38 y39 y40 y41 y42 y43 y44 y45 y46 y47 y48 y49 y50 y51 y52 y53 y54 y55 y56 y57:Value}{w0 wc:World}{N P C m k D:Nat}{no:Int}{ps:List PrT}{es cs:List (List Value)}{p:PrT}{ca:Option Addr}{cn cc:Nat}(HT:Hid (TlL w0 wc N P C m no ps (k+1) k es cs))(hkm:k<m)(hx:ps[k]?=some p)(HC:Hid (NmT wc ca cn cc p.chain))(d2:wc.cell? ⟨D,2,none⟩=some (.slice ca cn cc))(hc9:cn<=1000000)(hD:TgT wc D 106){J:Act->World->Prop}{Q':Exit->Act->World->Prop}
  (hK:∀ (v46 v47 v48 v49 v50 v51 v52:Value) (wx:World),(∃ e,TlL w0 wx N P C m no ps (k+1) (k+1) es (cs++[e])/\wc.grownBy wx (some C))->J ⟨#[y0,y1,y2,y3,y4,.pointer (some ⟨N,0,none⟩),.int .i64 (k:Int),.pointer (some ⟨D,0,none⟩),y8,y9,y10,y11,y12,y13,y14,y15,y16,y17,y18,y19,y20,y21,y22,y23,y24,y25,y26,y27,y28,y29,y30,y31,y32,y33,y34,y35,y36,y37,y38,y39,y40,y41,y42,y43,y44,y45,v46,v47,v48,v49,v50,v51,v52,y53,y54,y55,y56,y57],[]⟩ wx) :
  Code.wp Tryz.prog (Go.Code.region 6 #[⟨some 46,.fieldAddr 61 (.tmp 5) 3,0, "leaf.go:104",#[],none⟩,⟨some 47,.load 58 (.tmp 46),58, "leaf.go:104",#[⟨0,.data⟩],none⟩,⟨some 48,.move (.tmp 6),3, "leaf.go:104",#[],none⟩,⟨some 49,.fieldAddr 106 (.tmp 7) 2,0, "leaf.go:104",#[],none⟩,⟨some 50,.load 30 (.tmp 49),30, "leaf.go:104",#[⟨3,.data⟩],none⟩,⟨some 51,.call { callee:=.value (.func 132),args:=#[.tmp 50],argTypes:=#[30] },30, "leaf.go:104",#[⟨4,.data⟩],none⟩,⟨some 52,.indexAddr 58 (.tmp 47) (.tmp 48),0, "leaf.go:104",#[⟨1,.data⟩,⟨2,.data⟩,⟨0,.phase⟩,⟨1,.phase⟩,⟨2,.phase⟩,⟨3,.phase⟩,⟨4,.phase⟩,⟨5,.phase⟩],none⟩,⟨none,.store 30 (.tmp 52) (.tmp 51),0, "leaf.go:104",#[⟨6,.data⟩,⟨5,.data⟩,⟨5,.chain⟩,⟨0,.phase⟩,⟨1,.phase⟩,⟨2,.phase⟩,⟨3,.phase⟩,⟨4,.phase⟩,⟨5,.phase⟩],none⟩] true) (Exit.then J Q') ⟨#[y0,y1,y2,y3,y4,.pointer (some ⟨N,0,none⟩),.int .i64 (k:Int),.pointer (some ⟨D,0,none⟩),y8,y9,y10,y11,y12,y13,y14,y15,y16,y17,y18,y19,y20,y21,y22,y23,y24,y25,y26,y27,y28,y29,y30,y31,y32,y33,y34,y35,y36,y37,y38,y39,y40,y41,y42,y43,y44,y45,y46,y47,y48,y49,y50,y51,y52,y53,y54,y55,y56,y57],[]⟩ wc:=by
 have HK:=hZq hK;clear hK
 dsimp only
 have c3:=HT.out.b.cell 3;have hln:p.chain.length=cn:=by have:=HC.out.len;simpa using this
 have hfc:=HT.out.fc;have nN:N≠C:=tg_ne HT.out.b.tN HT.out.fc.tg (by decide);have nD:D≠C:=tg_ne hD HT.out.fc.tg (by decide);have hcl:=HT.out.cl;have i0:(0:Int)<=(k:Int):=by omega
 have i1:(k:Int)<(m:Int):=by omega
 have g3:wc.cell? ⟨N,3,none⟩=some (.slice (some ⟨C,0,none⟩) m m):=c3;clear c3;refine wp_region_noPanic ?_
 go_region_held3 (fun w'=>w'.cell? ⟨N,3,none⟩=some (.slice (some ⟨C,0,none⟩) m m)/\w'.cell? ⟨D,2,none⟩=some (.slice ca cn cc)) (first | exact ⟨g3,d2⟩ | exact T6.out | exact ⟨cell_set1 T6.out.1 nN,cell_set1 T6.out.2 nD⟩ | go_keep)
  (first | (go_at_call 132;refine (iclone_any ca cn cc p.chain _ (EsT.kept HC.out (by decide) (FrT.of ((Qt.refl wc).drew.grown none))) (by omega)).mono ?_;rintro en w6 ⟨a6,c6,rfl,ho6,hg6,ha6⟩;have A6:Hid (∀ ad,a6=some ad->w0.heap.size<=ad.block):=fun ad e=>Nat.le_trans HT.out.b.gr.size (ha6 ad e);have G6:=hZq (gZq ((Qt.refl wc).drew.grown none) hg6);have O6:=hZq ho6;have T6:=hZq (show w6.cell? ⟨N,3,none⟩=some (.slice (some ⟨C,0,none⟩) m m)/\w6.cell? ⟨D,2,none⟩=some (.slice ca cn cc) from ⟨G6.out.cell g3 (by simp),G6.out.cell d2 (by simp)⟩);obtain ⟨⟨q0,f0⟩,z0⟩:=(hfc.keptN G6.out).cell (j:=k) (by omega);clear hg6 ho6 ha6))
 all_goals
  refine NoPanic.normal ?_
  go_wp2_with fail
  have RS:=HT.out.chain hkm hx G6.out O6.out A6.out;rw [Nat.mul_one] at RS;refine HK.out _ _ _ _ _ _ _ _ ?_;exact ⟨_,RS.1,gZq (grown_any G6.out) RS.2⟩
theorem seps_few {L:List (List Int)}(h:bsize L<=4092):L.length<=370:=by
 have:=bsize_least L;omega
structure TbT (n:Nat)(w:World)(R:Nat)(a:Option Addr)(m c:Nat)(sa:Option Addr)(sm sc:Nat)(q:RwT (NdT n)):Prop where
 box:w.heap[R]?=some (.cells #[.slice a m c,.slice sa sm sc] 89 (0,0))
 row:RowT n w a m c sa sm sc q
theorem lchanged_nil (b:Nat)(ka:Option Addr)(kn kc:Nat)(key:List Int)(na:Option Addr)(nn nc:Nat)(now:List PrT)(w:World)(hb:w.heap[b]?=some (.cells #[.int .i64 0,.slice none 0 0] 135 (0,0)))(hk:Byt w ka kn kc key)(bt:Bt key)(hnow:PsT w na nn nc now)(hn:NowT key now) :
  Calls Tryz.prog 75 #[.pointer (some ⟨b,0,none⟩),.slice ka kn kc,.slice na nn nc] w fun en w'=>ChT 0 (changedT 0 (⟨0,[]⟩:LfT) key now) en w'/\w.grownBy w' none:=by
 have hps:PsT w none 0 0 []:=SlT.nil _ _ _ _;have hc0:=cell_heap (i:=1) hb rfl;have G1:=hZq (World.grownBy_alloc w (.cells #[.slice none 0 0,.slice none 0 0] 89) none);have B1:=hZq (BxT.new w (.slice none 0 0) (.slice none 0 0));have N1:=hZq (hnow.kept (FrT.of G1.out));have c1:=G1.out.cell hc0 (by simp);have LF:=lfind_any b none 0 0 ka kn kc [] key _ c1 (hps.kept (FrT.of G1.out)) (by omega) List.Pairwise.nil (hk.keptN G1.out) bt (fun p hp=>by simp at hp);rw [show findT [] key=0 from rfl,show hasT [] key=false from rfl] at LF;have LF:=hZq LF;have hnl:=hnow.len;have hn1:=hn.one
 have SU:Hid (∀ (a:Option Addr) (n c:Nat) (w:World),PsT w a n c ([]++(now++[]))->Calls Tryz.prog 104 #[.slice a n c] w fun en w'=>(∃ a m c sa sm sc,en=.returned (.agg #[.slice a m c,.slice sa sm sc])/\RowT 0 w' a m c sa sm sc (settleL now))/\w.grownBy w' none):=by
  intro a n c w h;have e:List.take (findT [] key) ([]:List PrT)++(now++List.drop (endT [] key) [])=now:=by simp
  have:=settle_upd (L:=[]) (key:=key) LokT.nil hn a n c w h;rw [e] at this;exact this
 have VN:=hZq (fun p hp=>(hn.vp p hp).vb);have HC:Hid (changedT 0 (⟨0,[]⟩:LfT) key now=if sameT [] now key then none else some (settleL ([]++(now++[])))):=rfl;have HSM:Hid (sameT [] now key=decide (([]:List PrT).map PrT.val=now.map PrT.val)):=rfl;rw [HC.out];have hbl:=cell_lt hc0;clear hb hnow hk hn hc0 HC hps;go_enter Tryz.func75,Tryz.ntmps75
 go_wp2_with fail
 refine LF.out.mono ?_;rintro en w2 ⟨rfl,hg2⟩;have G2:=hZq hg2;have c2:=hg2.cell c1 (by simp);have N2:=hZq (N1.out.kept (FrT.of hg2));clear hg2 LF c1
 go_wp2_with fail
 refine (equalFunc_any none na 0 0 nn nc [] now w2 (SlT.nil _ _ _ _) N2.out (by omega) (by omega) (fun p hp=>by simp at hp) VN.out).mono ?_;rintro en w3 ⟨rfl,hg3⟩;rw [<- HSM.out];have G3:=hZq (gZq G2.out hg3);have c3:=hg3.cell c2 (by simp);have N3:=hZq (N2.out.kept (FrT.of hg3));clear hg3 c2 N2 VN;cases hs:sameT [] now key with
 | true =>
  clear HSM SU;go_wp2;exact ⟨rfl,rfl,gZq G1.out G3.out⟩
 | false =>
  have CT:=hZq (cat3_tp IpT ip_keptN none 0 0 [] na nn nc now none 0 0 [] (SlT.nil _ _ _ _) N3.out (SlT.nil _ _ _ _) (by simp;omega));have hbn:¬ b=w.heap.size:=by omega
  have hbn2:¬ w.heap.size=b:=by omega
  clear HSM;go_upto_region 7 with fail
  go_region_held3 (fun w'=>w'.cell? ⟨b,1,none⟩=some (.slice none 0 0)) (first | exact c3 | exact c5 | exact c6 | go_keep) (first
   | (go_at_call 105;(with_reducible refine CT.out.mono ?_);rintro en w5 ⟨⟨a5,n5,cc5,rfl,hp5⟩,hg5⟩;have c5:=hg5.cell c3 (by simp);have hq5:PsT w5 a5 n5 cc5 ([]++(now++[])):=hp5)
   | (go_at_call 104;(with_reducible refine (SU.out _ _ _ _ hq5).mono ?_);rintro en w6 ⟨⟨a6,m6,cc6,sa6,sm6,sc6,rfl,hr6⟩,hg6⟩;have c6:=hg6.cell c5 (by simp);obtain ⟨⟨x,cx⟩,⟨y,cy⟩,z1,z2⟩:=(B1.out.keptN (gZq G3.out (gZq hg5 hg6))).cells))
  all_goals go_wp2
  all_goals
   obtain ⟨r1,r2,r3⟩:=ret_row (fn:=Tryz.f75) (p:=6) rfl (B1.out.keptN (gZq G3.out (gZq hg5 hg6))) hr6 (gZq G1.out (gZq G3.out (gZq hg5 hg6)));refine ret_endC r1 r2 r3 ?_ ?_ <;> rfl
end Go.Proofs.YteaahinjcfjngaaGreat
