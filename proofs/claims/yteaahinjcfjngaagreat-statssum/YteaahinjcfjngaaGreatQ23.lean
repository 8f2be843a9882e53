import Derived.Deep.LoopGhost
import Derived.Test.YteaahinjcfjngaaGreatQ22
set_option maxRecDepth 100000
set_option maxHeartbeats 16000000
namespace Go.Proofs.YteaahinjcfjngaaGreat
open Go.RowKit
def TopT (w:World)(a:Option Addr)(m c:Nat):Option TrT->Prop
 | none=>m=0
 | some t=>NsT t.lv w a m c [t.root]
theorem TopT.kept {w w':World}{a:Option Addr}{m c:Nat}{t:Option TrT}(h:TopT w a m c t)(hg:FrT w w'):TopT w' a m c t:=by
 cases t with
 | none=>exact h
 | some t=>exact NsT.kept h hg
theorem ret_top {fn:Func}{p:Tmp}{t:Option TrT}{w w5:World}{G:Nat}{a:Option Addr}{m c:Nat}{sa:Option Addr}{sm sc:Nat}(h:fn.results=#[.cell p 89])(hb:BxT w5 G)(hG:w.heap.size<=G)(hr:TopT w5 a m c t)(hg:w.grownBy w5 none){ac:Act}(hp:ac.tmps.getD p undef=.pointer (some ⟨G,0,none⟩))(hd:ac.defers=[]) :
  bodyPost Tryz.prog fn (fun en w'=>(∃ a m c sa sm sc,en=.returned (.agg #[.slice a m c,.slice sa sm sc])/\TopT w' a m c t)/\w.grownBy w' none) Exit.ret ac ((w5.setCell ⟨G,0,none⟩ (.slice a m c)).setCell ⟨G,1,none⟩ (.slice sa sm sc)):=by
 obtain ⟨k1,k2,k3⟩:=hb.put (.slice a m c) (.slice sa sm sc);exact bodyPost_ret (results_row h _ _ _ _ _ hp k1) hd ⟨⟨_,_,_,_,_,_,rfl,hr.kept k2⟩,grown_new hg k3 hG⟩
theorem rooted_down {k:Nat}{q:RwT (NdT (k+1))}{x:NdT (k+1)}{y:NdT k}(hq:q.ns=[x])(hx:(BnT.row (T:=NdT k) x).ns=[y]):rootedT (k+1) q=rootedT k (BnT.row (T:=NdT k) x):=by
 unfold rootedT;rw [hq,hx]
 show some (downT (k+1) x)=some (downT k y)
 rw [downT,hx]
theorem rooted_stay {k:Nat}{q:RwT (NdT (k+1))}{x:NdT (k+1)}(hq:q.ns=[x])(hx:1<(BnT.row (T:=NdT k) x).ns.length):rootedT (k+1) q=some ⟨k+1,x⟩:=by
 unfold rootedT;rw [hq]
 show some (downT (k+1) x)=_
 have e:downT (k+1) x=⟨k+1,x⟩:=by
  rw [downT]
  match h:(BnT.row (T:=NdT k) x).ns,hx with
  | _::_::_,_=>rfl
 rw [e]
theorem rooted_any {n:Nat}(r:RwT (NdT n))(hok:RokT n r)(hl:r.ns.length<=2)(a:Option Addr)(m c:Nat)(sa:Option Addr)(sm sc:Nat)(w:World)(hr:RowT n w a m c sa sm sc r) :
  Calls Tryz.prog 76 #[.agg #[.slice a m c,.slice sa sm sc]] w fun en w'=>(∃ a m c sa sm sc,en=.returned (.agg #[.slice a m c,.slice sa sm sc])/\TopT w' a m c (rootedT n r))/\w.grownBy w' none:=by
 have ln:=hr.ns.len;have G1:=hZq (grown_al (grown_al (World.grownBy.refl w none) (.cells #[.slice a m c,.slice sa sm sc] 89)) (.cells #[.slice none 0 0,.slice none 0 0] 89));have X1:Hid (((w.alloc (.cells #[.slice a m c,.slice sa sm sc] 89)).alloc (.cells #[.slice none 0 0,.slice none 0 0] 89)).heap[w.heap.size]?=some (.cells #[.slice a m c,.slice sa sm sc] 89 (0,0))):=heap_old (heap_at0 w _ _);have B1:Hid (BxT ((w.alloc (.cells #[.slice a m c,.slice sa sm sc] 89)).alloc (.cells #[.slice none 0 0,.slice none 0 0] 89)) (w.heap.size+1)):=⟨_,_,heap_at1 w _ _ _⟩;have R1:=hZq (hr.kept (FrT.of G1.out))
 by_cases h2:1<m
 ·have hm2:(1:Int)<(m:Int):=by omega
  have e2:rootedT n r=some ⟨n+1,(⟨0,r⟩:BnT (NdT n))⟩:=by
   unfold rootedT
   match h:r.ns with
   | []=>rw [h] at ln;simp at ln;omega
   | [_]=>rw [h] at ln;simp at ln;omega
   | _::_::_=>rfl
  rw [e2];have NL:=node_branch 0 R1.out;rw [show ((w.alloc (.cells #[.slice a m c,.slice sa sm sc] 89)).alloc (.cells #[.slice none 0 0,.slice none 0 0] 89)).heap.size=w.heap.size+1+1 by simp] at NL;have NL:=hZq NL;clear hr;go_enter Tryz.func76,Tryz.ntmps76
  go_wp2_with fail
  generalize (w.alloc (.cells #[.slice a m c,.slice sa sm sc] 89)).alloc (.cells #[.slice none 0 0,.slice none 0 0] 89)=w1 at *;have GL:=hZq (World.grownBy_alloc w1 (.cells #[.int .i64 0,.slice a m c,.slice sa sm sc] 163) none);refine (alone_row (n:=n+1) NL.out (World.grownBy.refl _ _)).mono ?_;rintro en w5 ⟨⟨a5,m5,c5,sa5,sm5,sc5,rfl,hr5⟩,hg5⟩;have G5:=hZq (gZq GL.out hg5);have B5:=B1.out.keptN G5.out;obtain ⟨⟨x,cx⟩,⟨y,cy⟩,z1,z2⟩:=B5.cells;have HB:=hZq B5;have HR:=hZq (show TopT w5 a5 m5 c5 (some ⟨n+1,(⟨0,r⟩:BnT (NdT n))⟩) from hr5.ns);clear B5 hr5 hg5;go_wp2;refine ret_top (p:=2) rfl HB.out (by omega) HR.out (gZq G1.out G5.out) ?_ ?_ <;> rfl
 ·have hm2:¬ ((1:Int)<(m:Int)):=by omega
  have hta:=assertBy;have htb:=assertBn;have HOK:=hZq hok;have X2:Hid (TbT n ((w.alloc (.cells #[.slice a m c,.slice sa sm sc] 89)).alloc (.cells #[.slice none 0 0,.slice none 0 0] 89)) w.heap.size a m c sa sm sc r):=⟨X1.out,R1.out⟩;clear hr hok;go_enter Tryz.func76,Tryz.ntmps76;go_wp2;generalize (w.alloc (.cells #[.slice a m c,.slice sa sm sc] 89)).alloc (.cells #[.slice none 0 0,.slice none 0 0] 89)=w1 at *
  go_loopg [] n (fun gk wr=>∃ (q:RwT (NdT gk)) (a:Option Addr) (m c:Nat) (sa:Option Addr) (sm sc:Nat),m<=1/\RokT gk q/\TbT gk wr w.heap.size a m c sa sm sc q/\BxT wr (w.heap.size+1)/\w.grownBy wr none/\rootedT gk q=rootedT n r)
  case atStart=>exact ⟨r,a,m,c,sa,sm,sc,by omega,HOK.out,X2.out,B1.out,G1.out,rfl⟩
  case round =>
   obtain ⟨q,a,m,c,sa,sm,sc,hm,hok,htbx,hbx,hg,heq⟩:=hrel;have ln:=htbx.row.ns.len;have HO:=hZq hok;have HT:=hZq htbx;have HB:=hZq hbx;have HG:=hZq hg;have HE:=hZq heq;have e0:=cell_heap (i:=0) htbx.box rfl;have e1:=cell_heap (i:=1) htbx.box rfl;obtain ⟨⟨x1,cx⟩,⟨y1,cy⟩,z1,z2⟩:=hbx.cells
   by_cases hm0:m=0
   ·subst hm0
    have hq:q.ns=[]:=List.length_eq_zero_iff.1 ln
    have HF:Hid (rootedT n r=none):=by
     have:=HE.out;unfold rootedT at this;rw [hq] at this;exact this.symm
    clear htbx hbx hg heq hok hq;go_wp2;rw [HF.out];refine ret_top (p:=2) rfl HB.out (by omega) (show TopT wr a 0 c none from rfl) HG.out ?_ ?_ <;> rfl
   ·have hm1:m=1:=by omega
    subst hm1;obtain ⟨x,hq⟩:∃ x,q.ns=[x]:=List.length_eq_one_iff.1 ln;obtain ⟨g,off,u,rfl,c1,hu⟩:=htbx.row.ns.node (i:=0) (x:=x) (by rw [hq];rfl);rw [Nat.add_zero] at c1;have hox:=hok.ok x (by rw [hq];exact List.mem_singleton.2 rfl);cases gk with
    | zero =>
     obtain ⟨b1,rfl⟩:=hu.atL
     have HF:Hid (rootedT n r=some ⟨0,x⟩):=by
      have:=HE.out;unfold rootedT at this;rw [hq] at this;exact this.symm
     have HN:=hZq (show TopT wr (some ⟨g,off,none⟩) 1 c (some ⟨0,x⟩) from by have:=HT.out.row.ns;rw [hq] at this;exact this);clear htbx hbx hg heq hok hq hu hox;go_wp2;rw [HF.out];refine ret_top (p:=2) rfl HB.out (by omega) HN.out HG.out ?_ ?_ <;> rfl
    | succ k =>
     obtain ⟨b1,a',m',c',sa',sm',sc',rfl,hb,hns,hss⟩:=hu;have ln':=hns.len;have d1:=cell_heap (i:=1) hb rfl;have d2:=cell_heap (i:=2) hb rfl
     by_cases h1:1<m'
     ·have h1':(1:Int)<(m':Int):=by omega
      have HF:=hZq (HE.out.symm.trans (rooted_stay hq (by omega)));have HN:=hZq (show TopT wr (some ⟨g,off,none⟩) 1 c (some ⟨k+1,x⟩) from by have:=HT.out.row.ns;rw [hq] at this;exact this);clear htbx hbx hg heq hok hq hox hb hns hss d2;go_wp2;rw [HF.out];refine ret_top (p:=2) rfl HB.out (by omega) HN.out HG.out ?_ ?_ <;> rfl
     ·have h1':¬ ((1:Int)<(m':Int)):=by omega
      obtain ⟨o1,o2,o3,o4,o5⟩:=hox;have hpos:=List.length_pos_iff.2 o1;obtain ⟨y,hy⟩:∃ y,(BnT.row (T:=NdT k) x).ns=[y]:=List.length_eq_one_iff.1 (by omega);have HF:=hZq ((rooted_down hq hy).symm.trans HE.out);have RN:=hZq (show RowT k wr a' m' c' sa' sm' sc' (BnT.row (T:=NdT k) x) from ⟨hns,hss⟩);have RO:=hZq (show RokT k (BnT.row (T:=NdT k) x) from ⟨o2,o3,o5⟩);have BR:=hZq (show BxT wr w.heap.size from ⟨_,_,htbx.box⟩);obtain ⟨_,_,z3,z4⟩:=BR.out.cells;clear htbx hbx hg heq hok hq hb hns hss o1 o2 o3 o4 o5 hy;go_wp2
      go_roundg k
      case measure=>omega
      case rel =>
       obtain ⟨p1,p2,p3⟩:=BR.out.put (.slice a' m' c') (.slice sa' sm' sc');refine ⟨BnT.row (T:=NdT k) x,a',m',c',sa',sm',sc',by omega,RO.out,⟨p1,RN.out.kept p2⟩,?_,grown_new HG.out p3 (Nat.le_refl _),HF.out⟩;obtain ⟨u,v,hu⟩:=HB.out.row;exact ⟨u,v,by rw [p3.block _ (Array.getElem?_eq_some_iff.1 hu).1 (by intro e;have:=Option.some.inj e;omega)];exact hu⟩
def TreeT (w:World)(p:Nat)(t:Option TrT):Prop:=∃ a m c sa sm sc,w.heap[p]?=some (.cells #[.slice a m c,.slice sa sm sc] 91 (0,0))/\TopT w a m c t
theorem TreeT.kept {w w':World}{p:Nat}{t:Option TrT}(h:TreeT w p t)(hg:FrT w w'):TreeT w' p t:=by
 obtain ⟨a,m,c,sa,sm,sc,h1,h2⟩:=h;exact ⟨a,m,c,sa,sm,sc,hg.keep _ _ _ _ (by decide) h1,h2.kept hg⟩
theorem tree_new {w:World}{a:Option Addr}{m c:Nat}{sa:Option Addr}{sm sc:Nat}{t:Option TrT}(h:TopT w a m c t):TreeT (w.alloc (.cells #[.slice a m c,.slice sa sm sc] 91)) w.heap.size t:=⟨a,m,c,sa,sm,sc,heap_at0 w _ _,h.kept (FrT.of (World.grownBy_alloc w _ none))⟩
def TcT (R:Option (Option TrT))(en:Ending)(w':World):Prop:=match R with
 | none=>en=.panicked [{ v:=.iface 132 (.agg #[]),recovered:=false }]
 | some t=>∃ p,en=.returned (.pointer (some ⟨p,0,none⟩))/\TreeT w' p t
theorem tchanged_nil (p:Nat)(ka:Option Addr)(kn kc:Nat)(key:List Int)(na:Option Addr)(nn nc:Nat)(now:List PrT)(w:World)(ht:TreeT w p none)(hk:Byt w ka kn kc key)(bt:Bt key)(hnow:PsT w na nn nc now)(hn:NowT key now) :
  Calls Tryz.prog 55 #[.pointer (some ⟨p,0,none⟩),.slice ka kn kc,.slice na nn nc] w fun en w'=>TcT (treeT none key now) en w'/\w.grownBy w' none:=by
 obtain ⟨a,m,c,sa,sm,sc,hp,hm⟩:=ht;have hm0:m=0:=hm;subst hm0;have k1:=cell_heap (i:=0) hp rfl;have hpl:=cell_lt k1;have GL:=hZq (World.grownBy_alloc w (.cells #[.int .i64 0,.slice none 0 0] 135) none);have LC:=hZq (lchanged_nil w.heap.size ka kn kc key na nn nc now (w.alloc (.cells #[.int .i64 0,.slice none 0 0] 135)) (heap_at0 w _ _) (hk.keptN GL.out) bt (hnow.kept (FrT.of GL.out)) hn);have HT:Hid (treeT none key now=(changedT 0 (⟨0,[]⟩:LfT) key now).map (rootedT 0)):=rfl;rw [HT.out];have HE:=hZq (fun r hr=>empty_ok (r:=r) hn hr);have hn1:=hn.one;clear hp hk hnow hm;cases hq:changedT 0 (⟨0,[]⟩:LfT) key now with
 | none =>
  rw [hq] at LC;clear HE HT hq;go_enter Tryz.func55,Tryz.ntmps55
  go_wp2_with fail
  refine LC.out.mono ?_;rintro en w3 ⟨h3,hg3⟩;have h4:en=.panicked [{ v:=.iface 132 (.agg #[]),recovered:=false }]:=h3;subst h4;exact ⟨rfl,rfl,gZq GL.out hg3⟩
 | some r =>
  have he:=HE.out r hq
  have hl:r.ns.length<=1:=by
   rw [changedT] at hq
   split at hq
   ·cases hq
   ·cases hq
    have e:List.take (findT [] key) ([]:List PrT)++(now++List.drop (endT [] key) [])=now:=by simp
    show (settleL (List.take (findT [] key) []++(now++List.drop (endT [] key) []))).ns.length<=1
    rw [e];unfold settleL
    match now,hn1,hn with
    | [],_,_=>simp
    | [x],_,hn=>rw [if_neg (by simp),if_pos (one_fits (hn.vp x (List.mem_singleton.2 rfl)))];simp
    | _::_::_,h,_=>simp at h
  rw [hq] at LC;have HL:=hZq hl;clear HE HT hq he hl;go_enter Tryz.func55,Tryz.ntmps55
  go_wp2_with fail
  refine LC.out.mono ?_;rintro en w3 ⟨⟨a3,m3,c3,sa3,sm3,sc3,rfl,hr3⟩,hg3⟩
  have TP:TopT w3 a3 m3 c3 (rootedT 0 r):=by
   have hlen:=hr3.ns.len;have hN:=hr3.ns;have hl:=HL.out;unfold rootedT
   match h:r.ns with
   | [] =>
    rw [h] at hlen;exact hlen.symm
   | [x] =>
    rw [h] at hN;exact hN
   | _::_::_ =>
    rw [h] at hl;simp at hl
  have HP:=hZq TP;have G3:=hZq (gZq GL.out hg3);clear TP hr3 hg3;go_wp2;go_ret;exact ⟨⟨_,rfl,tree_new HP.out⟩,grown_al G3.out _⟩
theorem tchanged_L (hC:ChangedC 0)(p:Nat)(x:NdT 0)(ka:Option Addr)(kn kc:Nat)(key:List Int)(na:Option Addr)(nn nc:Nat)(now:List PrT)(w:World)(ht:TreeT w p (some ⟨0,x⟩))(ox:OkT 0 x)(hk:Byt w ka kn kc key)(bt:Bt key)(hnow:PsT w na nn nc now)(hn:NowT key now) :
  Calls Tryz.prog 55 #[.pointer (some ⟨p,0,none⟩),.slice ka kn kc,.slice na nn nc] w fun en w'=>TcT (treeT (some ⟨0,x⟩) key now) en w'/\w.grownBy w' none:=by
 obtain ⟨a,m,c,sa,sm,sc,hp,htop⟩:=ht;have hns:NsT 0 w a m c [x]:=htop;have ln:=hns.len;have hm:m=1:=by simpa using ln.symm
 subst hm;have k1:=cell_heap (i:=0) hp rfl;obtain ⟨g,off,u,rfl,c1,hu⟩:=hns.node (i:=0) (x:=x) rfl;rw [Nat.add_zero] at c1;obtain ⟨b1,rfl⟩:=hu.atL;have KC:Hid (Calls Tryz.prog 75 #[.pointer (some ⟨b1,0,none⟩),.slice ka kn kc,.slice na nn nc] w fun en w'=>ChT 0 (changedT 0 x key now) en w'/\w.grownBy w' none):=hC b1 x ka kn kc key na nn nc now w hu ox hk bt hnow hn;have HT:Hid (treeT (some ⟨0,x⟩) key now=(changedT 0 x key now).map (rootedT 0)):=rfl;rw [HT.out];have HA:=hZq (fun r hr=>changed_all 0 x key now r ox hn hr);have hme:=mL_changed;clear hp hk hnow htop hns hu;cases hq:changedT 0 x key now with
 | none =>
  rw [hq] at KC;clear HA HT hq;go_enter Tryz.func55,Tryz.ntmps55
  go_wp2_with fail
  refine KC.out.mono ?_;rintro en w3 ⟨h3,hg3⟩;have h4:en=.panicked [{ v:=.iface 132 (.agg #[]),recovered:=false }]:=h3;subst h4;exact ⟨rfl,rfl,hg3⟩
 | some r =>
  obtain ⟨_,a2,a3'⟩:=HA.out r hq;have AR:=hZq (And.intro a2 a3');rw [hq] at KC;clear HA HT hq a2 a3';go_enter Tryz.func55,Tryz.ntmps55
  go_wp2_with fail
  refine KC.out.mono ?_;rintro en w3 ⟨⟨a3,m3,c3,sa3,sm3,sc3,rfl,hr3⟩,hg3⟩;have R3:=hZq hr3;have G3:=hZq hg3;clear hr3 hg3
  go_wp2_with fail
  refine (rooted_any r AR.out.1 AR.out.2 a3 m3 c3 sa3 sm3 sc3 w3 R3.out).mono ?_;rintro en w4 ⟨⟨a4,m4,c4,sa4,sm4,sc4,rfl,ht4⟩,hg4⟩;have H4:=hZq ht4;have G4:=hZq (gZq G3.out hg4);clear ht4 hg4;go_wp2;go_ret;exact ⟨⟨_,rfl,tree_new H4.out⟩,grown_al G4.out _⟩
theorem llevel_any (b:Nat)(w:World):Calls Tryz.prog 172 #[.pointer (some ⟨b,0,none⟩)] w fun en w'=>en=.returned (.int .i64 0)/\w=w':=by
 go_enter Tryz.func172,Tryz.ntmps172;go_wp2;go_ret;exact ⟨rfl,rfl⟩
def RlC (n:Nat):Prop:=∀ (L:List (NdT n)) (a:Option Addr) (m c:Nat) (sa:Option Addr) (sm sc:Nat) (w:World),NsT n w a m c L->L≠[]->(∀ x∈L,OkT n x)->n<=1000000 ->
  Calls Tryz.prog 44 #[.agg #[.slice a m c,.slice sa sm sc]] w fun en w'=>en=.returned (.int .i64 (n:Nat))/\w.grownBy w' none
def BlC (n:Nat):Prop:=∀ (b:Nat) (x:NdT (n+1)) (w:World),NodeT (n+1) w (.iface 161 (.pointer (some ⟨b,0,none⟩))) x->OkT (n+1) x->n+1<=1000000 ->
  Calls Tryz.prog 185 #[.pointer (some ⟨b,0,none⟩)] w fun en w'=>en=.returned (.int .i64 ((n+1:Nat):Int))/\w.grownBy w' none
theorem row0_level (a:Option Addr)(c:Nat)(sa:Option Addr)(sm sc:Nat)(w:World) :
  Calls Tryz.prog 44 #[.agg #[.slice a 0 c,.slice sa sm sc]] w fun en w'=>en=.returned (.int .i64 (-1))/\w.grownBy w' none:=by
 go_enter Tryz.func44,Tryz.ntmps44;go_wp2;go_ret;exact ⟨rfl,World.grownBy_alloc w _ none⟩
theorem blevel_any {n:Nat}(hR:RlC n):BlC n:=by
 intro b x w hx ox hn;obtain ⟨b',a,m,c,sa,sm,sc,e,hb,hns,hss⟩:=hx;simp only [Value.iface.injEq,Value.pointer.injEq,Option.some.injEq,Addr.mk.injEq,true_and,and_true] at e;subst e;have k1:=cell_heap (i:=1) hb rfl;have k2:=cell_heap (i:=2) hb rfl;have RC:=hZq (hR (BnT.row (T:=NdT n) x).ns a m c sa sm sc w hns ox.1 ox.2.1 (by omega))
 have wq:wrap64 ((n:Int)+1)=((n+1:Nat):Int):=by
  unfold wrap64;omega
 have HW:=hZq wq;clear hb hns hss ox wq;go_enter Tryz.func185,Tryz.ntmps185
 go_wp2_with fail
 refine RC.out.mono ?_;rintro en w1 ⟨rfl,hg⟩;have G1:=hZq hg;clear hg;go_wp2;go_ret;exact ⟨by first | rw [HW.out] | (congr 2),G1.out⟩
theorem rlevel_L:RlC 0:=by
 intro L a m c sa sm sc w hr hne ox hn;have ln:=hr.len;have hp:=List.length_pos_iff.2 hne;have hx:L[0]?=some (L[0]'hp):=List.getElem?_eq_getElem hp
 revert hx
 generalize L[0]'hp=x;intro hx;obtain ⟨g,off,u,rfl,c1,hu⟩:=hr.node hx;rw [Nat.add_zero] at c1;obtain ⟨b1,rfl⟩:=hu.atL;have hm1:¬ (m:Int)=0:=by omega
 have hm2:(0:Int)<(m:Int):=by omega
 have e0:=cell_heap (i:=0) (heap_at0 w #[.slice (some ⟨g,off,none⟩) m c,.slice sa sm sc] 89) rfl;have G1:=hZq (World.grownBy_alloc w (.cells #[.slice (some ⟨g,off,none⟩) m c,.slice sa sm sc] 89) none);have d1:=G1.out.cell c1 (by simp);have hme:=mL_level;clear hr hu hx ox hne;go_enter Tryz.func44,Tryz.ntmps44
 go_wp2_with fail
 refine (llevel_any b1 _).mono ?_;rintro en w5 ⟨rfl,rfl⟩;have G6:=G1;go_wp2;go_ret;exact ⟨rfl,G6.out⟩
theorem rlevel_B {n:Nat}(hB:BlC n):RlC (n+1):=by
 intro L a m c sa sm sc w hr hne ox hn;have ln:=hr.len;have hp:=List.length_pos_iff.2 hne;have hx:L[0]?=some (L[0]'hp):=List.getElem?_eq_getElem hp
 revert hx
 generalize L[0]'hp=x;intro hx;obtain ⟨g,off,u,rfl,c1,hu⟩:=hr.node hx;rw [Nat.add_zero] at c1;obtain ⟨b1,rfl⟩:=hu.atB;have hm1:¬ (m:Int)=0:=by omega
 have hm2:(0:Int)<(m:Int):=by omega
 have e0:=cell_heap (i:=0) (heap_at0 w #[.slice (some ⟨g,off,none⟩) m c,.slice sa sm sc] 89) rfl;have G1:=hZq (World.grownBy_alloc w (.cells #[.slice (some ⟨g,off,none⟩) m c,.slice sa sm sc] 89) none);have d1:=G1.out.cell c1 (by simp);have hme:=mB_level;have RC:=hZq (hB b1 x (w.alloc (.cells #[.slice (some ⟨g,off,none⟩) m c,.slice sa sm sc] 89)) (NodeT.kept (n+1) hu (FrT.of (World.grownBy_alloc w _ none))) (ox x (List.mem_of_getElem? hx)) hn);clear hr hu hx ox hne;go_enter Tryz.func44,Tryz.ntmps44
 go_wp2_with fail
 refine RC.out.mono ?_;rintro en w5 ⟨rfl,hg5⟩;have G6:=hZq (gZq G1.out hg5);clear hg5;go_wp2;go_ret;exact ⟨rfl,G6.out⟩
theorem rlevel:∀ n,RlC n
 | 0=>rlevel_L
 | n+1=>rlevel_B (blevel_any (rlevel n))
def highO:Option TrT->Nat
 | none=>0
 | some t=>t.lv+1
theorem height_any (t:Option TrT)(p:Nat)(w:World)(ht:TreeT w p t)(ox:OkO t)(hs:highO t<=1000000) :
  Calls Tryz.prog 17 #[.pointer (some ⟨p,0,none⟩)] w fun en w'=>en=.returned (.int .i64 (highO t:Nat))/\w.grownBy w' none:=by
 obtain ⟨a,m,c,sa,sm,sc,hp,htop⟩:=ht;have k1:=cell_heap (i:=0) hp rfl;have k2:=cell_heap (i:=1) hp rfl
 have RC:Hid (Calls Tryz.prog 44 #[.agg #[.slice a m c,.slice sa sm sc]] w fun en w'=>en=.returned (.int .i64 ((highO t:Int) - 1))/\w.grownBy w' none):=by
  match t,htop,ox,hs with
  | none,htop,_,_ =>
   have hm:m=0:=htop;subst hm;exact (row0_level a c sa sm sc w).mono (fun en w' h=>h)
  | some ⟨n,x⟩,htop,ox,hs =>
   have hns:NsT n w a m c [x]:=htop;have hl:highO (some ⟨n,x⟩)=n+1:=rfl;rw [hl] at hs;have hf:(((highO (some ⟨n,x⟩):Nat):Int) - 1)=(n:Int):=by rw [hl];omega
   rw [hf];refine (rlevel n [x] a m c sa sm sc w hns (by simp) (fun y hy=>?_) (by omega)).mono (fun en w' h=>h);rw [List.mem_singleton.1 hy];exact ox
 have wq:wrap64 (((highO t:Nat):Int) - 1+1)=((highO t:Nat):Int):=by
  unfold wrap64;omega
 have HW:=hZq wq;clear hp htop wq;go_enter Tryz.func17,Tryz.ntmps17
 go_wp2_with fail
 refine RC.out.mono ?_;rintro en w1 ⟨rfl,hg⟩;have G1:=hZq hg;clear hg;go_wp2;go_ret;exact ⟨by first | rfl | rw [HW.out] | (congr 2),G1.out⟩
end Go.Proofs.YteaahinjcfjngaaGreat
