import Derived.Test.YteaahinjcfjngaaGreatQ23
import Derived.Recover
import Derived.Laws.Pointers
import Derived.Deep.RegionHeld3
set_option maxRecDepth 100000
set_option maxHeartbeats 8000000
namespace Go.Proofs.YteaahinjcfjngaaGreat
open Go.RowKit
theorem any_nil (w:World):(binOp .eql 20 .nilIface .nilIface).run Tryz.prog w=.ok (.bool true) w:=by kernel_rfl
theorem any_no (w:World):(binOp .eql 20 (.iface 132 (.agg #[])) .nilIface).run Tryz.prog w=.ok (.bool false) w:=by kernel_rfl
theorem assertN (w:World):(Instr.typeAssert (.iface 132 (.agg #[])) 20 132 true).run Tryz.prog w=.ok (.tuple #[.agg #[],.bool true]) w:=by kernel_rfl
theorem gaveUp_yes (w:World):Calls Tryz.prog 54 #[.iface 132 (.agg #[])] w fun en w'=>en=.returned (.bool true)/\w'=w:=by
 have q1:=any_no;have q2:=assertN;go_enter Tryz.func54,Tryz.ntmps54;go_wp2;go_ret;exact ⟨rfl,rfl⟩
theorem gaveUp_no (w:World):Calls Tryz.prog 54 #[.nilIface] w fun en w'=>en=.returned (.bool false)/\w'=w:=by
 have q1:=any_nil;go_enter Tryz.func54,Tryz.ntmps54;go_wp2;go_ret;exact ⟨rfl,rfl⟩
theorem with_catch (p q:Addr)(v0:Value)(tv:Option Addr)(w:World)(hp:w.cell? p=some (.pointer tv))(hq:w.cell? q=some v0)(hz:w.frozen? q=false) :
  CallsD Tryz.prog 53 #[.pointer (some p),.pointer (some q)] (.panicking [{ v:=.iface 132 (.agg #[]),recovered:=false }]) w fun e u' w' =>
   e=.returned (.tuple #[])/\u'=.panicking [{ v:=.iface 132 (.agg #[]),recovered:=true }]/\w'=w.setCell q (.pointer tv):=by
 refine callsD_of_wpS Tryz.func53 rfl fun c₀ cs hu=>?_
 apply wpS_seq;apply wpS_region;simp [wpOpsS,go_sem,recoverD,hu,Tryz.ntmps53,Exit.thenS];refine (gaveUp_yes w).mono ?_;rintro en w1 ⟨rfl,rfl⟩;refine wpS_cond (t:=true) (by simp [Act.eval,Array.replicate]) ?_;simp only [if_true];apply wpS_region;simp [wpOpsS,go_sem,hp,hq,hz,bodyPostS,results,Tryz.results53]
theorem with_idle (p q:Addr)(w:World) :
  CallsD Tryz.prog 53 #[.pointer (some p),.pointer (some q)] .returning w fun e u' w'=>e=.returned (.tuple #[])/\u'=.returning/\w'=w:=by
 refine callsD_of_wpS Tryz.func53 rfl fun c₀ cs hu=>?_
 apply wpS_seq;apply wpS_region;simp [wpOpsS,go_sem,recoverD,hu,Tryz.ntmps53,Exit.thenS];refine (gaveUp_no w).mono ?_;rintro en w1 ⟨rfl,rfl⟩;refine wpS_cond (t:=false) (by simp [Act.eval,Array.replicate]) ?_;simp only [Bool.false_eq_true,if_false];refine wpS_of_wp (wp_skip ?_);cases c₀
 simp_all [bodyPostS,results,Tryz.results53]
theorem TreeT.set {w:World}{p:Nat}{t:Option TrT}{g i:Nat}{cs:Array Value}{z:Nat × Nat}{v:Value}(h:TreeT w p t)(k:w.heap[g]?=some (.cells cs 24 z)):TreeT (w.setCell ⟨g,i,none⟩ v) p t:=h.kept (FrT.set k (by decide))
theorem clone_bty (ao:Option Addr)(n c:Nat)(zs:List Int)(w:World)(hb:Byt w ao n c zs)(hn:n<=140737488355328) :
  Calls Tryz.prog 56 #[.slice ao n c] w fun en w'=>(∃ a' c',en=.returned (.slice a' n c')/\BtyT w' a' n c' zs)/\w.grownBy w' none:=by
 obtain ⟨i0,hi,hz0,hz1,hz2⟩:=info_parts info_u8;have q22:∀ (w:World) (a:Option Addr) (n c n' c':Nat),(binOp .eql 62 (.slice a n c) (.slice none n' c')).run Tryz.prog w=.ok (.bool a.isNone) w:=fun w a n c n' c'=>Lib.run_eql_slice_nil w _ _ a n c n' c' Tryz.underlying62
 match ao,hb with
 | none,hb =>
  have hn0:n=0:=(hb.nil rfl).1;subst hn0;have hl:=hb.len;have hz:zs=[]:=List.eq_nil_of_length_eq_zero hl;subst hz;clear hb hl;go_enter Tryz.func56,Tryz.ntmps56;go_wp2;go_ret;exact ⟨⟨none,0,rfl,BtyT.nil _⟩,World.grownBy.refl _ _⟩
 | some ad,hb =>
  have HB:=hZq hb;clear hb;go_enter Tryz.func56,Tryz.ntmps56
  go_wp2_with (at_builtin;refine wpList_append_own _ rfl _ _ 62 rfl w.heap.size 5 i0 (.int .u8 0) 1 1 Tryz.underlying62 hi hz0 hz1 hz2 rfl (by decide) _ _ _ rfl (World.ownsRow_made w #[] 0 (Nat.le_refl _) (Nat.zero_le _) rfl) ad n c (zs.map (Value.int .u8)) rfl ?qc1 ?qc2 ?qc3 ?qc4 ?qc5 ?qc6 ?_)
  case qc1=>rw [List.length_map,HB.out.len,Nat.mul_one]
  case qc2=>exact (HB.out.keptN (World.grownBy_alloc w _ none)).cells ad rfl
  case qc3=>exact ints_oneCell _ _
  case qc4=>unfold maxLen;omega
  case qc5=>omega
  case qc6=>simp
  intro v' w1 hown hgrow hnil;have hown':w1.ownsRow w.heap.size 5 1 v' n (zs.map (Value.int .u8)):=by simpa using hown
  have HG:Hid (w.grownBy w1 none):=grown_new (World.grownBy_alloc w (.cells #[] 5) none) (by simpa [Value.ownBlock] using hgrow) (Nat.le_refl _);have HL:=hZq HB.out.len;clear hown hgrow hnil
  have HV:Hid (∃ a' c',v'=.slice a' n c'/\BtyT w1 a' n c' zs):=by
   rcases hown'.2 with ⟨h1,h0⟩ | ⟨g,cap,cur,hv,_⟩
   ·have hl:=HL.out
    rw [h0] at hl;have hz:zs=[]:=List.eq_nil_of_length_eq_zero hl;subst hz;subst h0;exact ⟨none,0,h1,BtyT.nil _⟩
   ·subst hv
    exact ⟨_,cap,rfl,BtyT.of_owns hown'⟩
  obtain ⟨a',c',rfl,hv⟩:=HV.out;clear hown' HV;go_wp2;go_ret;exact ⟨⟨a',c',rfl,hv⟩,HG.out⟩
theorem leaves_tmps {P:Program}{fn:Func}{t t':Array Value}{R:Ending->World->Prop}(h:results fn t=results fn t'):∀ (ds:List Deferred) (u:FrameMode) (w:World),Leaves P fn t R ds u w->Leaves P fn t' R ds u w
 | [],.returning,w,k=>by
  obtain ⟨v,h1,h2⟩:=k;exact ⟨v,h ▸ h1,h2⟩
 | [],.panicking c,w,k=>k
 | [],.run,w,k=>k
 | d::ds,u,w,k=>by
  obtain ⟨h1,fv,cap,f,args,h2,h3,h4⟩:=k;refine ⟨h1,fv,cap,f,args,h2,h3,h4.mono fun e u' w' k'=>?_⟩;cases e with
  | returned v=>exact leaves_tmps h ds _ _ k'
  | panicked c=>exact leaves_tmps h ds _ _ k'
  | outgrown=>exact k'
theorem with_put (a:Act)(k:Nat)(h6:k≠6)(h7:k≠7)(v:Value):results Tryz.f27 (a.put (some k) v).tmps=results Tryz.f27 a.tmps:=by
 simp [results,Tryz.results27,Act.put,Array.getD_eq_getD_getElem?,Array.getElem?_setIfInBounds,h6,h7]
def WiT (R:Option (Option TrT))(p:Nat)(en:Ending)(w':World):Prop:=match R with
 | none=>en=.returned (.tuple #[.pointer (some ⟨p,0,none⟩),.int .i64 0])
 | some t=>∃ q,en=.returned (.tuple #[.pointer (some ⟨q,0,none⟩),.int .i64 0])/\TreeT w' q t
theorem es_one3 {W:World}{p:Nat}{t:TypeId}{x y z:Value}(h:W.heap[p]?=some (.cells #[x,y,z] t (0,0)))(hx:x.oneCell'=true)(hy:y.oneCell'=true)(hz:z.oneCell'=true):EsT W t (some ⟨p,0,none⟩) 1 1 3 [[x,y,z]]:=by
 refine ⟨rfl,Nat.le_refl _,by omega,(fun e=>by cases e),(fun x hx=>by cases hx;exact ⟨_,_,rfl⟩),by simp,by simp [hx,hy,hz],fun i e he=>⟨_,0,rfl,⟨_,_,h⟩,fun f u hu=>?_⟩⟩
 match i,he with
 | 0,he =>
  simp only [List.getElem?_cons_zero,Option.some.injEq] at he;subst he
  match f,hu with
  | 0,hu =>
   simp only [List.getElem?_cons_zero,Option.some.injEq] at hu;subst hu;exact cell_heap h rfl
  | 1,hu =>
   simp only [List.getElem?_cons_zero,List.getElem?_cons_succ,Option.some.injEq] at hu;subst hu;exact cell_heap h rfl
  | 2,hu =>
   simp only [List.getElem?_cons_zero,List.getElem?_cons_succ,Option.some.injEq] at hu;subst hu;exact cell_heap h rfl
  | f+3,hu=>simp at hu
 | i+1,he=>simp at he
def TgC (t:Option TrT):Prop:=∀ (p:Nat) (ka:Option Addr) (kn kc:Nat) (key:List Int) (na:Option Addr) (nn nc:Nat) (now:List PrT) (w:World),TreeT w p t->OkO t->Byt w ka kn kc key->Bt key->PsT w na nn nc now->NowT key now ->
  Calls Tryz.prog 55 #[.pointer (some ⟨p,0,none⟩),.slice ka kn kc,.slice na nn nc] w fun en w'=>TcT (treeT t key now) en w'/\w.grownBy w' none
theorem with_any_of (t:Option TrT)(hT:TgC t)(p:Nat)(ka:Option Addr)(kn kc:Nat)(key:List Int)(va:Option Addr)(vn vc:Nat)(val:List Int)(w:World)(ht:TreeT w p t)(ox:OkO t)(hk:Byt w ka kn kc key)(bt:Bt key)(hv:Byt w va vn vc val)(h1:1<=kn)(h2:kn<=255)(h3:vn<=262144)(hn:NowT key [⟨key,val,[]⟩]) :
  Calls Tryz.prog 27 #[.pointer (some ⟨p,0,none⟩),.slice ka kn kc,.slice va vn vc] w fun en w'=>WiT (treeT t key [⟨key,val,[]⟩]) p en w'/\w.grownBy w' none:=by
 unfold TgC at hT;have hmf:∀ (fn:Fn) (first cap:Array Value) (w:World),(Instr.makeFunc fn first cap).run Tryz.prog w=.ok (.func fn first cap) w:=fun _ _ _ _=>rfl
 have G2:=hZq (grown_al (World.grownBy_alloc w (.cells #[.pointer (some ⟨p,0,none⟩)] 24) none) (.cells #[.pointer none] 24));have HT:=hZq ht;have HK:=hZq hk;have HV:=hZq hv;have hva:valid kn=true:=by simp [valid,h1,h2]
 clear ht hk hv
 go_enter_defers Tryz.func27,Tryz.ntmps27
 go_wp2_with fail
 refine (valid_any ka kn kc _).mono ?_;rintro en w1 ⟨rfl,rfl⟩;rw [hva];go_upto_region 4 with fail
 have e0:((w.alloc (.cells #[.pointer (some ⟨p,0,none⟩)] 24)).alloc (.cells #[.pointer none] 24)).heap[w.heap.size]?=some (.cells #[.pointer (some ⟨p,0,none⟩)] 24 (0,0)):=heap_old (heap_at0 w _ _);have e1:((w.alloc (.cells #[.pointer (some ⟨p,0,none⟩)] 24)).alloc (.cells #[.pointer none] 24)).heap[w.heap.size+1]?=some (.cells #[.pointer none] 24 (0,0)):=heap_at1 w _ _ _;refine wp_region_held_drew (S:=(fun w'=>w'.cell? ⟨w.heap.size,0,none⟩=some (.pointer (some ⟨p,0,none⟩)))) (by kernel_rfl) ?_ (fun hHeld=>?_)
 ·exact keep1 (cell_heap (i:=0) e0 rfl) ((Qt.refl _).drew.grown none)
 refine wpAnyH_take (i:=0) (oi:=⟨some 18,.load 24 (.tmp 3),24, "tree.go:41",#[],none⟩) (v:=?_) rfl (by kernel_rfl) (by kernel_rfl) (by kernel_rfl) (fun c a w h=>leaves_tmps (with_put a 18 (by decide) (by decide) _) _ _ _ h) (Or.inl ⟨by rfl,?_⟩) (by assumption) ?_
 rotate_left
 ·intro w hSw;(try dsimp only at hSw);go_simp;(try with_reducible rfl)
 simp only [Act.put,List.setIfInBounds_toArray,List.set_cons_zero,List.set_cons_succ];refine wpAnyH_take (i:=1) (oi:=⟨some 19,.move (.tmp 1),62, "tree.go:41",#[],none⟩) (v:=?_) rfl (by kernel_rfl) (by kernel_rfl) (by kernel_rfl) (fun c a w h=>leaves_tmps (with_put a 19 (by decide) (by decide) _) _ _ _ h) (Or.inl ⟨by rfl,?_⟩) (by assumption) ?_
 rotate_left
 ·intro w hSw;(try dsimp only at hSw);go_simp;(try with_reducible rfl)
 simp only [Act.put,List.setIfInBounds_toArray,List.set_cons_zero,List.set_cons_succ];refine wpAnyH_take (i:=2) (oi:=⟨some 20,.move (.tmp 1),62, "tree.go:41",#[],none⟩) (v:=?_) rfl (by kernel_rfl) (by kernel_rfl) (by kernel_rfl) (fun c a w h=>leaves_tmps (with_put a 20 (by decide) (by decide) _) _ _ _ h) (Or.inl ⟨by rfl,?_⟩) (by assumption) ?_
 rotate_left
 ·intro w hSw;(try dsimp only at hSw);go_simp;(try with_reducible rfl)
 simp only [Act.put,List.setIfInBounds_toArray,List.set_cons_zero,List.set_cons_succ];refine wpAnyH_take (i:=4) (oi:=⟨some 22,.move (.tmp 2),62, "tree.go:41",#[],none⟩) (v:=?_) rfl (by kernel_rfl) (by kernel_rfl) (by kernel_rfl) (fun c a w h=>leaves_tmps (with_put a 22 (by decide) (by decide) _) _ _ _ h) (Or.inl ⟨by rfl,?_⟩) (by assumption) ?_
 rotate_left
 ·intro w hSw;(try dsimp only at hSw);go_simp;(try with_reducible rfl)
 simp only [Act.put,List.setIfInBounds_toArray,List.set_cons_zero,List.set_cons_succ];have GD:=hZq (grown_dw G2.out);refine wpAnyH_ready (rs:=[3]) (by kernel_rfl) (by simp) ?_;refine AllReadyH.cons (o:=⟨some 21,.call { callee:=.value (.func 56),args:=#[.tmp 20],argTypes:=#[62] },62, "tree.go:41",#[⟨2,.data⟩],none⟩) rfl (fun K hK=>?_) AllReadyH.nil
 go_simp
 (with_reducible refine (clone_bty ka kn kc key _ (HK.out.keptN GD.out) (by omega)).mono ?_)
 rintro en w3 ⟨⟨a3,c3,rfl,hb3⟩,hg3⟩;have H3:=hZq hg3;have B3:=hZq hb3;clear hg3 hb3;refine hK.out _ _ (keep1 hHeld H3.out) (fun hHeld=>?_);clear hK K;try simp only [Act.put,List.setIfInBounds_toArray,List.set_cons_zero,List.set_cons_succ]
 refine wpAnyH_ready (rs:=[5]) (by kernel_rfl) (by simp) ?_;refine AllReadyH.cons (o:=⟨some 23,.call { callee:=.value (.func 56),args:=#[.tmp 22],argTypes:=#[62] },62, "tree.go:41",#[⟨4,.data⟩,⟨3,.chain⟩],none⟩) rfl (fun K hK=>?_) AllReadyH.nil
 go_simp
 (with_reducible refine (clone_bty va vn vc val _ (HV.out.keptN (gZq GD.out H3.out)) (by omega)).mono ?_)
 rintro en w4 ⟨⟨a4,c4,rfl,hb4⟩,hg4⟩;have H4:=hZq hg4;have B4:=hZq hb4;clear hg4 hb4;refine hK.out _ _ (keep1 hHeld H4.out) (fun hHeld=>?_);clear hK K;try simp only [Act.put,List.setIfInBounds_toArray,List.set_cons_zero,List.set_cons_succ]
 refine wpAnyH_take (i:=6) (oi:=⟨some 24,.build 106 #[(0,.tmp 21),(1,.tmp 23)],106, "tree.go:41",#[⟨3,.data⟩,⟨5,.data⟩],none⟩) (v:=?_) rfl (by kernel_rfl) (by kernel_rfl) (by kernel_rfl) (fun c a w h=>leaves_tmps (with_put a 24 (by decide) (by decide) _) _ _ _ h) (Or.inl ⟨by rfl,?_⟩) (by assumption) ?_
 rotate_left
 ·intro w hSw;(try dsimp only at hSw);go_simp;(try with_reducible rfl)
 simp only [Act.put,List.setIfInBounds_toArray,List.set_cons_zero,List.set_cons_succ];refine wpAnyH_ready (rs:=[7]) (by kernel_rfl) (by simp) ?_;refine AllReadyH.cons (o:=⟨some 25,.buildSlice 107 1 #[(0,.tmp 24)],107, "tree.go:41",#[⟨6,.data⟩],none⟩) rfl (fun K hK=>?_) AllReadyH.nil
 go_simp
 have G5:=hZq (grown_al (gZq GD.out (gZq H3.out H4.out)) (.cells #[.slice a3 kn c3,.slice a4 vn c4,.slice none 0 0] 106));refine hK.out _ _ (keep1 hHeld (World.grownBy_alloc _ _ none)) (fun hHeld=>?_);clear hK K;try simp only [Act.put,List.setIfInBounds_toArray,List.set_cons_zero,List.set_cons_succ]
 have P5:=hZq (show PsT (w4.alloc (.cells #[.slice a3 kn c3,.slice a4 vn c4,.slice none 0 0] 106)) (some ⟨w4.heap.size,0,none⟩) 1 1 [⟨key,val,[]⟩] from
  ⟨_,es_one3 (heap_at0 w4 _ _) rfl rfl rfl,ElyT.one ⟨_,_,_,_,_,_,_,_,_,rfl,⟨B3.out.kept (FrT.of (grown_al H4.out _)),B4.out.kept (FrT.of (World.grownBy_alloc w4 _ none)),EsT.nul _ _ _,fun _=>rfl⟩⟩⟩)
 refine wpAnyH_ready (rs:=[8]) (by kernel_rfl) (by simp) ?_;refine AllReadyH.cons (o:=⟨some 26,.call { callee:=.value (.func 55),args:=#[.tmp 18,.tmp 19,.tmp 25],argTypes:=#[24,62,107] },24, "tree.go:41",#[⟨0,.data⟩,⟨1,.data⟩,⟨7,.data⟩,⟨5,.chain⟩],none⟩) rfl (fun K hK=>?_) AllReadyH.nil
 go_simp
 (with_reducible refine (hT p ka kn kc key (some ⟨w4.heap.size,0,none⟩) 1 1 [⟨key,val,[]⟩] _ (HT.out.kept (FrT.of G5.out)) ox (HK.out.keptN G5.out) bt P5.out hn).mono ?_)
 rintro en w6 ⟨h6,hg6⟩;have HG:=hZq (show ((w.alloc (.cells #[.pointer (some ⟨p,0,none⟩)] 24)).alloc (.cells #[.pointer none] 24)).grownBy w6 none from gZq ((Qt.refl _).drew.grown none) (gZq H3.out (gZq (grown_al H4.out _) hg6)));have c0:w6.cell? ⟨w.heap.size,0,none⟩=some (.pointer (some ⟨p,0,none⟩)):=keep1 (cell_heap (i:=0) e0 rfl) HG.out;have e6:w6.heap[w.heap.size+1]?=some (.cells #[.pointer none] 24 (0,0)):=heap_kept e1 HG.out;have c1:w6.cell? ⟨w.heap.size+1,0,none⟩=some (.pointer none):=cell_heap (i:=0) e6 rfl;have z1:w6.frozen? ⟨w.heap.size+1,0,none⟩=false:=frozen_of_row w6 (w.heap.size+1) 0 _ _ e6;cases hq:treeT t key [⟨key,val,[]⟩] with
 | none =>
  rw [hq] at h6;have h7:en=.panicked [{ v:=.iface 132 (.agg #[]),recovered:=false }]:=h6;subst h7;clear hK h6;refine leaves_cons (f:=53) (args:=#[.pointer (some ⟨w.heap.size,0,none⟩),.pointer (some ⟨w.heap.size+1,0,none⟩)]) (by simp) (by simp [go_sem]) ?_;refine (with_catch _ _ _ _ w6 c0 c1 z1).mono ?_;rintro e u' w7 ⟨rfl,rfl,rfl⟩;have G7:=hZq (grown_cell w6 (w.heap.size+1) 0 (.pointer (some ⟨p,0,none⟩)))
  have c5:(w6.setCell ⟨w.heap.size+1,0,none⟩ (.pointer (some ⟨p,0,none⟩))).cell? ⟨w.heap.size+1,0,none⟩=some (.pointer (some ⟨p,0,none⟩)):=by
   simp [go_sem,c1]
  simp [Leaves,settle,results,Tryz.results27,go_sem,c5,hq,WiT];exact grown_new (gZq G2.out HG.out) G7.out (by omega)
 | some r =>
  rw [hq] at h6;obtain ⟨q,rfl,hq3⟩:=h6;have HQ:=hZq hq3;have G7:=hZq (grown_cell w6 (w.heap.size+1) 0 (.pointer (some ⟨q,0,none⟩)));have T7:=hZq (HQ.out.set (i:=0) (v:=.pointer (some ⟨q,0,none⟩)) e6)
  have c5:(w6.setCell ⟨w.heap.size+1,0,none⟩ (.pointer (some ⟨q,0,none⟩))).cell? ⟨w.heap.size+1,0,none⟩=some (.pointer (some ⟨q,0,none⟩)):=by
   simp [go_sem,c1]
  clear hq3 hg6;refine hK.out _ _ (c0) (fun hHeld=>?_);clear hK K;try simp only [Act.put,List.setIfInBounds_toArray,List.set_cons_zero,List.set_cons_succ]
  refine wpAnyH_ready (rs:=[9]) (by kernel_rfl) (by simp) ?_;refine AllReadyH.cons (o:=⟨none,.store 24 (.tmp 6) (.tmp 26),0, "tree.go:41",#[⟨8,.data⟩,⟨8,.chain⟩,⟨0,.phase⟩,⟨1,.phase⟩,⟨2,.phase⟩,⟨3,.phase⟩,⟨4,.phase⟩,⟨5,.phase⟩,⟨6,.phase⟩,⟨7,.phase⟩,⟨8,.phase⟩],none⟩) rfl (fun K hK=>?_) AllReadyH.nil
  go_simp
  refine hK.out _ _ (?sk) (fun hHeld=>?_);clear hK K;try simp only [Act.put,List.setIfInBounds_toArray,List.set_cons_zero,List.set_cons_succ]
  case sk=>exact (by rw [World.cell?_of_block (heap_setCell_other w6 _ _ _ (by simp))];exact c0)
  refine wpAnyH_ready (rs:=[10]) (by kernel_rfl) (by simp) ?_;refine AllReadyH.cons (o:=⟨some 7,.assign (.const (.int .i64 0)),47, "tree.go:41",#[⟨9,.chain⟩,⟨0,.phase⟩,⟨1,.phase⟩,⟨2,.phase⟩,⟨3,.phase⟩,⟨4,.phase⟩,⟨5,.phase⟩,⟨6,.phase⟩,⟨7,.phase⟩,⟨8,.phase⟩,⟨9,.phase⟩],none⟩) rfl (fun K hK=>?_) AllReadyH.nil
  go_simp
  refine hK.out _ _ hHeld (fun hHeld=>?_);clear hK K;try simp only [Act.put,List.setIfInBounds_toArray,List.set_cons_zero,List.set_cons_succ]
  refine wpAnyH_done (by kernel_rfl) ?_ _;go_wp2;refine leaves_cons (f:=53) (args:=#[.pointer (some ⟨w.heap.size,0,none⟩),.pointer (some ⟨w.heap.size+1,0,none⟩)]) (by simp) (by simp [go_sem]) ?_;refine (with_idle _ _ _).mono ?_;rintro e u' w7 ⟨rfl,rfl,rfl⟩;simp [Leaves,settle,results,Tryz.results27,go_sem,c5,hq,WiT];exact ⟨T7.out,grown_new (gZq G2.out HG.out) G7.out (by omega)⟩
end Go.Proofs.YteaahinjcfjngaaGreat
