import Derived.Test.YtepcgckapoljpaaGreatQ24
import Derived.Recover
import Derived.Laws.Pointers
import Derived.Deep.RegionHeld3
import Derived.Test.YtepcgckapoljpaaGreatQ45
import Derived.Test.YtepcgckapoljpaaGreatQ46
import Derived.Test.YtepcgckapoljpaaGreatQ42
set_option maxRecDepth 100000
set_option maxHeartbeats 8000000
namespace Go.Proofs.YtepcgckapoljpaaGreat
open Go.RowKit
theorem any_nil (w:World):(binOp .eql 20 .nilIface .nilIface).run Tryz.prog w=.ok (.bool true) w:=by kernel_rfl
theorem any_no (w:World):(binOp .eql 20 (.iface 117 (.agg #[])) .nilIface).run Tryz.prog w=.ok (.bool false) w:=by kernel_rfl
theorem assertN (w:World):(Instr.typeAssert (.iface 117 (.agg #[])) 20 117 true).run Tryz.prog w=.ok (.tuple #[.agg #[],.bool true]) w:=by kernel_rfl
theorem gaveUp_yes (w:World):Calls Tryz.prog 59 #[.iface 117 (.agg #[])] w fun en w'=>en=.returned (.bool true)/\w'=w:=by
 have q1:=any_no;have q2:=assertN;go_enter Tryz.func59,Tryz.ntmps59;go_wp2;go_ret;exact ⟨rfl,rfl⟩
theorem gaveUp_no (w:World):Calls Tryz.prog 59 #[.nilIface] w fun en w'=>en=.returned (.bool false)/\w'=w:=by
 have q1:=any_nil;go_enter Tryz.func59,Tryz.ntmps59;go_wp2;go_ret;exact ⟨rfl,rfl⟩
theorem with_catch (p q:Addr)(v0:Value)(tv:Option Addr)(w:World)(hp:w.cell? p=some (.pointer tv))(hq:w.cell? q=some v0)(hz:w.frozen? q=false) :
  CallsD Tryz.prog 58 #[.pointer (some p),.pointer (some q)] (.panicking [{ v:=.iface 117 (.agg #[]),recovered:=false }]) w fun e u' w' =>
   e=.returned (.tuple #[])/\u'=.panicking [{ v:=.iface 117 (.agg #[]),recovered:=true }]/\w'=w.setCell q (.pointer tv):=by
 refine callsD_of_wpS Tryz.func58 rfl fun c₀ cs hu=>?_
 apply wpS_seq;apply wpS_region;simp [wpOpsS,go_sem,recoverD,hu,Tryz.ntmps58,Exit.thenS];refine (gaveUp_yes w).mono ?_;rintro en w1 ⟨rfl,rfl⟩;refine wpS_cond (t:=true) (by simp [Act.eval,Array.replicate]) ?_;simp only [if_true];apply wpS_region;simp [wpOpsS,go_sem,hp,hq,hz,bodyPostS,results,Tryz.results58]
theorem with_idle (p q:Addr)(w:World) :
  CallsD Tryz.prog 58 #[.pointer (some p),.pointer (some q)] .returning w fun e u' w'=>e=.returned (.tuple #[])/\u'=.returning/\w'=w:=by
 refine callsD_of_wpS Tryz.func58 rfl fun c₀ cs hu=>?_
 apply wpS_seq;apply wpS_region;simp [wpOpsS,go_sem,recoverD,hu,Tryz.ntmps58,Exit.thenS];refine (gaveUp_no w).mono ?_;rintro en w1 ⟨rfl,rfl⟩;refine wpS_cond (t:=false) (by simp [Act.eval,Array.replicate]) ?_;simp only [Bool.false_eq_true,if_false];refine wpS_of_wp (wp_skip ?_);cases c₀
 simp_all [bodyPostS,results,Tryz.results58]
theorem without_catch (p q:Addr)(v0:Value)(tv:Option Addr)(w:World)(hp:w.cell? p=some (.pointer tv))(hq:w.cell? q=some v0)(hz:w.frozen? q=false) :
  CallsD Tryz.prog 61 #[.pointer (some p),.pointer (some q)] (.panicking [{ v:=.iface 117 (.agg #[]),recovered:=false }]) w fun e u' w' =>
   e=.returned (.tuple #[])/\u'=.panicking [{ v:=.iface 117 (.agg #[]),recovered:=true }]/\w'=w.setCell q (.pointer tv):=by
 refine callsD_of_wpS Tryz.func61 rfl fun c₀ cs hu=>?_
 apply wpS_seq;apply wpS_region;simp [wpOpsS,go_sem,recoverD,hu,Tryz.ntmps61,Exit.thenS];refine (gaveUp_yes w).mono ?_;rintro en w1 ⟨rfl,rfl⟩;refine wpS_cond (t:=true) (by simp [Act.eval,Array.replicate]) ?_;simp only [if_true];apply wpS_region;simp [wpOpsS,go_sem,hp,hq,hz,bodyPostS,results,Tryz.results61]
theorem without_idle (p q:Addr)(w:World) :
  CallsD Tryz.prog 61 #[.pointer (some p),.pointer (some q)] .returning w fun e u' w'=>e=.returned (.tuple #[])/\u'=.returning/\w'=w:=by
 refine callsD_of_wpS Tryz.func61 rfl fun c₀ cs hu=>?_
 apply wpS_seq;apply wpS_region;simp [wpOpsS,go_sem,recoverD,hu,Tryz.ntmps61,Exit.thenS];refine (gaveUp_no w).mono ?_;rintro en w1 ⟨rfl,rfl⟩;refine wpS_cond (t:=false) (by simp [Act.eval,Array.replicate]) ?_;simp only [Bool.false_eq_true,if_false];refine wpS_of_wp (wp_skip ?_);cases c₀
 simp_all [bodyPostS,results,Tryz.results61]
def WoT (R:Option (Option TrT))(p:Nat)(en:Ending)(w':World):Prop:=match R with
 | none=>en=.returned (.tuple #[.pointer (some ⟨p,0,none⟩),.bool false])
 | some t=>∃ q,en=.returned (.tuple #[.pointer (some ⟨q,0,none⟩),.bool true])/\TreeT w' q t
theorem TreeT.set {w:World}{p:Nat}{t:Option TrT}{g i:Nat}{cs:Array Value}{z:Nat × Nat}{v:Value}(h:TreeT w p t)(k:w.heap[g]?=some (.cells cs 24 z)):TreeT (w.setCell ⟨g,i,none⟩ v) p t:=h.kept (FrT.set k (by decide))
theorem now_nil (key:List Int):NowT key []:=⟨by simp,(fun p hp=>by simp at hp),(fun p hp=>by simp at hp)⟩
theorem without_any (hC:∀ n,ChangedC n)(t:Option TrT)(p:Nat)(ka:Option Addr)(kn kc:Nat)(key:List Int)(w:World)(ht:TreeT w p t)(ox:OkO t)(hk:Byt w ka kn kc key)(bt:Bt key) :
  Calls Tryz.prog 34 #[.pointer (some ⟨p,0,none⟩),.slice ka kn kc] w fun en w'=>WoT (treeT t key []) p en w'/\w.grownBy w' none:=by
 have hmf:∀ (fn:Fn) (first cap:Array Value) (w:World),(Instr.makeFunc fn first cap).run Tryz.prog w=.ok (.func fn first cap) w:=fun _ _ _ _=>rfl
 have G2:=hZq (grown_al (World.grownBy_alloc w (.cells #[.pointer (some ⟨p,0,none⟩)] 24) none) (.cells #[.pointer none] 24));have TC:=hZq (tchanged_any hC t p ka kn kc key none 0 0 [] _ (ht.kept (FrT.of G2.out)) ox (hk.keptN G2.out) bt (SlT.nil _ _ _ _) (now_nil key));clear ht ox hk bt;cases hq:treeT t key [] with
 | none =>
  rw [hq] at TC
  go_enter_defers Tryz.func34,Tryz.ntmps34
  go_wp2_with fail
  refine TC.out.mono ?_;rintro en w3 ⟨h3,hg3⟩;have h4:en=.panicked [{ v:=.iface 117 (.agg #[]),recovered:=false }]:=h3;subst h4;clear h3;have HG:=hZq hg3;clear hg3
  have e0:w3.heap[w.heap.size]?=some (.cells #[.pointer (some ⟨p,0,none⟩)] 24 (0,0)):=by
   rw [HG.out.block _ (by simp;omega) (by simp)];rw [(World.grownBy_alloc (w.alloc (.cells #[.pointer (some ⟨p,0,none⟩)] 24)) _ none).block _ (by simp) (by simp)];exact heap_at0 w _ _
  have e1:w3.heap[w.heap.size+1]?=some (.cells #[.pointer none] 24 (0,0)):=by
   rw [HG.out.block _ (by simp) (by simp)];exact heap_at1 w _ _ _
  have c0:w3.cell? ⟨w.heap.size,0,none⟩=some (.pointer (some ⟨p,0,none⟩)):=cell_heap (i:=0) e0 rfl;have c1:w3.cell? ⟨w.heap.size+1,0,none⟩=some (.pointer none):=cell_heap (i:=0) e1 rfl;have z1:w3.frozen? ⟨w.heap.size+1,0,none⟩=false:=frozen_of_row w3 (w.heap.size+1) 0 _ _ e1;refine leaves_cons (f:=61) (args:=#[.pointer (some ⟨w.heap.size,0,none⟩),.pointer (some ⟨w.heap.size+1,0,none⟩)]) (by simp) (by simp [go_sem]) ?_;refine (without_catch _ _ _ _ w3 c0 c1 z1).mono ?_;rintro e u' w4 ⟨rfl,rfl,rfl⟩;have G5:=hZq (grown_cell w3 (w.heap.size+1) 0 (.pointer (some ⟨p,0,none⟩)))
  have c5:(w3.setCell ⟨w.heap.size+1,0,none⟩ (.pointer (some ⟨p,0,none⟩))).cell? ⟨w.heap.size+1,0,none⟩=some (.pointer (some ⟨p,0,none⟩)):=by
   simp [go_sem,c1]
  simp [Leaves,settle,results,Tryz.results34,go_sem,c5,WoT];exact grown_new (gZq G2.out HG.out) G5.out (by omega)
 | some r =>
  rw [hq] at TC
  go_enter_defers Tryz.func34,Tryz.ntmps34
  go_wp2_with fail
  refine TC.out.mono ?_;rintro en w3 ⟨⟨q,rfl,hq3⟩,hg3⟩;have HG:=hZq hg3;have HQ:=hZq hq3
  have e1:w3.heap[w.heap.size+1]?=some (.cells #[.pointer none] 24 (0,0)):=by
   rw [HG.out.block _ (by simp) (by simp)];exact heap_at1 w _ _ _
  have c1:w3.cell? ⟨w.heap.size+1,0,none⟩=some (.pointer none):=cell_heap (i:=0) e1 rfl;have z1:w3.frozen? ⟨w.heap.size+1,0,none⟩=false:=frozen_of_row w3 (w.heap.size+1) 0 _ _ e1;have G5:=hZq (grown_cell w3 (w.heap.size+1) 0 (.pointer (some ⟨q,0,none⟩)));have T5:=hZq (HQ.out.set (i:=0) (v:=.pointer (some ⟨q,0,none⟩)) e1)
  have c5:(w3.setCell ⟨w.heap.size+1,0,none⟩ (.pointer (some ⟨q,0,none⟩))).cell? ⟨w.heap.size+1,0,none⟩=some (.pointer (some ⟨q,0,none⟩)):=by
   simp [go_sem,c1]
  clear hg3 hq3;go_wp2;refine leaves_cons (f:=61) (args:=#[.pointer (some ⟨w.heap.size,0,none⟩),.pointer (some ⟨w.heap.size+1,0,none⟩)]) (by simp) (by simp [go_sem]) ?_;refine (without_idle _ _ _).mono ?_;rintro e u' w4 ⟨rfl,rfl,rfl⟩;simp [Leaves,settle,results,Tryz.results34,go_sem,c5,WoT];exact ⟨T5.out,grown_new (gZq G2.out HG.out) G5.out (by omega)⟩
theorem clone_bty (ao:Option Addr)(n c:Nat)(zs:List Int)(w:World)(hb:Byt w ao n c zs)(hn:n<=140737488355328) :
  Calls Tryz.prog 38 #[.slice ao n c] w fun en w'=>(∃ a' c',en=.returned (.slice a' n c')/\BtyT w' a' n c' zs)/\w.grownBy w' none:=by
 obtain ⟨i0,hi,hz0,hz1,hz2⟩:=info_parts info_u8;have q22:∀ (w:World) (a:Option Addr) (n c n' c':Nat),(binOp .eql 30 (.slice a n c) (.slice none n' c')).run Tryz.prog w=.ok (.bool a.isNone) w:=fun w a n c n' c'=>Lib.run_eql_slice_nil w _ _ a n c n' c' Tryz.underlying30
 match ao,hb with
 | none,hb =>
  have hn0:n=0:=(hb.nil rfl).1;subst hn0;have hl:=hb.len;have hz:zs=[]:=List.eq_nil_of_length_eq_zero hl;subst hz;clear hb hl;go_enter Tryz.func38,Tryz.ntmps38;go_wp2;go_ret;exact ⟨⟨none,0,rfl,BtyT.nil _⟩,World.grownBy.refl _ _⟩
 | some ad,hb =>
  have HB:=hZq hb;clear hb;go_enter Tryz.func38,Tryz.ntmps38
  go_wp2_with (at_builtin;refine wpList_append_own _ rfl _ _ 30 rfl w.heap.size 5 i0 (.int .u8 0) 1 1 Tryz.underlying30 hi hz0 hz1 hz2 rfl (by decide) _ _ _ rfl (World.ownsRow_made w #[] 0 (Nat.le_refl _) (Nat.zero_le _) rfl) ad n c (zs.map (Value.int .u8)) rfl ?qc1 ?qc2 ?qc3 ?qc4 ?qc5 ?qc6 ?_)
  case qc1=>rw [List.length_map,HB.out.len,Nat.mul_one]
  case qc2=>exact (HB.out.keptN (World.grownBy_alloc w _ none)).cells ad rfl
  case qc3=>exact ints_oneCell _ _
  case qc4=>unfold maxLen;omega
  case qc5=>omega
  case qc6=>simp
  intro v' w1 hown hgrow hnil;have hown':w1.ownsRow w.heap.size 5 1 v' n (zs.map (Value.int .u8)):=by simpa using hown
  have HG:Hid (w.grownBy w1 none):=grown_new (World.grownBy_alloc w (.cells #[] 5) none) (by simpa [Value.ownBlock] using hgrow) (Nat.le_refl _);have HL:=hZq HB.out.len;clear hown hgrow hnil
  have HV:Hid (∃ a' c',v'=.slice a' n c'/\BtyT w1 a' n c' zs):=by
   rcases hown'.2 with ⟨h1,h0⟩ | ⟨g,cap,cur,hv,_⟩
   ·have hl:=HL.out
    rw [h0] at hl;have hz:zs=[]:=List.eq_nil_of_length_eq_zero hl;subst hz;subst h0;exact ⟨none,0,h1,BtyT.nil _⟩
   ·subst hv
    exact ⟨_,cap,rfl,BtyT.of_owns hown'⟩
  obtain ⟨a',c',rfl,hv⟩:=HV.out;clear hown' HV;go_wp2;go_ret;exact ⟨⟨a',c',rfl,hv⟩,HG.out⟩
theorem leaves_tmps {P:Program}{fn:Func}{t t':Array Value}{R:Ending->World->Prop}(h:results fn t=results fn t'):∀ (ds:List Deferred) (u:FrameMode) (w:World),Leaves P fn t R ds u w->Leaves P fn t' R ds u w
 | [],.returning,w,k=>by
  obtain ⟨v,h1,h2⟩:=k;exact ⟨v,h ▸ h1,h2⟩
 | [],.panicking c,w,k=>k
 | [],.run,w,k=>k
 | d::ds,u,w,k=>by
  obtain ⟨h1,fv,cap,f,args,h2,h3,h4⟩:=k;refine ⟨h1,fv,cap,f,args,h2,h3,h4.mono fun e u' w' k'=>?_⟩;cases e with
  | returned v=>exact leaves_tmps h ds _ _ k'
  | panicked c=>exact leaves_tmps h ds _ _ k'
  | outgrown=>exact k'
theorem with_put (a:Act)(k:Nat)(h6:k≠6)(h7:k≠7)(v:Value):results Tryz.f32 (a.put (some k) v).tmps=results Tryz.f32 a.tmps:=by
 simp [results,Tryz.results32,Act.put,Array.getD_eq_getD_getElem?,Array.getElem?_setIfInBounds,h6,h7]
def WiT (R:Option (Option TrT))(p:Nat)(en:Ending)(w':World):Prop:=match R with
 | none=>en=.returned (.tuple #[.pointer (some ⟨p,0,none⟩),.int .i64 0])
 | some t=>∃ q,en=.returned (.tuple #[.pointer (some ⟨q,0,none⟩),.int .i64 0])/\TreeT w' q t
theorem es_one3 {W:World}{p:Nat}{t:TypeId}{x y z:Value}(h:W.heap[p]?=some (.cells #[x,y,z] t (0,0)))(hx:x.oneCell'=true)(hy:y.oneCell'=true)(hz:z.oneCell'=true):EsT W t (some ⟨p,0,none⟩) 1 1 3 [[x,y,z]]:=by
 refine ⟨rfl,Nat.le_refl _,by omega,(fun e=>by cases e),(fun x hx=>by cases hx;exact ⟨_,_,rfl⟩),by simp,by simp [hx,hy,hz],fun i e he=>⟨_,0,rfl,⟨_,_,h⟩,fun f u hu=>?_⟩⟩
 match i,he with
 | 0,he =>
  simp only [List.getElem?_cons_zero,Option.some.injEq] at he;subst he
  match f,hu with
  | 0,hu =>
   simp only [List.getElem?_cons_zero,Option.some.injEq] at hu;subst hu;exact cell_heap h rfl
  | 1,hu =>
   simp only [List.getElem?_cons_zero,List.getElem?_cons_succ,Option.some.injEq] at hu;subst hu;exact cell_heap h rfl
  | 2,hu =>
   simp only [List.getElem?_cons_zero,List.getElem?_cons_succ,Option.some.injEq] at hu;subst hu;exact cell_heap h rfl
  | f+3,hu=>simp at hu
 | i+1,he=>simp at he
theorem with_bad (p:Nat)(ka:Option Addr)(kn kc:Nat)(va:Option Addr)(vn vc:Nat)(w:World)(hv:¬ ((1<=kn/\kn<=255)/\vn<=262144)) :
  Calls Tryz.prog 32 #[.pointer (some ⟨p,0,none⟩),.slice ka kn kc,.slice va vn vc] w fun en w'=>en=.returned (.tuple #[.pointer (some ⟨p,0,none⟩),.int .i64 41])/\w.grownBy w' none:=by
 cases hva:valid kn with
 | false =>
  go_enter_defers Tryz.func32,Tryz.ntmps32
  go_wp2_with fail
  refine (valid_any ka kn kc _).mono ?_;rintro en w1 ⟨rfl,rfl⟩;rw [hva];go_wp2;simp [bodyPostD,Leaves,results,Tryz.results32,go_sem];exact grown_al (World.grownBy_alloc w _ none) _
 | true =>
  have hvn:(262144:Int)<vn:=by
   simp [valid] at hva;omega
  go_enter_defers Tryz.func32,Tryz.ntmps32
  go_wp2_with fail
  refine (valid_any ka kn kc _).mono ?_;rintro en w1 ⟨rfl,rfl⟩;rw [hva];go_wp2;simp [bodyPostD,Leaves,results,Tryz.results32,go_sem];exact grown_al (World.grownBy_alloc w _ none) _
theorem with_any (hC:∀ n,ChangedC n)(t:Option TrT)(p:Nat)(ka:Option Addr)(kn kc:Nat)(key:List Int)(va:Option Addr)(vn vc:Nat)(val:List Int)(w:World)(ht:TreeT w p t)(ox:OkO t)(hk:Byt w ka kn kc key)(bt:Bt key)(hv:Byt w va vn vc val)(h1:1<=kn)(h2:kn<=255)(h3:vn<=262144)(hn:NowT key [⟨key,val,[]⟩]) :
  Calls Tryz.prog 32 #[.pointer (some ⟨p,0,none⟩),.slice ka kn kc,.slice va vn vc] w fun en w'=>WiT (treeT t key [⟨key,val,[]⟩]) p en w'/\w.grownBy w' none:=by
 have hmf:∀ (fn:Fn) (first cap:Array Value) (w:World),(Instr.makeFunc fn first cap).run Tryz.prog w=.ok (.func fn first cap) w:=fun _ _ _ _=>rfl
 have G2:=hZq (grown_al (World.grownBy_alloc w (.cells #[.pointer (some ⟨p,0,none⟩)] 24) none) (.cells #[.pointer none] 24));have HT:=hZq ht;have HK:=hZq hk;have HV:=hZq hv;have hva:valid kn=true:=by simp [valid,h1,h2]
 clear ht hk hv
 go_enter_defers Tryz.func32,Tryz.ntmps32
 go_wp2_with fail
 refine (valid_any ka kn kc _).mono ?_;rintro en w1 ⟨rfl,rfl⟩;rw [hva];go_upto_region 4 with fail
 have e0:((w.alloc (.cells #[.pointer (some ⟨p,0,none⟩)] 24)).alloc (.cells #[.pointer none] 24)).heap[w.heap.size]?=some (.cells #[.pointer (some ⟨p,0,none⟩)] 24 (0,0)):=heap_old (heap_at0 w _ _);have e1:((w.alloc (.cells #[.pointer (some ⟨p,0,none⟩)] 24)).alloc (.cells #[.pointer none] 24)).heap[w.heap.size+1]?=some (.cells #[.pointer none] 24 (0,0)):=heap_at1 w _ _ _;refine wp_region_held_drew (S:=(fun w'=>w'.cell? ⟨w.heap.size,0,none⟩=some (.pointer (some ⟨p,0,none⟩)))) (by kernel_rfl) ?_ (fun hHeld=>?_)
 ·exact keep1 (cell_heap (i:=0) e0 rfl) ((Qt.refl _).drew.grown none)
 refine wpAnyH_take (i:=0) (oi:={ dst:=some 18,op:=Op.load 24 (Operand.tmp 3),type:=24,pos:= "tree.go:41",after:=#[],guard:=none }) (v:=?_) rfl (by kernel_rfl) (by kernel_rfl) (by kernel_rfl) (fun c a w h=>leaves_tmps (with_put a 18 (by decide) (by decide) _) _ _ _ h) (Or.inl ⟨by rfl,?_⟩) (by assumption) ?_
 rotate_left
 ·intro w hSw;(try dsimp only at hSw);go_simp;(try with_reducible rfl)
 simp only [Act.put,List.setIfInBounds_toArray,List.set_cons_zero,List.set_cons_succ];refine wpAnyH_take (i:=1) (oi:={ dst:=some 19,op:=Op.move (Operand.tmp 1),type:=30,pos:= "tree.go:41",after:=#[],guard:=none }) (v:=?_) rfl (by kernel_rfl) (by kernel_rfl) (by kernel_rfl) (fun c a w h=>leaves_tmps (with_put a 19 (by decide) (by decide) _) _ _ _ h) (Or.inl ⟨by rfl,?_⟩) (by assumption) ?_
 rotate_left
 ·intro w hSw;(try dsimp only at hSw);go_simp;(try with_reducible rfl)
 simp only [Act.put,List.setIfInBounds_toArray,List.set_cons_zero,List.set_cons_succ];refine wpAnyH_take (i:=2) (oi:={ dst:=some 20,op:=Op.move (Operand.tmp 1),type:=30,pos:= "tree.go:41",after:=#[],guard:=none }) (v:=?_) rfl (by kernel_rfl) (by kernel_rfl) (by kernel_rfl) (fun c a w h=>leaves_tmps (with_put a 20 (by decide) (by decide) _) _ _ _ h) (Or.inl ⟨by rfl,?_⟩) (by assumption) ?_
 rotate_left
 ·intro w hSw;(try dsimp only at hSw);go_simp;(try with_reducible rfl)
 simp only [Act.put,List.setIfInBounds_toArray,List.set_cons_zero,List.set_cons_succ];refine wpAnyH_take (i:=4) (oi:={ dst:=some 22,op:=Op.move (Operand.tmp 2),type:=30,pos:= "tree.go:41",after:=#[],guard:=none }) (v:=?_) rfl (by kernel_rfl) (by kernel_rfl) (by kernel_rfl) (fun c a w h=>leaves_tmps (with_put a 22 (by decide) (by decide) _) _ _ _ h) (Or.inl ⟨by rfl,?_⟩) (by assumption) ?_
 rotate_left
 ·intro w hSw;(try dsimp only at hSw);go_simp;(try with_reducible rfl)
 simp only [Act.put,List.setIfInBounds_toArray,List.set_cons_zero,List.set_cons_succ];have GD:=hZq (grown_dw G2.out);refine wpAnyH_ready (rs:=[3]) (by kernel_rfl) (by simp) ?_;refine AllReadyH.cons (o:={ dst:=some 21,op:=Op.call { callee:=Callee.value (Operand.func 38),args:=#[Operand.tmp 20],argTypes:=#[30] },type:=30,pos:= "tree.go:41",after:=#[{ on:=2,ground:=Ground.data }],guard:=none }) rfl (fun K hK=>?_) AllReadyH.nil
 go_simp
 (with_reducible refine (clone_bty ka kn kc key _ (HK.out.keptN GD.out) (by omega)).mono ?_)
 rintro en w3 ⟨⟨a3,c3,rfl,hb3⟩,hg3⟩;have H3:=hZq hg3;have B3:=hZq hb3;clear hg3 hb3;refine hK.out _ _ (keep1 hHeld H3.out) (fun hHeld=>?_);clear hK K;try simp only [Act.put,List.setIfInBounds_toArray,List.set_cons_zero,List.set_cons_succ]
 refine wpAnyH_ready (rs:=[5]) (by kernel_rfl) (by simp) ?_;refine AllReadyH.cons (o:={ dst:=some 23,op:=Op.call { callee:=Callee.value (Operand.func 38),args:=#[Operand.tmp 22],argTypes:=#[30] },type:=30,pos:= "tree.go:41",after:=#[{ on:=4,ground:=Ground.data },{ on:=3,ground:=Ground.chain }],guard:=none }) rfl (fun K hK=>?_) AllReadyH.nil
 go_simp
 (with_reducible refine (clone_bty va vn vc val _ (HV.out.keptN (gZq GD.out H3.out)) (by omega)).mono ?_)
 rintro en w4 ⟨⟨a4,c4,rfl,hb4⟩,hg4⟩;have H4:=hZq hg4;have B4:=hZq hb4;clear hg4 hb4;refine hK.out _ _ (keep1 hHeld H4.out) (fun hHeld=>?_);clear hK K;try simp only [Act.put,List.setIfInBounds_toArray,List.set_cons_zero,List.set_cons_succ]
 refine wpAnyH_take (i:=6) (oi:={ dst:=some 24,op:=Op.build 108 #[(0,Operand.tmp 21),(1,Operand.tmp 23)],type:=108,pos:= "tree.go:41",after:=#[{ on:=3,ground:=Ground.data },{ on:=5,ground:=Ground.data }],guard:=none }) (v:=?_) rfl (by kernel_rfl) (by kernel_rfl) (by kernel_rfl) (fun c a w h=>leaves_tmps (with_put a 24 (by decide) (by decide) _) _ _ _ h) (Or.inl ⟨by rfl,?_⟩) (by assumption) ?_
 rotate_left
 ·intro w hSw;(try dsimp only at hSw);go_simp;(try with_reducible rfl)
 simp only [Act.put,List.setIfInBounds_toArray,List.set_cons_zero,List.set_cons_succ];refine wpAnyH_ready (rs:=[7]) (by kernel_rfl) (by simp) ?_;refine AllReadyH.cons (o:={ dst:=some 25,op:=Op.buildSlice 109 1 #[(0,Operand.tmp 24)],type:=109,pos:= "tree.go:41",after:=#[{ on:=6,ground:=Ground.data }],guard:=none }) rfl (fun K hK=>?_) AllReadyH.nil
 go_simp
 have G5:=hZq (grown_al (gZq GD.out (gZq H3.out H4.out)) (.cells #[.slice a3 kn c3,.slice a4 vn c4,.slice none 0 0] 108));refine hK.out _ _ (keep1 hHeld (World.grownBy_alloc _ _ none)) (fun hHeld=>?_);clear hK K;try simp only [Act.put,List.setIfInBounds_toArray,List.set_cons_zero,List.set_cons_succ]
 have P5:=hZq (show PsT (w4.alloc (.cells #[.slice a3 kn c3,.slice a4 vn c4,.slice none 0 0] 108)) (some ⟨w4.heap.size,0,none⟩) 1 1 [⟨key,val,[]⟩] from
  ⟨_,es_one3 (heap_at0 w4 _ _) rfl rfl rfl,ElyT.one ⟨_,_,_,_,_,_,_,_,_,rfl,⟨B3.out.kept (FrT.of (grown_al H4.out _)),B4.out.kept (FrT.of (World.grownBy_alloc w4 _ none)),EsT.nul _ _ _,fun _=>rfl⟩⟩⟩)
 refine wpAnyH_ready (rs:=[8]) (by kernel_rfl) (by simp) ?_;refine AllReadyH.cons (o:={ dst:=some 26,op:=Op.call { callee:=Callee.value (Operand.func 60),args:=#[Operand.tmp 18,Operand.tmp 19,Operand.tmp 25],argTypes:=#[24,30,109] },type:=24,pos:= "tree.go:41",after:=#[{ on:=0,ground:=Ground.data },{ on:=1,ground:=Ground.data },{ on:=7,ground:=Ground.data },{ on:=5,ground:=Ground.chain }],guard:=none }) rfl (fun K hK=>?_) AllReadyH.nil
 go_simp
 (with_reducible refine (tchanged_any hC t p ka kn kc key (some ⟨w4.heap.size,0,none⟩) 1 1 [⟨key,val,[]⟩] _ (HT.out.kept (FrT.of G5.out)) ox (HK.out.keptN G5.out) bt P5.out hn).mono ?_)
 rintro en w6 ⟨h6,hg6⟩;have HG:=hZq (show ((w.alloc (.cells #[.pointer (some ⟨p,0,none⟩)] 24)).alloc (.cells #[.pointer none] 24)).grownBy w6 none from gZq ((Qt.refl _).drew.grown none) (gZq H3.out (gZq (grown_al H4.out _) hg6)));have c0:w6.cell? ⟨w.heap.size,0,none⟩=some (.pointer (some ⟨p,0,none⟩)):=keep1 (cell_heap (i:=0) e0 rfl) HG.out;have e6:w6.heap[w.heap.size+1]?=some (.cells #[.pointer none] 24 (0,0)):=heap_kept e1 HG.out;have c1:w6.cell? ⟨w.heap.size+1,0,none⟩=some (.pointer none):=cell_heap (i:=0) e6 rfl;have z1:w6.frozen? ⟨w.heap.size+1,0,none⟩=false:=frozen_of_row w6 (w.heap.size+1) 0 _ _ e6;cases hq:treeT t key [⟨key,val,[]⟩] with
 | none =>
  rw [hq] at h6;have h7:en=.panicked [{ v:=.iface 117 (.agg #[]),recovered:=false }]:=h6;subst h7;clear hK h6;refine leaves_cons (f:=58) (args:=#[.pointer (some ⟨w.heap.size,0,none⟩),.pointer (some ⟨w.heap.size+1,0,none⟩)]) (by simp) (by simp [go_sem]) ?_;refine (with_catch _ _ _ _ w6 c0 c1 z1).mono ?_;rintro e u' w7 ⟨rfl,rfl,rfl⟩;have G7:=hZq (grown_cell w6 (w.heap.size+1) 0 (.pointer (some ⟨p,0,none⟩)))
  have c5:(w6.setCell ⟨w.heap.size+1,0,none⟩ (.pointer (some ⟨p,0,none⟩))).cell? ⟨w.heap.size+1,0,none⟩=some (.pointer (some ⟨p,0,none⟩)):=by
   simp [go_sem,c1]
  simp [Leaves,settle,results,Tryz.results32,go_sem,c5,hq,WiT];exact grown_new (gZq G2.out HG.out) G7.out (by omega)
 | some r =>
  rw [hq] at h6;obtain ⟨q,rfl,hq3⟩:=h6;have HQ:=hZq hq3;have G7:=hZq (grown_cell w6 (w.heap.size+1) 0 (.pointer (some ⟨q,0,none⟩)));have T7:=hZq (HQ.out.set (i:=0) (v:=.pointer (some ⟨q,0,none⟩)) e6)
  have c5:(w6.setCell ⟨w.heap.size+1,0,none⟩ (.pointer (some ⟨q,0,none⟩))).cell? ⟨w.heap.size+1,0,none⟩=some (.pointer (some ⟨q,0,none⟩)):=by
   simp [go_sem,c1]
  clear hq3 hg6;refine hK.out _ _ (c0) (fun hHeld=>?_);clear hK K;try simp only [Act.put,List.setIfInBounds_toArray,List.set_cons_zero,List.set_cons_succ]
  refine wpAnyH_ready (rs:=[9]) (by kernel_rfl) (by simp) ?_;refine AllReadyH.cons (o:={ dst:=none,op:=Op.store 24 (Operand.tmp 6) (Operand.tmp 26),type:=0,pos:= "tree.go:41",after:=#[{ on:=8,ground:=Ground.data },{ on:=8,ground:=Ground.chain },{ on:=0,ground:=Ground.phase },{ on:=1,ground:=Ground.phase },{ on:=2,ground:=Ground.phase },{ on:=3,ground:=Ground.phase },{ on:=4,ground:=Ground.phase },{ on:=5,ground:=Ground.phase },{ on:=6,ground:=Ground.phase },{ on:=7,ground:=Ground.phase },{ on:=8,ground:=Ground.phase }],guard:=none }) rfl (fun K hK=>?_) AllReadyH.nil
  go_simp
  refine hK.out _ _ (?sk) (fun hHeld=>?_);clear hK K;try simp only [Act.put,List.setIfInBounds_toArray,List.set_cons_zero,List.set_cons_succ]
  case sk=>exact (by rw [World.cell?_of_block (heap_setCell_other w6 _ _ _ (by simp))];exact c0)
  refine wpAnyH_ready (rs:=[10]) (by kernel_rfl) (by simp) ?_;refine AllReadyH.cons (o:={ dst:=some 7,op:=Op.assign (Operand.const (Value.int IntKind.i64 0)),type:=62,pos:= "tree.go:41",after:=#[{ on:=9,ground:=Ground.chain },{ on:=0,ground:=Ground.phase },{ on:=1,ground:=Ground.phase },{ on:=2,ground:=Ground.phase },{ on:=3,ground:=Ground.phase },{ on:=4,ground:=Ground.phase },{ on:=5,ground:=Ground.phase },{ on:=6,ground:=Ground.phase },{ on:=7,ground:=Ground.phase },{ on:=8,ground:=Ground.phase },{ on:=9,ground:=Ground.phase }],guard:=none }) rfl (fun K hK=>?_) AllReadyH.nil
  go_simp
  refine hK.out _ _ hHeld (fun hHeld=>?_);clear hK K;try simp only [Act.put,List.setIfInBounds_toArray,List.set_cons_zero,List.set_cons_succ]
  refine wpAnyH_done (by kernel_rfl) ?_ _;go_wp2;refine leaves_cons (f:=58) (args:=#[.pointer (some ⟨w.heap.size,0,none⟩),.pointer (some ⟨w.heap.size+1,0,none⟩)]) (by simp) (by simp [go_sem]) ?_;refine (with_idle _ _ _).mono ?_;rintro e u' w7 ⟨rfl,rfl,rfl⟩;simp [Leaves,settle,results,Tryz.results32,go_sem,c5,hq,WiT];exact ⟨T7.out,grown_new (gZq G2.out HG.out) G7.out (by omega)⟩
def getO (t:Option TrT)(key:List Int):Option (List Int):=match t with
 | none=>none
 | some t=>getT t.lv t.root key
theorem get_small:∀ (n:Nat) (x:NdT n) (key v:List Int),OkT n x->getT n x key=some v->v.length<=262144
 | 0,x,key,v,hx,h=>by
  rw [get_look 0 x key hx] at h;unfold lookT at h;rw [Option.map_eq_some_iff] at h;obtain ⟨q,h1,rfl⟩:=h;have hq:q∈LfT.ps x:=(List.mem_filter.1 (List.mem_of_mem_head? h1)).1;exact (hx.2.2.2 q hq).v1
 | n+1,x,key,v,hx,h=>by
  rw [getT] at h
  split at h
  ·cases h
  ·rename_i k hk
   exact get_small n k key v (hx.2.1 k (List.mem_of_getElem? hk)) h
theorem tget_nil (p:Nat)(ka:Option Addr)(kn kc:Nat)(w:World)(ht:TreeT w p none) :
  Calls Tryz.prog 11 #[.pointer (some ⟨p,0,none⟩),.slice ka kn kc] w fun en w'=>en=.returned (.tuple #[.slice none 0 0,.bool false])/\w=w':=by
 obtain ⟨a,m,c,sa,sm,sc,hp,hm⟩:=ht;have hm0:m=0:=hm;subst hm0;have k1:=cell_heap (i:=0) hp rfl;clear hp hm;go_enter Tryz.func11,Tryz.ntmps11
 go_wp2_with fail
 go_loopw [16] (fun si wr=>si=.int .i64 0/\w=wr) (fun _ _=>0)
 case atStart=>exact ⟨rfl,rfl⟩
 case round =>
  obtain ⟨rfl,rfl⟩:=hrel;go_wp2
  go_ret2
  exact ⟨rfl,rfl⟩
theorem tget_L (p:Nat)(x:NdT 0)(ka:Option Addr)(kn kc:Nat)(key:List Int)(w:World)(ht:TreeT w p (some ⟨0,x⟩))(ox:OkT 0 x)(hk:Byt w ka kn kc key)(bt:Bt key) :
  Calls Tryz.prog 11 #[.pointer (some ⟨p,0,none⟩),.slice ka kn kc] w fun en w'=>(∃ ao nn cc,en=.returned (.tuple #[.slice ao nn cc,.bool (getT 0 x key).isSome])/\BtyT w' ao nn cc ((getT 0 x key).getD []))/\w.grownBy w' none:=by
 obtain ⟨a,m,c,sa,sm,sc,hp,htop⟩:=ht;have hns:NsT 0 w a m c [x]:=htop;have ln:=hns.len;have hm:m=1:=by simpa using ln.symm
 subst hm;have k1:=cell_heap (i:=0) hp rfl;obtain ⟨g,off,u,rfl,c1,hu⟩:=hns.node (i:=0) (x:=x) rfl;rw [Nat.add_zero] at c1;obtain ⟨b1,rfl⟩:=hu.atL;have VL:=hZq (fun (v:List Int) (h:getT 0 x key=some v)=>get_small 0 x key v ox h);have KG:Hid (∀ (W:World),w.grownBy W none->Calls Tryz.prog 146 #[.pointer (some ⟨b1,0,none⟩),.slice ka kn kc] W fun en w'=>(∃ ao n' c,en=.returned (.tuple #[.slice ao n' c,.bool (getT 0 x key).isSome])/\BtyT w' ao n' c ((getT 0 x key).getD []))/\W.grownBy w' none):=fun W hg=>getC 0 b1 x ka kn kc key W (hu.kept _ (FrT.of hg)) ox (hk.keptN hg) bt
 have hme:=mL_get;clear hp hk htop hns hu;cases hq:getT 0 x key with
 | none =>
  rw [hq] at KG;clear VL hq;go_enter Tryz.func11,Tryz.ntmps11
  go_wp2_with fail
  go_loopw [16] (fun si wr=>∃ k:Nat,k<=1/\si=.int .i64 k/\w.grownBy wr none) (fun si _=>1 - (intOf si).toNat)
  case atStart=>exact ⟨0,by omega,rfl,World.grownBy.refl _ _⟩
  case round =>
   obtain ⟨k,hk1,rfl,hg⟩:=hrel;have HG:=hZq hg;have d1:=hg.cell c1 (by simp);clear hg
   by_cases hk0:k=0
   ·subst hk0
    go_wp2_with fail
    refine (KG.out wr HG.out).mono ?_;rintro en w5 ⟨⟨ao,n',c',rfl,hv⟩,hg5⟩;clear hv;go_wp2;exact ⟨⟨1,by omega,by go_num,gZq HG.out hg5⟩,by simp [intOf]⟩
   ·have hk2:k=1:=by omega
    subst hk2;go_wp2
    go_ret2
    exact ⟨⟨none,0,0,rfl,BtyT.nil _⟩,HG.out⟩
 | some v =>
  have vl:=VL.out v hq;rw [hq] at KG;clear VL hq;go_enter Tryz.func11,Tryz.ntmps11
  go_wp2_with fail
  go_loopw [16] (fun si wr=>si=.int .i64 0/\w=wr) (fun _ _=>0)
  case atStart=>exact ⟨rfl,rfl⟩
  case round =>
   obtain ⟨rfl,rfl⟩:=hrel
   go_wp2_with fail
   refine (KG.out w (World.grownBy.refl _ _)).mono ?_;rintro en w5 ⟨⟨ao,n',c',rfl,hv⟩,hg5⟩;have hvl:=hv.b.len;have HV:=hZq hv;have G5:=hZq hg5;clear hv hg5
   go_wp2_with fail
   refine (clone_bty ao n' c' v w5 HV.out.b (by have:v.length=n':=hvl;omega)).mono ?_;rintro en w6 ⟨⟨a6,c6,rfl,h6⟩,hg6⟩;have H6:=hZq h6;have G6:=hZq (gZq G5.out hg6);clear h6 hg6;go_wp2
   go_ret2
   exact ⟨⟨_,_,_,rfl,H6.out⟩,G6.out⟩
theorem tget_B {n:Nat}(p:Nat)(x:NdT (n+1))(ka:Option Addr)(kn kc:Nat)(key:List Int)(w:World)(ht:TreeT w p (some ⟨(n+1),x⟩))(ox:OkT (n+1) x)(hk:Byt w ka kn kc key)(bt:Bt key) :
  Calls Tryz.prog 11 #[.pointer (some ⟨p,0,none⟩),.slice ka kn kc] w fun en w'=>(∃ ao nn cc,en=.returned (.tuple #[.slice ao nn cc,.bool (getT (n+1) x key).isSome])/\BtyT w' ao nn cc ((getT (n+1) x key).getD []))/\w.grownBy w' none:=by
 obtain ⟨a,m,c,sa,sm,sc,hp,htop⟩:=ht;have hns:NsT (n+1) w a m c [x]:=htop;have ln:=hns.len;have hm:m=1:=by simpa using ln.symm
 subst hm;have k1:=cell_heap (i:=0) hp rfl;obtain ⟨g,off,u,rfl,c1,hu⟩:=hns.node (i:=0) (x:=x) rfl;rw [Nat.add_zero] at c1;obtain ⟨b1,rfl⟩:=hu.atB;have VL:=hZq (fun (v:List Int) (h:getT (n+1) x key=some v)=>get_small (n+1) x key v ox h);have KG:Hid (∀ (W:World),w.grownBy W none->Calls Tryz.prog 158 #[.pointer (some ⟨b1,0,none⟩),.slice ka kn kc] W fun en w'=>(∃ ao n' c,en=.returned (.tuple #[.slice ao n' c,.bool (getT (n+1) x key).isSome])/\BtyT w' ao n' c ((getT (n+1) x key).getD []))/\W.grownBy w' none):=fun W hg=>getC (n+1) b1 x ka kn kc key W (hu.kept _ (FrT.of hg)) ox (hk.keptN hg) bt
 have hme:=mB_get;clear hp hk htop hns hu;cases hq:getT (n+1) x key with
 | none =>
  rw [hq] at KG;clear VL hq;go_enter Tryz.func11,Tryz.ntmps11
  go_wp2_with fail
  go_loopw [16] (fun si wr=>∃ k:Nat,k<=1/\si=.int .i64 k/\w.grownBy wr none) (fun si _=>1 - (intOf si).toNat)
  case atStart=>exact ⟨0,by omega,rfl,World.grownBy.refl _ _⟩
  case round =>
   obtain ⟨k,hk1,rfl,hg⟩:=hrel;have HG:=hZq hg;have d1:=hg.cell c1 (by simp);clear hg
   by_cases hk0:k=0
   ·subst hk0
    go_wp2_with fail
    refine (KG.out wr HG.out).mono ?_;rintro en w5 ⟨⟨ao,n',c',rfl,hv⟩,hg5⟩;clear hv;go_wp2;exact ⟨⟨1,by omega,by go_num,gZq HG.out hg5⟩,by simp [intOf]⟩
   ·have hk2:k=1:=by omega
    subst hk2;go_wp2
    go_ret2
    exact ⟨⟨none,0,0,rfl,BtyT.nil _⟩,HG.out⟩
 | some v =>
  have vl:=VL.out v hq;rw [hq] at KG;clear VL hq;go_enter Tryz.func11,Tryz.ntmps11
  go_wp2_with fail
  go_loopw [16] (fun si wr=>si=.int .i64 0/\w=wr) (fun _ _=>0)
  case atStart=>exact ⟨rfl,rfl⟩
  case round =>
   obtain ⟨rfl,rfl⟩:=hrel
   go_wp2_with fail
   refine (KG.out w (World.grownBy.refl _ _)).mono ?_;rintro en w5 ⟨⟨ao,n',c',rfl,hv⟩,hg5⟩;have hvl:=hv.b.len;have HV:=hZq hv;have G5:=hZq hg5;clear hv hg5
   go_wp2_with fail
   refine (clone_bty ao n' c' v w5 HV.out.b (by have:v.length=n':=hvl;omega)).mono ?_;rintro en w6 ⟨⟨a6,c6,rfl,h6⟩,hg6⟩;have H6:=hZq h6;have G6:=hZq (gZq G5.out hg6);clear h6 hg6;go_wp2
   go_ret2
   exact ⟨⟨_,_,_,rfl,H6.out⟩,G6.out⟩
theorem tget_any (t:Option TrT)(p:Nat)(ka:Option Addr)(kn kc:Nat)(key:List Int)(w:World)(ht:TreeT w p t)(ox:OkO t)(hk:Byt w ka kn kc key)(bt:Bt key) :
  Calls Tryz.prog 11 #[.pointer (some ⟨p,0,none⟩),.slice ka kn kc] w fun en w'=>(∃ ao nn cc,en=.returned (.tuple #[.slice ao nn cc,.bool (getO t key).isSome])/\BtyT w' ao nn cc ((getO t key).getD []))/\w.grownBy w' none:=by
 match t,ht,ox with
 | none,ht,_ =>
  refine (tget_nil p ka kn kc w ht).mono ?_;rintro en w' ⟨rfl,rfl⟩;exact ⟨⟨none,0,0,rfl,BtyT.nil _⟩,World.grownBy.refl _ _⟩
 | some ⟨0,x⟩,ht,ox=>exact tget_L p x ka kn kc key w ht ox hk bt
 | some ⟨n+1,x⟩,ht,ox=>exact tget_B p x ka kn kc key w ht ox hk bt
theorem replaced_any {n:Nat}(r b:RwT (NdT n))(i:Nat)(hsl:r.ns.length=r.ss.length+1)(hi:i<r.ns.length)(a:Option Addr)(m c:Nat)(sa:Option Addr)(sm sc:Nat)(ba:Option Addr)(bm bc:Nat)(bsa:Option Addr)(bsm bsc:Nat)(w:World)(hr:RowT n w a m c sa sm sc r)(hb:RowT n w ba bm bc bsa bsm bsc b)(hm:m<=5000)(hsm:sm<=5000)(hbm:bm<=5000)(hbs:bsm<=5000) :
  Calls Tryz.prog 167 #[.agg #[.slice a m c,.slice sa sm sc],.int .i64 i,.agg #[.slice ba bm bc,.slice bsa bsm bsc]] w fun en w'=>(∃ a m c sa sm sc,en=.returned (.agg #[.slice a m c,.slice sa sm sc])/\RowT n w' a m c sa sm sc (replT r i b))/\w.grownBy w' none:=by
 by_cases h0:b.ns.length=0
 ·refine (replaced_none r b i (i - 1) (min (i - 1+1) r.ss.length) (by omega) (by omega) hi (by rw [if_pos h0]) a m c sa sm sc ba bm bc bsa bsm bsc w hr hb hm hsm hbm hbs h0).mono ?_
  rintro en w' ⟨⟨a',m',c',sa',sm',sc',h1,h2⟩,h3⟩;refine ⟨⟨a',m',c',sa',sm',sc',h1,?_⟩,h3⟩;unfold replT;rw [if_pos h0];exact h2
 ·refine (replaced_some r b i i i (by omega) (by omega) hi (by rw [if_neg h0]) a m c sa sm sc ba bm bc bsa bsm bsc w hr hb hm hsm hbm hbs h0).mono ?_
  rintro en w' ⟨⟨a',m',c',sa',sm',sc',h1,h2⟩,h3⟩;refine ⟨⟨a',m',c',sa',sm',sc',h1,?_⟩,h3⟩;unfold replT;rw [if_neg h0];exact h2
theorem changedC:∀ n,ChangedC n
 | 0=>changedC0
 | 1=>changedC_L (all_levels 0).2.2 (fun r b i=>replaced_any r b i) changedC0
 | n+1+1=>changedC_B (all_levels (n+1)).2.2 (fun r b i=>replaced_any r b i) (changedC (n+1))
end Go.Proofs.YtepcgckapoljpaaGreat
