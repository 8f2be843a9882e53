import Derived.Test.YteaahinjcfjngaaGreatQ40
import Derived.Test.YteaahinjcfjngaaGreatQ39
set_option maxRecDepth 100000
set_option maxHeartbeats 8000000
namespace Go.Proofs.YteaahinjcfjngaaGreat
open Go.RowKit Go.Maps Go.Sort Go.Shelf
theorem fti22 {r:Nat}(h:r<infF)(hb:valF r / 2 ^ 1074<9223372036854775808):floatToIntVal .f64 r .i64=some ((valF r / 2 ^ 1074:Nat):Int):=by
 unfold floatToIntVal;rw [toInt_rung h];generalize valF r / 2 ^ 1074=z at *;simp only;rw [if_pos];constructor
 ·show (-9223372036854775808:Int)<=_
  omega
 ·show _<=(9223372036854775807:Int)
  omega
theorem fti_neg:floatToIntVal .f64 negF .i64=some 0:=by
 unfold floatToIntVal;rw [neg_int]
 rfl
theorem neg_one:¬ negF<=oneF:=by decide +kernel
theorem pp_neg {L:Nat}(hL:L<2 ^ 53):ppW negF L=negF:=by
 unfold ppW;rw [neg_mul (in_lt hL)]
 rfl
theorem ip_neg (L:Nat):ipW negF L=0:=if_neg neg_one
theorem in_zero:inF 0=0:=by decide +kernel
theorem ff_neg {L:Nat}(hL:L<2 ^ 53):ffW negF L=negF:=by
 unfold ffW;rw [pp_neg hL,ip_neg,in_zero,neg_sub]
 rfl
theorem gg_neg {L d:Nat}(hL:L<2 ^ 53)(hd:d<2 ^ 53):ggW negF L d=negF:=by
 unfold ggW;rw [ff_neg hL,neg_mul (in_lt hd)]
 rfl
theorem hh_neg {L d s:Nat}(hL:L<2 ^ 53)(hd:d<2 ^ 53)(hs:s<2 ^ 53):hhW negF L d s=inF s:=by
 unfold hhW;rw [gg_neg hL hd,add_neg (in_lt hs)]
 rfl
structure BtF (q L:Nat):Prop where
 m:Ieee.double.mul q (inF L)=some (ppW q L)
 i:floatToIntVal .f64 (ppW q L) .i64=some ((ipW q L:Nat):Int)
 l:ipW q L<=L
 s:Ieee.double.sub (ppW q L) (inF (ipW q L))=some (ffW q L)
 g:∀ d,d<100000->Ieee.double.mul (ffW q L) (inF d)=some (ggW q L d)
 h:∀ d s,d<100000->s<100000->Ieee.double.add (inF s) (ggW q L d)=some (hhW q L d s)
theorem btf {q L:Nat}(hq:ShF q)(hL:L<=100000):BtF q L:=by
 have hL2:L<2 ^ 53:=Nat.lt_of_le_of_lt hL (by decide);rcases hq with hq | rfl
 ·obtain ⟨h1,h2,h3,h4,h5⟩:=pp_some hq hL2
  have e:valF (ppW q L) / 2 ^ 1074=ipW q L:=by
   unfold ipW;rw [if_pos hq,uF]
  refine ⟨h1,?_,h3,(ff_some hq hL2).1,fun d hd=>(gg_some hq hL2 (Nat.lt_trans hd (by decide))).1,fun d s hd hs=>(hh_some hq hL2 (Nat.lt_trans hd (by decide)) (Nat.lt_trans hs (by decide))).1⟩;rw [fti22 (Nat.lt_of_le_of_lt h2 (in_lt hL2)) (by rw [e];omega),e]
 ·refine ⟨by rw [pp_neg hL2];exact neg_mul (in_lt hL2),by rw [pp_neg hL2,ip_neg];exact fti_neg,by rw [ip_neg];exact Nat.zero_le _,?_,fun d hd=>?_,fun d s hd hs=>?_⟩
  ·rw [pp_neg hL2,ip_neg,in_zero,ff_neg hL2]
   exact neg_sub
  ·rw [ff_neg hL2,gg_neg hL2 (Nat.lt_trans hd (by decide))]
   exact neg_mul (in_lt (Nat.lt_trans hd (by decide)))
  ·rw [gg_neg hL2 (Nat.lt_trans hd (by decide)),hh_neg hL2 (Nat.lt_trans hd (by decide)) (Nat.lt_trans hs (by decide))]
   exact add_neg (in_lt (Nat.lt_trans hs (by decide)))
theorem qq_neg {S:Nat->Nat}{L:Nat}(hL:L<=100000)(hm:∀ a b,a<=b->b<=L->S a<=S b)(hb:S L<100000):qqW S negF L=inF (S 0):=by
 have hL2:L<2 ^ 53:=Nat.lt_of_le_of_lt hL (by decide);unfold qqW;rw [ip_neg]
 by_cases e:0=L
 ·rw [if_pos e,<- e]
 ·rw [if_neg e]
  have h1:=hm 0 (0+1) (by omega) (by omega);have h2:=hm (0+1) L (by omega) (Nat.le_refl _);exact hh_neg hL2 (Nat.lt_of_le_of_lt (show S (0+1) - S 0<=100000 by omega) (by decide)) (Nat.lt_of_le_of_lt (show S 0<=100000 by omega) (by decide))
theorem conv_int22 (W:World){b:Nat}{z:Int}(h:floatToIntVal .f64 b .i64=some z):(convert 26 3 (.float .f64 b)).run Tryz.prog W=.ok (.int .i64 z) W:=run_convert_float_int W 26 3 .f64 .i64 b z (by rw [Tryz.underlying26];rfl) Tryz.underlying3 h
theorem between_any (g n c q:Nat)(S:Nat->Nat)(w:World)(hn:0<n)(hn2:n<=100000)(hc:∀ i,i<n->w.cell? ⟨g,i,none⟩=some (.int .i64 (S i:Nat)))(hm:∀ a b,a<=b->b<n->S a<=S b)(hb:∀ i,i<n->S i<100000)(hq:ShF q) :
  Calls Tryz.prog 49 #[.slice (some ⟨g,0,none⟩) n c,.float .f64 q] w fun en w'=>en=.returned (.float .f64 (qqW S q (n - 1)))/\w.grownBy w' none:=by
 obtain ⟨L,hL⟩:∃ L,n - 1=L:=⟨_,rfl⟩;have hLn:L+1=n:=by omega
 rw [hL];clear hL;obtain ⟨f1,f2,f3,f4,f5,f6⟩:=btf hq (L:=L) (by omega);have HI:=hZq f3;have HQQ:Hid (qqW S q L=if ipW q L=L then inF (S L) else hhW q L (S (ipW q L+1) - S (ipW q L)) (S (ipW q L))):=rfl;have r1:=fun (W:World)=>run_mul22 W (t:=26) f1
 have r2:=fun (W:World)=>conv_int22 W f2
 have e1:=floatOf_nat L;obtain ⟨pv,hpv⟩:∃ v,ppW q L=v:=⟨_,rfl⟩;obtain ⟨iv,hiv⟩:∃ v,ipW q L=v:=⟨_,rfl⟩;rw [hiv] at f3 f4 r2 HQQ;rw [hpv] at r1 r2 f4;have HPV:=hZq hpv;clear hpv hiv f1 f2
 by_cases he:iv=L
 ·subst he
  rw [if_pos rfl] at HQQ;have c0:=hc iv (by omega);have e2:=floatOf_nat (S iv);have i0:(0:Int)<=(iv:Int):=by omega
  have i1:(iv:Int)<(n:Int):=by omega
  have i2:((n:Int) - 1)=(iv:Int):=by omega
  clear f4 f5 f6 hc hm hb;go_enter Tryz.func49,Tryz.ntmps49;go_wp2;go_ret;exact ⟨by rw [HQQ.out];rfl,World.grownBy.refl _ _⟩
 ·rw [if_neg he] at HQQ
  have hlt:iv<L:=by omega
  have c0:=hc iv (by omega);have c1:=hc (iv+1) (by omega);have hs:=hm iv (iv+1) (by omega) (by omega);have hs1:=hb (iv+1) (by omega);obtain ⟨s0,h0⟩:∃ s,S iv=s:=⟨_,rfl⟩;obtain ⟨s1,h1⟩:∃ s,S (iv+1)=s:=⟨_,rfl⟩;rw [h0] at c0 hs HQQ;rw [h1] at c1 hs hs1 HQQ;have f5':=f5 (s1 - s0) (by omega);have f6':=f6 (s1 - s0) s0 (by omega) (by omega);obtain ⟨fv,hfv⟩:∃ v,ffW q L=v:=⟨_,rfl⟩;obtain ⟨gv,hgv⟩:∃ v,ggW q L (s1 - s0)=v:=⟨_,rfl⟩;rw [hfv] at f4 f5';rw [hgv] at f5' f6';have r3:=fun (W:World)=>run_sub22 W (t:=26) f4
  have r4:=fun (W:World)=>run_mul22 W (t:=26) f5'
  have r5:=fun (W:World)=>run_add22 W (t:=26) f6'
  have e2:=floatOf_nat iv;have e3:=floatOf_nat (s1 - s0);have e4:=floatOf_nat s0;have e5:((s1 - s0:Nat):Int)=(s1:Int) - (s0:Int):=by omega
  rw [e5] at e3;have i0:(0:Int)<=(iv:Int):=by omega
  have i1:(iv:Int)<(n:Int):=by omega
  have i4:(iv:Int)+1<(n:Int):=by omega
  have i2:((n:Int) - 1)=(L:Int):=by omega
  have i3:((iv:Int)==(L:Int))=false:=by simp;omega
  have T0:Hid (w.drew.cell? ⟨g,iv,none⟩=some (.int .i64 (s0:Nat))/\w.drew.cell? ⟨g,iv+1,none⟩=some (.int .i64 (s1:Nat))):=⟨c0,c1⟩;clear f4 f5 f6 f5' f6' hc hm hb hfv hgv h0 h1;go_enter Tryz.func49,Tryz.ntmps49;go_upto_region 7 with fail
  have w1:IntKind.i64.wrap ((iv:Int)+1)=(iv:Int)+1:=wrap_id22 (by omega) (by omega);have w2:IntKind.i64.wrap ((s1:Int) - (s0:Int))=(s1:Int) - (s0:Int):=wrap_id22 (by omega) (by omega);have i5:(0:Int)<=(iv:Int)+1:=by omega
  have i6:((iv:Int)+1).toNat=iv+1:=by omega
  have GD:=hZq ((Qt.refl w).drew.grown none:w.grownBy w.drew none);clear c0 c1;refine wp_region_noPanic ?_;refine wp_region_held_drew (S:=(fun w'=>w'.cell? ⟨g,iv,none⟩=some (.int .i64 (s0:Nat))/\w'.cell? ⟨g,iv+1,none⟩=some (.int .i64 (s1:Nat)))) (by kernel_rfl) ?_ (fun hHeld=>?_)
  ·exact T0.out
  generalize w.drew=wd at *;refine wpAnyH_take (i:=0) (oi:=⟨some 31,.move (.tmp 8),26, "stats.go:91",#[],none⟩) (v:=?_) rfl (by kernel_rfl) (by kernel_rfl) (by kernel_rfl) (fun _ _ _ h=>h) (Or.inl ⟨by rfl,?_⟩) (by assumption) ?_
  rotate_left
  ·intro w hSw;(try dsimp only at hSw);go_simp;(try with_reducible rfl)
  simp only [Act.put,List.setIfInBounds_toArray,List.set_cons_zero,List.set_cons_succ];refine wpAnyH_take (i:=1) (oi:=⟨some 32,.move (.tmp 0),30, "stats.go:91",#[],none⟩) (v:=?_) rfl (by kernel_rfl) (by kernel_rfl) (by kernel_rfl) (fun _ _ _ h=>h) (Or.inl ⟨by rfl,?_⟩) (by assumption) ?_
  rotate_left
  ·intro w hSw;(try dsimp only at hSw);go_simp;(try with_reducible rfl)
  simp only [Act.put,List.setIfInBounds_toArray,List.set_cons_zero,List.set_cons_succ];refine wpAnyH_take (i:=2) (oi:=⟨some 33,.move (.tmp 7),3, "stats.go:91",#[],none⟩) (v:=?_) rfl (by kernel_rfl) (by kernel_rfl) (by kernel_rfl) (fun _ _ _ h=>h) (Or.inl ⟨by rfl,?_⟩) (by assumption) ?_
  rotate_left
  ·intro w hSw;(try dsimp only at hSw);go_simp;(try with_reducible rfl)
  simp only [Act.put,List.setIfInBounds_toArray,List.set_cons_zero,List.set_cons_succ];refine wpAnyH_take (i:=3) (oi:=⟨some 34,.binOp .add 3 (.tmp 33) (.const (.int .i64 1)) 3,3, "stats.go:91",#[⟨2,.data⟩],none⟩) (v:=?_) rfl (by kernel_rfl) (by kernel_rfl) (by kernel_rfl) (fun _ _ _ h=>h) (Or.inl ⟨by rfl,?_⟩) (by assumption) ?_
  rotate_left
  ·intro w hSw;(try dsimp only at hSw);go_simp;(try with_reducible rfl)
  simp only [Act.put,List.setIfInBounds_toArray,List.set_cons_zero,List.set_cons_succ];refine wpAnyH_take (i:=4) (oi:=⟨some 35,.indexAddr 30 (.tmp 32) (.tmp 34),0, "stats.go:91",#[⟨1,.data⟩,⟨3,.data⟩],none⟩) (v:=?_) rfl (by kernel_rfl) (by kernel_rfl) (by kernel_rfl) (fun _ _ _ h=>h) (Or.inl ⟨by rfl,?_⟩) (by assumption) ?_
  rotate_left
  ·intro w hSw;(try dsimp only at hSw);go_simp;(try with_reducible rfl)
  simp only [Act.put,List.setIfInBounds_toArray,List.set_cons_zero,List.set_cons_succ];refine wpAnyH_take (i:=5) (oi:=⟨some 36,.load 3 (.tmp 35),3, "stats.go:91",#[⟨4,.data⟩],none⟩) (v:=?_) rfl (by kernel_rfl) (by kernel_rfl) (by kernel_rfl) (fun _ _ _ h=>h) (Or.inl ⟨by rfl,?_⟩) (by assumption) ?_
  rotate_left
  ·intro w hSw;(try dsimp only at hSw);go_simp;(try with_reducible rfl)
  simp only [Act.put,List.setIfInBounds_toArray,List.set_cons_zero,List.set_cons_succ];refine wpAnyH_take (i:=6) (oi:=⟨some 37,.move (.tmp 0),30, "stats.go:91",#[],none⟩) (v:=?_) rfl (by kernel_rfl) (by kernel_rfl) (by kernel_rfl) (fun _ _ _ h=>h) (Or.inl ⟨by rfl,?_⟩) (by assumption) ?_
  rotate_left
  ·intro w hSw;(try dsimp only at hSw);go_simp;(try with_reducible rfl)
  simp only [Act.put,List.setIfInBounds_toArray,List.set_cons_zero,List.set_cons_succ];refine wpAnyH_take (i:=7) (oi:=⟨some 38,.move (.tmp 7),3, "stats.go:91",#[],none⟩) (v:=?_) rfl (by kernel_rfl) (by kernel_rfl) (by kernel_rfl) (fun _ _ _ h=>h) (Or.inl ⟨by rfl,?_⟩) (by assumption) ?_
  rotate_left
  ·intro w hSw;(try dsimp only at hSw);go_simp;(try with_reducible rfl)
  simp only [Act.put,List.setIfInBounds_toArray,List.set_cons_zero,List.set_cons_succ];refine wpAnyH_take (i:=8) (oi:=⟨some 39,.indexAddr 30 (.tmp 37) (.tmp 38),0, "stats.go:91",#[⟨6,.data⟩,⟨7,.data⟩],none⟩) (v:=?_) rfl (by kernel_rfl) (by kernel_rfl) (by kernel_rfl) (fun _ _ _ h=>h) (Or.inl ⟨by rfl,?_⟩) (by assumption) ?_
  rotate_left
  ·intro w hSw;(try dsimp only at hSw);go_simp;(try with_reducible rfl)
  simp only [Act.put,List.setIfInBounds_toArray,List.set_cons_zero,List.set_cons_succ];refine wpAnyH_take (i:=9) (oi:=⟨some 40,.load 3 (.tmp 39),3, "stats.go:91",#[⟨8,.data⟩],none⟩) (v:=?_) rfl (by kernel_rfl) (by kernel_rfl) (by kernel_rfl) (fun _ _ _ h=>h) (Or.inl ⟨by rfl,?_⟩) (by assumption) ?_
  rotate_left
  ·intro w hSw;(try dsimp only at hSw);go_simp;(try with_reducible rfl)
  simp only [Act.put,List.setIfInBounds_toArray,List.set_cons_zero,List.set_cons_succ];refine wpAnyH_take (i:=10) (oi:=⟨some 41,.binOp .sub 3 (.tmp 36) (.tmp 40) 3,3, "stats.go:91",#[⟨5,.data⟩,⟨9,.data⟩],none⟩) (v:=?_) rfl (by kernel_rfl) (by kernel_rfl) (by kernel_rfl) (fun _ _ _ h=>h) (Or.inl ⟨by rfl,?_⟩) (by assumption) ?_
  rotate_left
  ·intro w hSw;(try dsimp only at hSw);go_simp;(try with_reducible rfl)
  simp only [Act.put,List.setIfInBounds_toArray,List.set_cons_zero,List.set_cons_succ];refine wpAnyH_take (i:=11) (oi:=⟨some 42,.convert 3 26 (.tmp 41),26, "stats.go:91",#[⟨10,.data⟩],none⟩) (v:=?_) rfl (by kernel_rfl) (by kernel_rfl) (by kernel_rfl) (fun _ _ _ h=>h) (Or.inl ⟨by rfl,?_⟩) (by assumption) ?_
  rotate_left
  ·intro w hSw;(try dsimp only at hSw);go_simp;(try with_reducible rfl)
  simp only [Act.put,List.setIfInBounds_toArray,List.set_cons_zero,List.set_cons_succ];refine wpAnyH_take (i:=12) (oi:=⟨some 43,.binOp .mul 26 (.tmp 31) (.tmp 42) 26,26, "stats.go:91",#[⟨0,.data⟩,⟨11,.data⟩],none⟩) (v:=?_) rfl (by kernel_rfl) (by kernel_rfl) (by kernel_rfl) (fun _ _ _ h=>h) (Or.inl ⟨by rfl,?_⟩) (by assumption) ?_
  rotate_left
  ·intro w hSw;(try dsimp only at hSw);go_simp;(try with_reducible rfl)
  simp only [Act.put,List.setIfInBounds_toArray,List.set_cons_zero,List.set_cons_succ];refine wpAnyH_take (i:=13) (oi:=⟨some 9,.assign (.tmp 43),26, "stats.go:91",#[⟨12,.data⟩,⟨0,.phase⟩,⟨1,.phase⟩,⟨2,.phase⟩,⟨3,.phase⟩,⟨4,.phase⟩,⟨5,.phase⟩,⟨6,.phase⟩,⟨7,.phase⟩,⟨8,.phase⟩,⟨9,.phase⟩,⟨10,.phase⟩,⟨11,.phase⟩,⟨12,.phase⟩],none⟩) (v:=?_) rfl (by kernel_rfl) (by kernel_rfl) (by kernel_rfl) (fun _ _ _ h=>h) (Or.inl ⟨by rfl,?_⟩) (by assumption) ?_
  rotate_left
  ·intro w hSw;(try dsimp only at hSw);go_simp;(try with_reducible rfl)
  simp only [Act.put,List.setIfInBounds_toArray,List.set_cons_zero,List.set_cons_succ];refine wpAnyH_done (by kernel_rfl) ?_ _;refine NoPanic.normal ?_;have c0:=T0.out.1;clear w1 w2;go_wp2;go_ret;exact ⟨by rw [HQQ.out];rfl,GD.out⟩
end Go.Proofs.YteaahinjcfjngaaGreat
