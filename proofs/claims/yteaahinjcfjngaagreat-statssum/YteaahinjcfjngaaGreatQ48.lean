import Derived.Test.YteaahinjcfjngaaGreatQ46
import Derived.Test.YteaahinjcfjngaaGreatQ47
import Derived.Test.YteaahinjcfjngaaGreatQ37
set_option maxRecDepth 100000
set_option maxHeartbeats 16000000
namespace Go.Proofs.YteaahinjcfjngaaGreat
open Go.RowKit
theorem ab_r4 {y1 y2 y3 y4 y5 y6 y8 y9 y10 y11 y12 y13 y14 y15 y16 y17 y18 y19 y20 y21 y22 y23 y24 y25 y26 y27 y28 y29 y30 y31 y32 y33 y34 y35 y36 y37 y38 y39 y40 y41 y42 y43 y44 y45 y46 y47 y48 y49 y50 y51 y52 y53 y54 y55 y56 y57 y58 y59 y60 y61 y62 y63 y64 y65 y66 y67 y68 y69 y70 y71 y72 y73 y74 y75 y76 y77 y78 y79 y80 y81 y82 y83 y84 y85 y86 y87 y88 y89 y90 y91 y92 y93 y94 y95 y96 y97 y98 y99 y100 y101 y102 y103 y104 y105 y106 y107 y108 y109 y110 y111 y112 y113 y114 y115 y116 y117 y118 y119 y120 y121 y122 y123 y124 y125 y126 y127 y128 y129 y130 y131 y132 y133 y134 y135 y136 y137 y138 y139 y140 y141 y142 y143 y144 y145 y146 y147 y148 y149 y150 y151 y152 y153 y154 y155 y156 y157 y158 y159 y160 y161 y162 y163 y164 y165 y166 y167 y168 y169 y170 y171 y172 y173 y174 y175 y176 y177 y178 y179:Value}{B g n c r k:Nat}{wr:World}{K:Exit->Act->World->Prop}
  (h:wr.cell? ⟨B,0,none⟩=some (.slice (some ⟨g,0,none⟩) n c)) (hr:r+k=n) (hk:0<k) (hc:n<=c) (hc2:c<=9223372036854775807)
  (hK:∀ (v50 v51 v52 v53 v54 v55 v56 v57 v58 v59 v60 v61 v62 v63 v64 v65 v66 v67 v68 v69 v70 v71 v72 v73:Value) (wx:World),wr.grownBy wx none->K .normal ⟨List.toArray ((.pointer (some ⟨B,0,none⟩))::y1::y2::y3::y4::y5::y6::(.int .i64 (k:Nat))::(.slice (some ⟨g,0,none⟩) r c)::(.slice (some ⟨g,r*4,none⟩) k (c - r))::y10::y11::y12::y13::y14::y15::y16::y17::y18::y19::y20::y21::y22::y23::y24::y25::y26::y27::y28::y29::y30::y31::y32::y33::y34::y35::y36::y37::y38::y39::y40::y41::y42::y43::y44::y45::y46::y47::y48::y49::v50::v51::v52::v53::v54::v55::v56::v57::v58::v59::v60::v61::v62::v63::v64::v65::v66::v67::v68::v69::v70::v71::v72::v73::y74::y75::y76::y77::y78::y79::y80::y81::y82::y83::y84::y85::y86::y87::y88::y89::y90::y91::y92::y93::y94::y95::y96::y97::y98::y99::y100::y101::y102::y103::y104::y105::y106::y107::y108::y109::y110::y111::y112::y113::y114::y115::y116::y117::y118::y119::y120::y121::y122::y123::y124::y125::y126::y127::y128::y129::y130::y131::y132::y133::y134::y135::y136::y137::y138::y139::y140::y141::y142::y143::y144::y145::y146::y147::y148::y149::y150::y151::y152::y153::y154::y155::y156::y157::y158::y159::y160::y161::y162::y163::y164::y165::y166::y167::y168::y169::y170::y171::y172::y173::y174::y175::y176::y177::y178::y179::[]),[]⟩ wx) :
  Code.wp Tryz.prog (Go.Code.region 4 #[⟨some 50,.move (.tmp 0),138, "build.go:119",#[],none⟩,⟨some 51,.nilCheck (.tmp 50),0, "build.go:119",#[⟨0,.data⟩],none⟩,⟨some 52,.fieldAddr 112 (.tmp 51) 0,0, "build.go:119",#[⟨1,.data⟩],none⟩,⟨some 53,.load 110 (.tmp 52),110, "build.go:119",#[⟨2,.data⟩],none⟩,⟨some 54,.move (.tmp 0),138, "build.go:119",#[],none⟩,⟨some 55,.nilCheck (.tmp 54),0, "build.go:119",#[⟨4,.data⟩],none⟩,⟨some 56,.fieldAddr 112 (.tmp 55) 0,0, "build.go:119",#[⟨5,.data⟩],none⟩,⟨some 57,.load 110 (.tmp 56),110, "build.go:119",#[⟨6,.data⟩],none⟩,⟨some 58,.call { callee:=.builtin Go.Builtin.len,args:=#[.tmp 57],argTypes:=#[110] },3, "build.go:119",#[⟨7,.data⟩],none⟩,⟨some 59,.move (.tmp 7),3, "build.go:119",#[],none⟩,⟨some 60,.binOp .sub 3 (.tmp 58) (.tmp 59) 3,3, "build.go:119",#[⟨8,.data⟩,⟨9,.data⟩],none⟩,⟨some 61,.slice 110 (.tmp 53) none (some (.tmp 60)) none,110, "build.go:119",#[⟨3,.data⟩,⟨10,.data⟩],none⟩,⟨some 62,.move (.tmp 0),138, "build.go:119",#[],none⟩,⟨some 63,.nilCheck (.tmp 62),0, "build.go:119",#[⟨12,.data⟩],none⟩,⟨some 64,.fieldAddr 112 (.tmp 63) 0,0, "build.go:119",#[⟨13,.data⟩],none⟩,⟨some 65,.load 110 (.tmp 64),110, "build.go:119",#[⟨14,.data⟩],none⟩,⟨some 66,.move (.tmp 0),138, "build.go:119",#[],none⟩,⟨some 67,.nilCheck (.tmp 66),0, "build.go:119",#[⟨16,.data⟩],none⟩,⟨some 68,.fieldAddr 112 (.tmp 67) 0,0, "build.go:119",#[⟨17,.data⟩],none⟩,⟨some 69,.load 110 (.tmp 68),110, "build.go:119",#[⟨18,.data⟩],none⟩,⟨some 70,.call { callee:=.builtin Go.Builtin.len,args:=#[.tmp 69],argTypes:=#[110] },3, "build.go:119",#[⟨19,.data⟩],none⟩,⟨some 71,.move (.tmp 7),3, "build.go:119",#[],none⟩,⟨some 72,.binOp .sub 3 (.tmp 70) (.tmp 71) 3,3, "build.go:119",#[⟨20,.data⟩,⟨21,.data⟩],none⟩,⟨some 73,.slice 110 (.tmp 65) (some (.tmp 72)) none none,110, "build.go:119",#[⟨15,.data⟩,⟨22,.data⟩],none⟩,⟨some 8,.assign (.tmp 61),110, "build.go:119",#[⟨11,.data⟩,⟨0,.phase⟩,⟨1,.phase⟩,⟨2,.phase⟩,⟨3,.phase⟩,⟨4,.phase⟩,⟨5,.phase⟩,⟨6,.phase⟩,⟨7,.phase⟩,⟨8,.phase⟩,⟨9,.phase⟩,⟨10,.phase⟩,⟨11,.phase⟩,⟨12,.textOnly .lateStores⟩,⟨13,.textOnly .lateStores⟩,⟨14,.textOnly .lateStores⟩,⟨15,.textOnly .lateStores⟩,⟨16,.textOnly .lateStores⟩,⟨17,.textOnly .lateStores⟩,⟨18,.textOnly .lateStores⟩,⟨19,.textOnly .lateStores⟩,⟨20,.textOnly .lateStoresUnsure⟩,⟨21,.textOnly .lateStores⟩,⟨22,.textOnly .lateStores⟩,⟨23,.textOnly .lateStoresUnsure⟩],none⟩,⟨some 9,.assign (.tmp 73),110, "build.go:119",#[⟨23,.data⟩,⟨24,.chain⟩,⟨0,.phase⟩,⟨1,.phase⟩,⟨2,.phase⟩,⟨3,.phase⟩,⟨4,.phase⟩,⟨5,.phase⟩,⟨6,.phase⟩,⟨7,.phase⟩,⟨8,.phase⟩,⟨9,.phase⟩,⟨10,.phase⟩,⟨11,.phase⟩,⟨12,.phase⟩,⟨13,.phase⟩,⟨14,.phase⟩,⟨15,.phase⟩,⟨16,.phase⟩,⟨17,.phase⟩,⟨18,.phase⟩,⟨19,.phase⟩,⟨20,.phase⟩,⟨21,.phase⟩,⟨22,.phase⟩,⟨23,.phase⟩,⟨24,.phase⟩],none⟩] true) K ⟨List.toArray ((.pointer (some ⟨B,0,none⟩))::y1::y2::y3::y4::y5::y6::(.int .i64 (k:Nat))::y8::y9::y10::y11::y12::y13::y14::y15::y16::y17::y18::y19::y20::y21::y22::y23::y24::y25::y26::y27::y28::y29::y30::y31::y32::y33::y34::y35::y36::y37::y38::y39::y40::y41::y42::y43::y44::y45::y46::y47::y48::y49::y50::y51::y52::y53::y54::y55::y56::y57::y58::y59::y60::y61::y62::y63::y64::y65::y66::y67::y68::y69::y70::y71::y72::y73::y74::y75::y76::y77::y78::y79::y80::y81::y82::y83::y84::y85::y86::y87::y88::y89::y90::y91::y92::y93::y94::y95::y96::y97::y98::y99::y100::y101::y102::y103::y104::y105::y106::y107::y108::y109::y110::y111::y112::y113::y114::y115::y116::y117::y118::y119::y120::y121::y122::y123::y124::y125::y126::y127::y128::y129::y130::y131::y132::y133::y134::y135::y136::y137::y138::y139::y140::y141::y142::y143::y144::y145::y146::y147::y148::y149::y150::y151::y152::y153::y154::y155::y156::y157::y158::y159::y160::y161::y162::y163::y164::y165::y166::y167::y168::y169::y170::y171::y172::y173::y174::y175::y176::y177::y178::y179::[]),[]⟩ wr:=by
 have HK:=hZq hK;have GD:=hZq (show wr.grownBy wr.drew none from (Qt.refl wr).drew.grown none);have T0:=hZq (GD.out.cell h (by simp))
 have w1:IntKind.i64.wrap ((n:Int) - (k:Int))=(r:Int):=by
  have:(n:Int) - (k:Int)=(r:Int):=by omega
  rw [this];exact wrap_id10 (by omega) (by omega)
 have q1:(0:Int)<=(r:Int):=by omega
 have q2:(r:Int)<=(n:Int):=by omega
 have q3:(r:Int)<=(c:Int):=by omega
 have q4:(n:Int)<=(c:Int):=by omega
 have q5:¬ c=r:=by omega
 have q6:((n:Int)).toNat - r=k:=by omega
 have q7:n - r=k:=by omega
 have HC:=hZq h;clear hK h hr hk hc hc2;refine wp_region_noPanic ?_;refine wp_region_held_drew (S:=(fun w'=>w'.cell? ⟨B,0,none⟩=some (.slice (some ⟨g,0,none⟩) n c))) (by kernel_rfl) ?_ (fun hHeld=>?_)
 ·exact T0.out
 generalize wr.drew=wd at *;refine wpAnyH_take (i:=0) (oi:=⟨some 50,.move (.tmp 0),138, "build.go:119",#[],none⟩) (v:=?_) rfl (by kernel_rfl) (by kernel_rfl) (by kernel_rfl) (fun _ _ _ h=>h) (Or.inl ⟨by rfl,?_⟩) (by assumption) ?_
 rotate_left
 ·intro w hSw;(try dsimp only at hSw);go_simp;(try with_reducible rfl)
 simp only [Act.put,List.setIfInBounds_toArray,List.set_cons_zero,List.set_cons_succ];refine wpAnyH_take (i:=1) (oi:=⟨some 51,.nilCheck (.tmp 50),0, "build.go:119",#[⟨0,.data⟩],none⟩) (v:=?_) rfl (by kernel_rfl) (by kernel_rfl) (by kernel_rfl) (fun _ _ _ h=>h) (Or.inl ⟨by rfl,?_⟩) (by assumption) ?_
 rotate_left
 ·intro w hSw;(try dsimp only at hSw);go_simp;(try with_reducible rfl)
 simp only [Act.put,List.setIfInBounds_toArray,List.set_cons_zero,List.set_cons_succ];refine wpAnyH_take (i:=2) (oi:=⟨some 52,.fieldAddr 112 (.tmp 51) 0,0, "build.go:119",#[⟨1,.data⟩],none⟩) (v:=?_) rfl (by kernel_rfl) (by kernel_rfl) (by kernel_rfl) (fun _ _ _ h=>h) (Or.inl ⟨by rfl,?_⟩) (by assumption) ?_
 rotate_left
 ·intro w hSw;(try dsimp only at hSw);go_simp;(try with_reducible rfl)
 simp only [Act.put,List.setIfInBounds_toArray,List.set_cons_zero,List.set_cons_succ];refine wpAnyH_take (i:=3) (oi:=⟨some 53,.load 110 (.tmp 52),110, "build.go:119",#[⟨2,.data⟩],none⟩) (v:=?_) rfl (by kernel_rfl) (by kernel_rfl) (by kernel_rfl) (fun _ _ _ h=>h) (Or.inl ⟨by rfl,?_⟩) (by assumption) ?_
 rotate_left
 ·intro w hSw;(try dsimp only at hSw);go_simp;(try with_reducible rfl)
 simp only [Act.put,List.setIfInBounds_toArray,List.set_cons_zero,List.set_cons_succ];refine wpAnyH_take (i:=4) (oi:=⟨some 54,.move (.tmp 0),138, "build.go:119",#[],none⟩) (v:=?_) rfl (by kernel_rfl) (by kernel_rfl) (by kernel_rfl) (fun _ _ _ h=>h) (Or.inl ⟨by rfl,?_⟩) (by assumption) ?_
 rotate_left
 ·intro w hSw;(try dsimp only at hSw);go_simp;(try with_reducible rfl)
 simp only [Act.put,List.setIfInBounds_toArray,List.set_cons_zero,List.set_cons_succ];refine wpAnyH_take (i:=5) (oi:=⟨some 55,.nilCheck (.tmp 54),0, "build.go:119",#[⟨4,.data⟩],none⟩) (v:=?_) rfl (by kernel_rfl) (by kernel_rfl) (by kernel_rfl) (fun _ _ _ h=>h) (Or.inl ⟨by rfl,?_⟩) (by assumption) ?_
 rotate_left
 ·intro w hSw;(try dsimp only at hSw);go_simp;(try with_reducible rfl)
 simp only [Act.put,List.setIfInBounds_toArray,List.set_cons_zero,List.set_cons_succ];refine wpAnyH_take (i:=6) (oi:=⟨some 56,.fieldAddr 112 (.tmp 55) 0,0, "build.go:119",#[⟨5,.data⟩],none⟩) (v:=?_) rfl (by kernel_rfl) (by kernel_rfl) (by kernel_rfl) (fun _ _ _ h=>h) (Or.inl ⟨by rfl,?_⟩) (by assumption) ?_
 rotate_left
 ·intro w hSw;(try dsimp only at hSw);go_simp;(try with_reducible rfl)
 simp only [Act.put,List.setIfInBounds_toArray,List.set_cons_zero,List.set_cons_succ];refine wpAnyH_take (i:=7) (oi:=⟨some 57,.load 110 (.tmp 56),110, "build.go:119",#[⟨6,.data⟩],none⟩) (v:=?_) rfl (by kernel_rfl) (by kernel_rfl) (by kernel_rfl) (fun _ _ _ h=>h) (Or.inl ⟨by rfl,?_⟩) (by assumption) ?_
 rotate_left
 ·intro w hSw;(try dsimp only at hSw);go_simp;(try with_reducible rfl)
 simp only [Act.put,List.setIfInBounds_toArray,List.set_cons_zero,List.set_cons_succ];refine wpAnyH_take (i:=8) (oi:=⟨some 58,.call { callee:=.builtin Go.Builtin.len,args:=#[.tmp 57],argTypes:=#[110] },3, "build.go:119",#[⟨7,.data⟩],none⟩) (v:=?_) rfl (by kernel_rfl) (by kernel_rfl) (by kernel_rfl) (fun _ _ _ h=>h) (Or.inl ⟨by rfl,?_⟩) (by assumption) ?_
 rotate_left
 ·intro w hSw;(try dsimp only at hSw);go_simp;(try with_reducible rfl)
 simp only [Act.put,List.setIfInBounds_toArray,List.set_cons_zero,List.set_cons_succ];refine wpAnyH_take (i:=9) (oi:=⟨some 59,.move (.tmp 7),3, "build.go:119",#[],none⟩) (v:=?_) rfl (by kernel_rfl) (by kernel_rfl) (by kernel_rfl) (fun _ _ _ h=>h) (Or.inl ⟨by rfl,?_⟩) (by assumption) ?_
 rotate_left
 ·intro w hSw;(try dsimp only at hSw);go_simp;(try with_reducible rfl)
 simp only [Act.put,List.setIfInBounds_toArray,List.set_cons_zero,List.set_cons_succ];refine wpAnyH_take (i:=10) (oi:=⟨some 60,.binOp .sub 3 (.tmp 58) (.tmp 59) 3,3, "build.go:119",#[⟨8,.data⟩,⟨9,.data⟩],none⟩) (v:=?_) rfl (by kernel_rfl) (by kernel_rfl) (by kernel_rfl) (fun _ _ _ h=>h) (Or.inl ⟨by rfl,?_⟩) (by assumption) ?_
 rotate_left
 ·intro w hSw;(try dsimp only at hSw);go_simp;(try with_reducible rfl)
 simp only [Act.put,List.setIfInBounds_toArray,List.set_cons_zero,List.set_cons_succ];refine wpAnyH_take (i:=11) (oi:=⟨some 61,.slice 110 (.tmp 53) none (some (.tmp 60)) none,110, "build.go:119",#[⟨3,.data⟩,⟨10,.data⟩],none⟩) (v:=?_) rfl (by kernel_rfl) (by kernel_rfl) (by kernel_rfl) (fun _ _ _ h=>h) (Or.inl ⟨by rfl,?_⟩) (by assumption) ?_
 rotate_left
 ·intro w hSw;(try dsimp only at hSw);go_simp;(try with_reducible rfl)
 simp only [Act.put,List.setIfInBounds_toArray,List.set_cons_zero,List.set_cons_succ];refine wpAnyH_take (i:=12) (oi:=⟨some 62,.move (.tmp 0),138, "build.go:119",#[],none⟩) (v:=?_) rfl (by kernel_rfl) (by kernel_rfl) (by kernel_rfl) (fun _ _ _ h=>h) (Or.inl ⟨by rfl,?_⟩) (by assumption) ?_
 rotate_left
 ·intro w hSw;(try dsimp only at hSw);go_simp;(try with_reducible rfl)
 simp only [Act.put,List.setIfInBounds_toArray,List.set_cons_zero,List.set_cons_succ];refine wpAnyH_take (i:=13) (oi:=⟨some 63,.nilCheck (.tmp 62),0, "build.go:119",#[⟨12,.data⟩],none⟩) (v:=?_) rfl (by kernel_rfl) (by kernel_rfl) (by kernel_rfl) (fun _ _ _ h=>h) (Or.inl ⟨by rfl,?_⟩) (by assumption) ?_
 rotate_left
 ·intro w hSw;(try dsimp only at hSw);go_simp;(try with_reducible rfl)
 simp only [Act.put,List.setIfInBounds_toArray,List.set_cons_zero,List.set_cons_succ];refine wpAnyH_take (i:=14) (oi:=⟨some 64,.fieldAddr 112 (.tmp 63) 0,0, "build.go:119",#[⟨13,.data⟩],none⟩) (v:=?_) rfl (by kernel_rfl) (by kernel_rfl) (by kernel_rfl) (fun _ _ _ h=>h) (Or.inl ⟨by rfl,?_⟩) (by assumption) ?_
 rotate_left
 ·intro w hSw;(try dsimp only at hSw);go_simp;(try with_reducible rfl)
 simp only [Act.put,List.setIfInBounds_toArray,List.set_cons_zero,List.set_cons_succ];refine wpAnyH_take (i:=15) (oi:=⟨some 65,.load 110 (.tmp 64),110, "build.go:119",#[⟨14,.data⟩],none⟩) (v:=?_) rfl (by kernel_rfl) (by kernel_rfl) (by kernel_rfl) (fun _ _ _ h=>h) (Or.inl ⟨by rfl,?_⟩) (by assumption) ?_
 rotate_left
 ·intro w hSw;(try dsimp only at hSw);go_simp;(try with_reducible rfl)
 simp only [Act.put,List.setIfInBounds_toArray,List.set_cons_zero,List.set_cons_succ];refine wpAnyH_take (i:=16) (oi:=⟨some 66,.move (.tmp 0),138, "build.go:119",#[],none⟩) (v:=?_) rfl (by kernel_rfl) (by kernel_rfl) (by kernel_rfl) (fun _ _ _ h=>h) (Or.inl ⟨by rfl,?_⟩) (by assumption) ?_
 rotate_left
 ·intro w hSw;(try dsimp only at hSw);go_simp;(try with_reducible rfl)
 simp only [Act.put,List.setIfInBounds_toArray,List.set_cons_zero,List.set_cons_succ];refine wpAnyH_take (i:=17) (oi:=⟨some 67,.nilCheck (.tmp 66),0, "build.go:119",#[⟨16,.data⟩],none⟩) (v:=?_) rfl (by kernel_rfl) (by kernel_rfl) (by kernel_rfl) (fun _ _ _ h=>h) (Or.inl ⟨by rfl,?_⟩) (by assumption) ?_
 rotate_left
 ·intro w hSw;(try dsimp only at hSw);go_simp;(try with_reducible rfl)
 simp only [Act.put,List.setIfInBounds_toArray,List.set_cons_zero,List.set_cons_succ];refine wpAnyH_take (i:=18) (oi:=⟨some 68,.fieldAddr 112 (.tmp 67) 0,0, "build.go:119",#[⟨17,.data⟩],none⟩) (v:=?_) rfl (by kernel_rfl) (by kernel_rfl) (by kernel_rfl) (fun _ _ _ h=>h) (Or.inl ⟨by rfl,?_⟩) (by assumption) ?_
 rotate_left
 ·intro w hSw;(try dsimp only at hSw);go_simp;(try with_reducible rfl)
 simp only [Act.put,List.setIfInBounds_toArray,List.set_cons_zero,List.set_cons_succ];refine wpAnyH_take (i:=19) (oi:=⟨some 69,.load 110 (.tmp 68),110, "build.go:119",#[⟨18,.data⟩],none⟩) (v:=?_) rfl (by kernel_rfl) (by kernel_rfl) (by kernel_rfl) (fun _ _ _ h=>h) (Or.inl ⟨by rfl,?_⟩) (by assumption) ?_
 rotate_left
 ·intro w hSw;(try dsimp only at hSw);go_simp;(try with_reducible rfl)
 simp only [Act.put,List.setIfInBounds_toArray,List.set_cons_zero,List.set_cons_succ];refine wpAnyH_take (i:=20) (oi:=⟨some 70,.call { callee:=.builtin Go.Builtin.len,args:=#[.tmp 69],argTypes:=#[110] },3, "build.go:119",#[⟨19,.data⟩],none⟩) (v:=?_) rfl (by kernel_rfl) (by kernel_rfl) (by kernel_rfl) (fun _ _ _ h=>h) (Or.inl ⟨by rfl,?_⟩) (by assumption) ?_
 rotate_left
 ·intro w hSw;(try dsimp only at hSw);go_simp;(try with_reducible rfl)
 simp only [Act.put,List.setIfInBounds_toArray,List.set_cons_zero,List.set_cons_succ];refine wpAnyH_take (i:=21) (oi:=⟨some 71,.move (.tmp 7),3, "build.go:119",#[],none⟩) (v:=?_) rfl (by kernel_rfl) (by kernel_rfl) (by kernel_rfl) (fun _ _ _ h=>h) (Or.inl ⟨by rfl,?_⟩) (by assumption) ?_
 rotate_left
 ·intro w hSw;(try dsimp only at hSw);go_simp;(try with_reducible rfl)
 simp only [Act.put,List.setIfInBounds_toArray,List.set_cons_zero,List.set_cons_succ];refine wpAnyH_take (i:=22) (oi:=⟨some 72,.binOp .sub 3 (.tmp 70) (.tmp 71) 3,3, "build.go:119",#[⟨20,.data⟩,⟨21,.data⟩],none⟩) (v:=?_) rfl (by kernel_rfl) (by kernel_rfl) (by kernel_rfl) (fun _ _ _ h=>h) (Or.inl ⟨by rfl,?_⟩) (by assumption) ?_
 rotate_left
 ·intro w hSw;(try dsimp only at hSw);go_simp;(try with_reducible rfl)
 simp only [Act.put,List.setIfInBounds_toArray,List.set_cons_zero,List.set_cons_succ];refine wpAnyH_take (i:=23) (oi:=⟨some 73,.slice 110 (.tmp 65) (some (.tmp 72)) none none,110, "build.go:119",#[⟨15,.data⟩,⟨22,.data⟩],none⟩) (v:=?_) rfl (by kernel_rfl) (by kernel_rfl) (by kernel_rfl) (fun _ _ _ h=>h) (Or.inl ⟨by rfl,?_⟩) (by assumption) ?_
 rotate_left
 ·intro w hSw;(try dsimp only at hSw);go_simp;(try with_reducible rfl)
 simp only [Act.put,List.setIfInBounds_toArray,List.set_cons_zero,List.set_cons_succ];refine wpAnyH_take (i:=24) (oi:=⟨some 8,.assign (.tmp 61),110, "build.go:119",#[⟨11,.data⟩,⟨0,.phase⟩,⟨1,.phase⟩,⟨2,.phase⟩,⟨3,.phase⟩,⟨4,.phase⟩,⟨5,.phase⟩,⟨6,.phase⟩,⟨7,.phase⟩,⟨8,.phase⟩,⟨9,.phase⟩,⟨10,.phase⟩,⟨11,.phase⟩,⟨12,.textOnly .lateStores⟩,⟨13,.textOnly .lateStores⟩,⟨14,.textOnly .lateStores⟩,⟨15,.textOnly .lateStores⟩,⟨16,.textOnly .lateStores⟩,⟨17,.textOnly .lateStores⟩,⟨18,.textOnly .lateStores⟩,⟨19,.textOnly .lateStores⟩,⟨20,.textOnly .lateStoresUnsure⟩,⟨21,.textOnly .lateStores⟩,⟨22,.textOnly .lateStores⟩,⟨23,.textOnly .lateStoresUnsure⟩],none⟩) (v:=?_) rfl (by kernel_rfl) (by kernel_rfl) (by kernel_rfl) (fun _ _ _ h=>h) (Or.inl ⟨by rfl,?_⟩) (by assumption) ?_
 rotate_left
 ·intro w hSw;(try dsimp only at hSw);go_simp;(try with_reducible rfl)
 simp only [Act.put,List.setIfInBounds_toArray,List.set_cons_zero,List.set_cons_succ];refine wpAnyH_take (i:=25) (oi:=⟨some 9,.assign (.tmp 73),110, "build.go:119",#[⟨23,.data⟩,⟨24,.chain⟩,⟨0,.phase⟩,⟨1,.phase⟩,⟨2,.phase⟩,⟨3,.phase⟩,⟨4,.phase⟩,⟨5,.phase⟩,⟨6,.phase⟩,⟨7,.phase⟩,⟨8,.phase⟩,⟨9,.phase⟩,⟨10,.phase⟩,⟨11,.phase⟩,⟨12,.phase⟩,⟨13,.phase⟩,⟨14,.phase⟩,⟨15,.phase⟩,⟨16,.phase⟩,⟨17,.phase⟩,⟨18,.phase⟩,⟨19,.phase⟩,⟨20,.phase⟩,⟨21,.phase⟩,⟨22,.phase⟩,⟨23,.phase⟩,⟨24,.phase⟩],none⟩) (v:=?_) rfl (by kernel_rfl) (by kernel_rfl) (by kernel_rfl) (fun _ _ _ h=>h) (Or.inl ⟨by rfl,?_⟩) (by assumption) ?_
 rotate_left
 ·intro w hSw;(try dsimp only at hSw);go_simp;(try with_reducible rfl)
 simp only [Act.put,List.setIfInBounds_toArray,List.set_cons_zero,List.set_cons_succ];refine wpAnyH_done (by kernel_rfl) ?_ _;refine NoPanic.normal ?_;try simp only [q7,Nat.zero_add]
 exact HK.out _ _ _ _ _ _ _ _ _ _ _ _ _ _ _ _ _ _ _ _ _ _ _ _ _ GD.out
theorem ab_r9 {y0 y1 y2 y3 y4 y6 y7 y8 y9 y10 y13 y14 y15 y16 y17 y18 y19 y20 y21 y22 y23 y24 y25 y26 y27 y28 y29 y30 y31 y32 y33 y34 y35 y36 y37 y38 y39 y40 y41 y42 y43 y44 y45 y46 y47 y48 y49 y50 y51 y52 y53 y54 y55 y56 y57 y58 y59 y60 y61 y62 y63 y64 y65 y66 y67 y68 y69 y70 y71 y72 y73 y74 y75 y76 y77 y78 y79 y80 y81 y82 y83 y84 y85 y86 y87 y88 y89 y90 y91 y92 y93 y94 y95 y96 y97 y98 y99 y100 y101 y102 y103 y104 y105 y106 y107 y108 y109 y110 y111 y112 y113 y114 y115 y116 y117 y118 y119 y120 y121 y122 y123 y124 y125 y126 y127 y128 y129 y130 y131 y132 y133 y134 y135 y136 y137 y138 y139 y140 y141 y142 y143 y144 y145 y146 y147 y148 y149 y150 y151 y152 y153 y154 y155 y156 y157 y158 y159 y160 y161 y162 y163 y164 y165 y166 y167 y168 y169 y170 y171 y172 y173 y174 y175 y176 y177 y178 y179:Value}{D X g off i kn kc m:Nat}{u:Value}{x:NdT m}{no nlv kat kz:Int}{wr:World}{K:Exit->Act->World->Prop}
  (hx:NodeT m wr u x) (ox:OkT m x) (hm:m<=15)
  (u0:wr.cell? ⟨X,0,none⟩=some u) (u1:wr.cell? ⟨X,1,none⟩=some (.int .i64 kat))
  (d0:wr.cell? ⟨D,0,none⟩=some (.int .i64 no)) (d1:wr.cell? ⟨D,1,none⟩=some (.int .i64 nlv)) (d5:wr.cell? ⟨D,5,none⟩=some (.slice (some ⟨g,off,none⟩) kn kc)) (hi:i<kn) (z0:wr.cell? ⟨g,off+i,none⟩=some (.int .i64 kz))
  (hK:∀ (v82 v83 v84 v85 v86 v87 v88 v89 v90 v91 v92 v93 v94 v95 v96 v97 v98 v99 v100 v101 v102 v103 v104 v105 v106 v107 v108:Value) (f:Bool) (wx:World),BcQ f (kat=kz/\(m:Int)+1=nlv/\(no≠0->noT m x≠0))->wr.grownBy wx none->K .normal ⟨List.toArray (y0::y1::y2::y3::y4::(.pointer (some ⟨D,0,none⟩))::y6::y7::y8::y9::y10::(.int .i64 (i:Nat))::(.pointer (some ⟨X,0,none⟩))::y13::y14::y15::y16::y17::y18::y19::y20::y21::y22::y23::y24::y25::y26::y27::y28::y29::y30::y31::y32::y33::y34::y35::y36::y37::y38::y39::y40::y41::y42::y43::y44::y45::y46::y47::y48::y49::y50::y51::y52::y53::y54::y55::y56::y57::y58::y59::y60::y61::y62::y63::y64::y65::y66::y67::y68::y69::y70::y71::y72::y73::y74::y75::y76::y77::y78::y79::y80::y81::v82::v83::v84::v85::v86::v87::v88::v89::v90::v91::v92::v93::v94::v95::v96::v97::v98::v99::v100::v101::v102::v103::v104::v105::v106::v107::v108::(.bool f)::y110::y111::y112::y113::y114::y115::y116::y117::y118::y119::y120::y121::y122::y123::y124::y125::y126::y127::y128::y129::y130::y131::y132::y133::y134::y135::y136::y137::y138::y139::y140::y141::y142::y143::y144::y145::y146::y147::y148::y149::y150::y151::y152::y153::y154::y155::y156::y157::y158::y159::y160::y161::y162::y163::y164::y165::y166::y167::y168::y169::y170::y171::y172::y173::y174::y175::y176::y177::y178::y179::[]),[]⟩ wx) :
  Code.wp Tryz.prog (Go.Code.region 9 #[⟨some 82,.fieldAddr 118 (.tmp 12) 1,0, "build.go:122",#[],none⟩,⟨some 83,.load 3 (.tmp 82),3, "build.go:122",#[⟨0,.data⟩],none⟩,⟨some 84,.fieldAddr 61 (.tmp 5) 5,0, "build.go:122",#[],none⟩,⟨some 85,.load 30 (.tmp 84),30, "build.go:122",#[⟨2,.data⟩],none⟩,⟨some 86,.move (.tmp 11),3, "build.go:122",#[],none⟩,⟨some 87,.indexAddr 30 (.tmp 85) (.tmp 86),0, "build.go:122",#[⟨3,.data⟩,⟨4,.data⟩],none⟩,⟨some 88,.load 3 (.tmp 87),3, "build.go:122",#[⟨5,.data⟩],none⟩,⟨some 89,.binOp .neq 3 (.tmp 83) (.tmp 88) 3,4, "build.go:122",#[⟨1,.data⟩,⟨6,.data⟩],none⟩,⟨some 90,.move (.tmp 89),4, "build.go:122",#[⟨7,.data⟩],none⟩,⟨some 91,.fieldAddr 118 (.tmp 12) 0,0, "build.go:122",#[⟨8,.guard⟩],some (8,false)⟩,⟨some 92,.load 116 (.tmp 91),116, "build.go:122",#[⟨9,.data⟩,⟨8,.guard⟩],some (8,false)⟩,⟨some 93,.call { callee:=.invoke (.tmp 92) "coppice/tree.level",args:=#[],argTypes:=#[] },3, "build.go:122",#[⟨10,.data⟩,⟨8,.chain⟩,⟨8,.guard⟩],some (8,false)⟩,⟨some 94,.binOp .add 3 (.tmp 93) (.const (.int .i64 1)) 3,3, "build.go:122",#[⟨11,.data⟩,⟨8,.guard⟩],some (8,false)⟩,⟨some 95,.fieldAddr 61 (.tmp 5) 1,0, "build.go:122",#[⟨8,.guard⟩],some (8,false)⟩,⟨some 96,.load 3 (.tmp 95),3, "build.go:122",#[⟨13,.data⟩,⟨8,.guard⟩],some (8,false)⟩,⟨some 97,.binOp .neq 3 (.tmp 94) (.tmp 96) 3,4, "build.go:122",#[⟨12,.data⟩,⟨14,.data⟩,⟨8,.guard⟩],some (8,false)⟩,⟨some 98,.pick (.tmp 90) (.const (.bool true)) (.tmp 97),4, "build.go:122",#[⟨8,.data⟩,⟨15,.data⟩],none⟩,⟨some 99,.move (.tmp 98),4, "build.go:122",#[⟨16,.data⟩,⟨11,.chain⟩],none⟩,⟨some 100,.fieldAddr 61 (.tmp 5) 0,0, "build.go:122",#[⟨17,.guard⟩],some (17,false)⟩,⟨some 101,.load 3 (.tmp 100),3, "build.go:122",#[⟨18,.data⟩,⟨17,.guard⟩],some (17,false)⟩,⟨some 102,.binOp .neq 3 (.tmp 101) (.const (.int .i64 0)) 3,4, "build.go:122",#[⟨19,.data⟩,⟨17,.guard⟩],some (17,false)⟩,⟨some 103,.move (.tmp 102),4, "build.go:122",#[⟨20,.data⟩,⟨17,.chain⟩,⟨17,.guard⟩],some (17,false)⟩,⟨some 104,.fieldAddr 118 (.tmp 12) 0,0, "build.go:122",#[⟨21,.guard⟩],some (21,true)⟩,⟨some 105,.load 116 (.tmp 104),116, "build.go:122",#[⟨22,.data⟩,⟨21,.guard⟩],some (21,true)⟩,⟨some 106,.call { callee:=.invoke (.tmp 105) "coppice/tree.number",args:=#[],argTypes:=#[] },3, "build.go:122",#[⟨23,.data⟩,⟨21,.chain⟩,⟨21,.guard⟩],some (21,true)⟩,⟨some 107,.binOp .eql 3 (.tmp 106) (.const (.int .i64 0)) 3,4, "build.go:122",#[⟨24,.data⟩,⟨21,.guard⟩],some (21,true)⟩,⟨some 108,.pick (.tmp 103) (.tmp 107) (.const (.bool false)),4, "build.go:122",#[⟨21,.data⟩,⟨25,.data⟩,⟨17,.guard⟩],some (17,false)⟩,⟨some 109,.pick (.tmp 99) (.const (.bool true)) (.tmp 108),4, "build.go:122",#[⟨17,.data⟩,⟨26,.data⟩],none⟩] true) K ⟨List.toArray (y0::y1::y2::y3::y4::(.pointer (some ⟨D,0,none⟩))::y6::y7::y8::y9::y10::(.int .i64 (i:Nat))::(.pointer (some ⟨X,0,none⟩))::y13::y14::y15::y16::y17::y18::y19::y20::y21::y22::y23::y24::y25::y26::y27::y28::y29::y30::y31::y32::y33::y34::y35::y36::y37::y38::y39::y40::y41::y42::y43::y44::y45::y46::y47::y48::y49::y50::y51::y52::y53::y54::y55::y56::y57::y58::y59::y60::y61::y62::y63::y64::y65::y66::y67::y68::y69::y70::y71::y72::y73::y74::y75::y76::y77::y78::y79::y80::y81::y82::y83::y84::y85::y86::y87::y88::y89::y90::y91::y92::y93::y94::y95::y96::y97::y98::y99::y100::y101::y102::y103::y104::y105::y106::y107::y108::y109::y110::y111::y112::y113::y114::y115::y116::y117::y118::y119::y120::y121::y122::y123::y124::y125::y126::y127::y128::y129::y130::y131::y132::y133::y134::y135::y136::y137::y138::y139::y140::y141::y142::y143::y144::y145::y146::y147::y148::y149::y150::y151::y152::y153::y154::y155::y156::y157::y158::y159::y160::y161::y162::y163::y164::y165::y166::y167::y168::y169::y170::y171::y172::y173::y174::y175::y176::y177::y178::y179::[]),[]⟩ wr:=by
 match m,x,hx,ox,hm,hK with
 | 0,x,hx,ox,hm,hK =>
  obtain ⟨b,a,mm,c,rfl,hb,hps⟩:=hx;exact ab_r9L u0 u1 d0 d1 d5 hi z0 ⟨by omega,by omega⟩ (fun W hg=>(llevel_any b W).mono (by rintro en w' ⟨rfl,rfl⟩;exact ⟨rfl,World.grownBy.refl _ _⟩)) (fun W hg=>lnumber_any b _ _ W (heap_kept hb hg)) hK
 | m+1,x,hx,ox,hm,hK =>
  have hx0:=hx;obtain ⟨b,a,mm,c,sa,sm,sc,rfl,hb,hns,hss⟩:=hx;exact ab_r9B u0 u1 d0 d1 d5 hi z0 ⟨by omega,by omega⟩ (fun W hg=>blevel_any (rlevel m) b x W (hx0.kept (m+1) (FrT.of hg)) ox (by omega)) (fun W hg=>bnumber_any b _ _ _ W (heap_kept hb hg)) hK
theorem apartX {n:Nat}(x y:NdT n)(u1 u2:Value)(t1 t2:Int)(fa:Option Addr)(fn fc:Nat)(la:Option Addr)(ln lc:Nat)(fa':Option Addr)(fn' fc':Nat)(la':Option Addr)(ln' lc':Nat)(so:Option Addr)(sn sc:Nat)(kl s kf:List Int)(w:World)
  (hx:NodeT n w u1 x) (hy:NodeT n w u2 y) (ox:OkT n x) (oy:OkT n y) (hs:BtU w so sn sc s) (vs:Vs s) (hl:Byt w la ln lc kl) (hf:Byt w fa' fn' fc' kf) (bl:Bt kl) (bf:Bt kf) :
  Calls Tryz.prog 111 #[.agg #[u1,.int .i64 t1,.slice fa fn fc,.slice la ln lc],.slice so sn sc,.agg #[u2,.int .i64 t2,.slice fa' fn' fc',.slice la' ln' lc']] w fun en w'=>AptX n x y kl s kf w en w':=by
 match n,x,y,hx,hy,ox,oy with
 | 0,x,y,hx,hy,ox,oy =>
  obtain ⟨b1,rfl⟩:=hx.atL;obtain ⟨b2,rfl⟩:=hy.atL;exact apartX_L (joinsU 0) x y b1 b2 t1 t2 fa fn fc la ln lc fa' fn' fc' la' ln' lc' so sn sc kl s kf w hx hy ox oy hs vs hl hf bl bf
 | n+1,x,y,hx,hy,ox,oy =>
  obtain ⟨b1,rfl⟩:=hx.atB;obtain ⟨b2,rfl⟩:=hy.atB;exact apartX_B (joinsU (n+1)) x y b1 b2 t1 t2 fa fn fc la ln lc fa' fn' fc' la' ln' lc' so sn sc kl s kf w hx hy ox oy hs vs hl hf bl bf
theorem flat_one:∀ us:List Value,(us.map fun u=>[u]).flatten=us
 | []=>rfl
 | u::us=>by rw [List.map_cons,List.flatten_cons,flat_one us];rfl
theorem NdL.ns {m:Nat}{w:World}{q:Nat}{a:Option Addr}{k c:Nat}{us:List Value}{ns:List (NdT m)}(h:NdL w q (.slice a k c) us)(hl:us.length=ns.length)(hu:∀ (j:Nat) (u:Value) (x:NdT m),us[j]?=some u->ns[j]?=some x->NodeT m w u x):NsT m w a k c ns:=by
 have hwf:∀ u∈us,u.oneCell'=true:=fun u hm=>by
  obtain ⟨j,hj,rfl⟩:=List.getElem_of_mem hm;obtain ⟨T,b,e⟩:=(hu j _ (ns[j]'(by omega)) (List.getElem?_eq_getElem hj) (List.getElem?_eq_getElem (by omega))).one;rw [e]
  rfl
 have h':w.ownsRow q 116 1 (.slice a k c) us.length (us.map fun u=>[u]).flatten:=by
  have e:=flat_one us;rw [e];exact h
 obtain ⟨a',c',e,he⟩:=EsT.of_owns h' (by decide) (fun e he=>by obtain ⟨u,_,rfl⟩:=List.mem_map.1 he;rfl) (fun e he v hv=>by
  obtain ⟨u,hu',rfl⟩:=List.mem_map.1 he;rw [List.mem_singleton.1 hv];exact hwf u hu')
 simp only [Value.slice.injEq] at e;obtain ⟨rfl,rfl,rfl⟩:=e;refine ⟨_,he,⟨by rw [List.length_map,hl],fun i e x h1 h2=>?_⟩⟩;rw [List.getElem?_map] at h1;obtain ⟨u,hu1,rfl⟩:=Option.map_eq_some_iff.1 h1;exact ⟨u,rfl,hu i u x hu1 h2⟩
theorem SqL.ss {w:World}{q:Nat}{a:Option Addr}{k c:Nat}{L:List (List Int)}(h:SqL w q (.slice a k c) L):SsT w a k c L:=by
 obtain ⟨es,h1,h2⟩:=h.ex
 have hwf:∀ e∈es,e.length=1/\∀ v∈e,v.oneCell'=true:=fun e hm=>by
  obtain ⟨j,hj,rfl⟩:=List.getElem_of_mem hm;obtain ⟨ao,n,c,e,_⟩:=h2.el j _ (L[j]'(by rw [<- h2.len];exact hj)) (List.getElem?_eq_getElem hj) (List.getElem?_eq_getElem _);rw [e];exact ⟨rfl,fun v hv=>by rw [List.mem_singleton.1 hv];rfl⟩
 obtain ⟨a',c',e,he⟩:=EsT.of_owns h1 (by decide) (fun e hm=>(hwf e hm).1) (fun e hm=>(hwf e hm).2);simp only [Value.slice.injEq] at e;obtain ⟨rfl,rfl,rfl⟩:=e;exact ⟨es,he,h2⟩
theorem PatL.keptN {w w':World}{q:Nat}{v:Value}{L:List (TrT × Nat)}(h:PatL w q v L)(hg:w.grownBy w' none):PatL w' q v L :=
 h.same (fun i ⟨cur,z,e⟩=>by rw [heap_kept e hg,e]) (FrT.of hg)
structure T5 (w:World)(D M:Nat):Prop where
 d:TgT w D 61
 m:TgT w M 89
theorem T5.keptN {w w':World}{D M:Nat}(h:T5 w D M)(hg:w.grownBy w' none):T5 w' D M:=⟨h.d.keptN hg,h.m.keptN hg⟩
theorem T5.keptR {w w':World}{D M:Nat}{r:Option Nat}(h:T5 w D M)(hg:w.grownBy w' r)(hr:∀ i,r=some i->TgT w i 118):T5 w' D M :=
 ⟨TgT.keptR h.d hg (fun e=>tg_ne h.d (hr D e.symm) (by decide) rfl),TgT.keptR h.m hg (fun e=>tg_ne h.m (hr M e.symm) (by decide) rfl)⟩
theorem Q3.kept {w w':World}{D M:Nat}{x y z:Value}(h:w.cell? ⟨D,0,none⟩=some x/\w.cell? ⟨M,0,none⟩=some y/\w.cell? ⟨M,1,none⟩=some z)(hg:w.grownBy w' none):w'.cell? ⟨D,0,none⟩=some x/\w'.cell? ⟨M,0,none⟩=some y/\w'.cell? ⟨M,1,none⟩=some z:=⟨hg.cell h.1 (by simp),hg.cell h.2.1 (by simp),hg.cell h.2.2 (by simp)⟩
theorem Q3.keptR {w w':World}{D M:Nat}{x y z:Value}{r:Option Nat}{t:TypeId}(h:w.cell? ⟨D,0,none⟩=some x/\w.cell? ⟨M,0,none⟩=some y/\w.cell? ⟨M,1,none⟩=some z)(hg:w.grownBy w' r)(hr:∀ i,r=some i->TgT w i t)(hT:T5 w D M)(n1:61≠t)(n2:89≠t):w'.cell? ⟨D,0,none⟩=some x/\w'.cell? ⟨M,0,none⟩=some y/\w'.cell? ⟨M,1,none⟩=some z:=by
 have a1:some D≠r:=fun e=>tg_ne hT.d (hr D e.symm) n1 rfl
 have a2:some M≠r:=fun e=>tg_ne hT.m (hr M e.symm) n2 rfl
 exact ⟨hg.cell h.1 a1,hg.cell h.2.1 a2,hg.cell h.2.2 a2⟩
theorem ab_r22 {y2 y3 y4 y6 y11 y12 y13 y14 y15 y16 y17 y18 y19 y20 y21 y22 y23 y24 y25 y26 y27 y28 y29 y30 y31 y32 y33 y34 y35 y36 y37 y38 y39 y40 y41 y42 y43 y44 y45 y46 y47 y48 y49 y50 y51 y52 y53 y54 y55 y56 y57 y58 y59 y60 y61 y62 y63 y64 y65 y66 y67 y68 y69 y70 y71 y72 y73 y74 y75 y76 y77 y78 y79 y80 y81 y82 y83 y84 y85 y86 y87 y88 y89 y90 y91 y92 y93 y94 y95 y96 y97 y98 y99 y100 y101 y102 y103 y104 y105 y106 y107 y108 y109 y110 y111 y112 y113 y114 y115 y116 y117 y118 y119 y120 y121 y122 y123 y124 y125 y126 y127 y128 y129 y130 y131 y132 y133 y134 y135 y136 y137 y138 y139 y140 y141 y142 y143 y144 y145 y146 y147 y148 y149 y150 y151 y152 y153 y154 y155 y156 y157 y158 y159 y160 y161 y162 y163 y164 y165 y166 y167 y168 y169 y170 y171 y172 y173 y174 y175 y176 y177 y178 y179:Value}{B b q D M g o p k j c c9 pl m nn nc sm sc fn fc ln lc:Nat}{na sa fa la:Option Addr}{no:Int}{v0:Value}{s:BdS}{L:List (TrT × Nat)}{r:RwT (NdT m)}{wr:World}{K:Exit->Act->World->Prop}
  (h:BuT wr B b q v0 s) (hp:PatL wr q (.slice (some ⟨g,0,none⟩) p c) L) (hl:L.length+1<=1954687338268) (hq:q<=wr.heap.size)
  (d0:wr.cell? ⟨D,0,none⟩=some (.int .i64 no)) (hD:TgT wr D 61) (hM:MdW wr M (.slice na nn nc) (.slice sa sm sc)) (hr:RowT m wr na nn nc sa sm sc r)
  (hj:j+1=k) (hk:k<=1000000000000) (f0:wr.cell? ⟨g,o+2,none⟩=some (.slice fa fn fc)) (l0:wr.cell? ⟨g,o+j*4+3,none⟩=some (.slice la ln lc))
  (hf:BtyT wr fa fn fc (firstK (flatT (m+1) (⟨no,r⟩:BnT (NdT m))))) (hla:BtyT wr la ln lc (lastK (flatT (m+1) (⟨no,r⟩:BnT (NdT m)))))
  (hK:∀ (v156 v157 v158 v159 v160 v161 v162 v163 v164 v165 v166 v167 v168 v169 v170 v171 v172 v173 v174 v175 v176 v177 v178 v179:Value) (wx:World) (v':Value),BuT wx B b q v' ⟨L++[(⟨m+1,(⟨no,r⟩:BnT (NdT m))⟩,pl)],s.used⟩->FrB q wr wx->K .normal ⟨List.toArray ((.pointer (some ⟨B,0,none⟩))::(.int .i64 (pl:Int))::y2::y3::y4::(.pointer (some ⟨D,0,none⟩))::y6::(.int .i64 (k:Nat))::(.slice (some ⟨g,0,none⟩) p c)::(.slice (some ⟨g,o,none⟩) k c9)::(.pointer (some ⟨M,0,none⟩))::y11::y12::y13::y14::y15::y16::y17::y18::y19::y20::y21::y22::y23::y24::y25::y26::y27::y28::y29::y30::y31::y32::y33::y34::y35::y36::y37::y38::y39::y40::y41::y42::y43::y44::y45::y46::y47::y48::y49::y50::y51::y52::y53::y54::y55::y56::y57::y58::y59::y60::y61::y62::y63::y64::y65::y66::y67::y68::y69::y70::y71::y72::y73::y74::y75::y76::y77::y78::y79::y80::y81::y82::y83::y84::y85::y86::y87::y88::y89::y90::y91::y92::y93::y94::y95::y96::y97::y98::y99::y100::y101::y102::y103::y104::y105::y106::y107::y108::y109::y110::y111::y112::y113::y114::y115::y116::y117::y118::y119::y120::y121::y122::y123::y124::y125::y126::y127::y128::y129::y130::y131::y132::y133::y134::y135::y136::y137::y138::y139::y140::y141::y142::y143::y144::y145::y146::y147::y148::y149::y150::y151::y152::y153::y154::y155::v156::v157::v158::v159::v160::v161::v162::v163::v164::v165::v166::v167::v168::v169::v170::v171::v172::v173::v174::v175::v176::v177::v178::v179::[]),[]⟩ wx) :
  Code.wp Tryz.prog (Go.Code.region 22 #[⟨some 156,.move (.tmp 0),138, "build.go:136",#[],none⟩,⟨some 157,.move (.tmp 8),110, "build.go:136",#[],none⟩,⟨some 158,.fieldAddr 61 (.tmp 5) 0,0, "build.go:136",#[],none⟩,⟨some 159,.load 3 (.tmp 158),3, "build.go:136",#[⟨2,.data⟩],none⟩,⟨some 160,.load 89 (.tmp 10),89, "build.go:136",#[],none⟩,⟨some 161,.build 163 #[(0,.tmp 159),(1,.tmp 160)],163, "build.go:136",#[⟨3,.data⟩,⟨4,.data⟩],none⟩,⟨some 162,.box 163 (.tmp 161),161, "build.go:136",#[⟨5,.data⟩],none⟩,⟨some 163,.makeInterface 161 (.tmp 162),116, "build.go:136",#[⟨6,.data⟩],none⟩,⟨some 164,.move (.tmp 1),3, "build.go:136",#[],none⟩,⟨some 165,.move (.tmp 9),110, "build.go:136",#[],none⟩,⟨some 166,.indexAddr 110 (.tmp 165) (.const (.int .i64 0)),0, "build.go:136",#[⟨9,.data⟩],none⟩,⟨some 167,.fieldAddr 118 (.tmp 166) 2,0, "build.go:136",#[⟨10,.data⟩],none⟩,⟨some 168,.load 62 (.tmp 167),62, "build.go:136",#[⟨11,.data⟩],none⟩,⟨some 169,.move (.tmp 9),110, "build.go:136",#[],none⟩,⟨some 170,.move (.tmp 7),3, "build.go:136",#[],none⟩,⟨some 171,.binOp .sub 3 (.tmp 170) (.const (.int .i64 1)) 3,3, "build.go:136",#[⟨14,.data⟩],none⟩,⟨some 172,.indexAddr 110 (.tmp 169) (.tmp 171),0, "build.go:136",#[⟨13,.data⟩,⟨15,.data⟩],none⟩,⟨some 173,.fieldAddr 118 (.tmp 172) 3,0, "build.go:136",#[⟨16,.data⟩],none⟩,⟨some 174,.load 62 (.tmp 173),62, "build.go:136",#[⟨17,.data⟩],none⟩,⟨some 175,.build 118 #[(0,.tmp 163),(1,.tmp 164),(2,.tmp 168),(3,.tmp 174)],118, "build.go:136",#[⟨7,.data⟩,⟨8,.data⟩,⟨12,.data⟩,⟨18,.data⟩],none⟩,⟨some 176,.buildSlice 110 1 #[(0,.tmp 175)],110, "build.go:136",#[⟨19,.data⟩],none⟩,⟨some 177,.call { callee:=.builtin Go.Builtin.append,args:=#[.tmp 157,.tmp 176],argTypes:=#[110,110] },110, "build.go:136",#[⟨1,.data⟩,⟨20,.data⟩],none⟩,⟨some 178,.nilCheck (.tmp 156),0, "build.go:136",#[⟨0,.data⟩,⟨0,.phase⟩,⟨1,.phase⟩,⟨2,.phase⟩,⟨3,.phase⟩,⟨4,.phase⟩,⟨5,.phase⟩,⟨6,.phase⟩,⟨7,.phase⟩,⟨8,.phase⟩,⟨9,.phase⟩,⟨10,.phase⟩,⟨11,.phase⟩,⟨12,.phase⟩,⟨13,.phase⟩,⟨14,.phase⟩,⟨15,.phase⟩,⟨16,.phase⟩,⟨17,.phase⟩,⟨18,.phase⟩,⟨19,.phase⟩,⟨20,.phase⟩,⟨21,.phase⟩],none⟩,⟨some 179,.fieldAddr 112 (.tmp 178) 0,0, "build.go:136",#[⟨22,.data⟩,⟨0,.phase⟩,⟨1,.phase⟩,⟨2,.phase⟩,⟨3,.phase⟩,⟨4,.phase⟩,⟨5,.phase⟩,⟨6,.phase⟩,⟨7,.phase⟩,⟨8,.phase⟩,⟨9,.phase⟩,⟨10,.phase⟩,⟨11,.phase⟩,⟨12,.phase⟩,⟨13,.phase⟩,⟨14,.phase⟩,⟨15,.phase⟩,⟨16,.phase⟩,⟨17,.phase⟩,⟨18,.phase⟩,⟨19,.phase⟩,⟨20,.phase⟩,⟨21,.phase⟩],none⟩,⟨none,.store 110 (.tmp 179) (.tmp 177),0, "build.go:136",#[⟨23,.data⟩,⟨21,.data⟩,⟨21,.chain⟩,⟨0,.phase⟩,⟨1,.phase⟩,⟨2,.phase⟩,⟨3,.phase⟩,⟨4,.phase⟩,⟨5,.phase⟩,⟨6,.phase⟩,⟨7,.phase⟩,⟨8,.phase⟩,⟨9,.phase⟩,⟨10,.phase⟩,⟨11,.phase⟩,⟨12,.phase⟩,⟨13,.phase⟩,⟨14,.phase⟩,⟨15,.phase⟩,⟨16,.phase⟩,⟨17,.phase⟩,⟨18,.phase⟩,⟨19,.phase⟩,⟨20,.phase⟩,⟨21,.phase⟩],none⟩] true) K ⟨List.toArray ((.pointer (some ⟨B,0,none⟩))::(.int .i64 (pl:Int))::y2::y3::y4::(.pointer (some ⟨D,0,none⟩))::y6::(.int .i64 (k:Nat))::(.slice (some ⟨g,0,none⟩) p c)::(.slice (some ⟨g,o,none⟩) k c9)::(.pointer (some ⟨M,0,none⟩))::y11::y12::y13::y14::y15::y16::y17::y18::y19::y20::y21::y22::y23::y24::y25::y26::y27::y28::y29::y30::y31::y32::y33::y34::y35::y36::y37::y38::y39::y40::y41::y42::y43::y44::y45::y46::y47::y48::y49::y50::y51::y52::y53::y54::y55::y56::y57::y58::y59::y60::y61::y62::y63::y64::y65::y66::y67::y68::y69::y70::y71::y72::y73::y74::y75::y76::y77::y78::y79::y80::y81::y82::y83::y84::y85::y86::y87::y88::y89::y90::y91::y92::y93::y94::y95::y96::y97::y98::y99::y100::y101::y102::y103::y104::y105::y106::y107::y108::y109::y110::y111::y112::y113::y114::y115::y116::y117::y118::y119::y120::y121::y122::y123::y124::y125::y126::y127::y128::y129::y130::y131::y132::y133::y134::y135::y136::y137::y138::y139::y140::y141::y142::y143::y144::y145::y146::y147::y148::y149::y150::y151::y152::y153::y154::y155::y156::y157::y158::y159::y160::y161::y162::y163::y164::y165::y166::y167::y168::y169::y170::y171::y172::y173::y174::y175::y176::y177::y178::y179::[]),[]⟩ wr:=by
 have HK:=hZq hK;have HB:=hZq h;have HP:=hZq hp;have HL:=hZq hl;have HQ:=hZq hq;have C0:Hid (wr.cell? ⟨D,0,none⟩=some (.int .i64 no)/\wr.cell? ⟨M,0,none⟩=some (.slice na nn nc)/\wr.cell? ⟨M,1,none⟩=some (.slice sa sm sc)):=⟨d0,cell_of_row wr M 0 _ _ (0,0) hM,cell_of_row wr M 1 _ _ (0,0) hM⟩;have TG:Hid (T5 wr D M):=⟨hD,⟨_,_,hM⟩⟩;have HR:=hZq hr;have CF:=hZq f0;have CL:=hZq l0;have FA:=hZq hf;have LA:=hZq hla;have E0:Hid (firstK (flatT (m+1) (⟨no,r⟩:BnT (NdT m)))=firstK (flatT (m+1) (⟨no,r⟩:BnT (NdT m)))):=rfl;have EL:Hid (lastK (flatT (m+1) (⟨no,r⟩:BnT (NdT m)))=lastK (flatT (m+1) (⟨no,r⟩:BnT (NdT m)))):=rfl;have q1:IntKind.i64.wrap ((k:Int) - 1)=(j:Int):=by rw [show (k:Int) - 1=(j:Int) by omega];exact wrap_id10 (by omega) (by omega)
 have q2:(j:Int)<(k:Int):=by omega
 have q3:(0:Int)<=(j:Int):=by omega
 have q4:(0:Int)<(k:Int):=by omega
 have q5:0<k:=by omega
 have q6:j<k:=by omega
 clear hK h hp hl hq d0 hD hM hr f0 l0 hf hla hj hk;try dsimp only
 refine wp_region_noPanic ?_;refine wp_region_held_drew (S:=(fun w'=>w'.cell? ⟨D,0,none⟩=some (.int .i64 no)/\w'.cell? ⟨M,0,none⟩=some (.slice na nn nc)/\w'.cell? ⟨M,1,none⟩=some (.slice sa sm sc))) (by kernel_rfl) ?_ (fun hHeld=>?_)
 ·exact Q3.kept C0.out ((Qt.refl wr).drew.grown none)
 have GD:=hZq (show wr.grownBy wr.drew none from (Qt.refl wr).drew.grown none);have CD:=hZq (Q3.kept C0.out GD.out);have CFD:=hZq (GD.out.cell CF.out (by simp));have CLD:=hZq (GD.out.cell CL.out (by simp));have TD:=hZq (T5.keptN TG.out GD.out);have HBD:=hZq (HB.out.grown GD.out);have HPD:=hZq (PatL.keptN HP.out GD.out);have HRD:=hZq (HR.out.kept (FrT.of GD.out));have FD:=hZq (FA.out.kept (FrT.of GD.out));have LD:=hZq (LA.out.kept (FrT.of GD.out));generalize wr.drew=wd at *;refine wpAnyH_take (i:=0) (oi:=⟨some 156,.move (.tmp 0),138, "build.go:136",#[],none⟩) (v:=?_) rfl (by kernel_rfl) (by kernel_rfl) (by kernel_rfl) (fun _ _ _ h=>h) (Or.inl ⟨by rfl,?_⟩) (by assumption) ?_
 rotate_left
 ·intro w hSw;(try dsimp only at hSw);go_simp;(try with_reducible rfl)
 simp only [Act.put,List.setIfInBounds_toArray,List.set_cons_zero,List.set_cons_succ];refine wpAnyH_take (i:=1) (oi:=⟨some 157,.move (.tmp 8),110, "build.go:136",#[],none⟩) (v:=?_) rfl (by kernel_rfl) (by kernel_rfl) (by kernel_rfl) (fun _ _ _ h=>h) (Or.inl ⟨by rfl,?_⟩) (by assumption) ?_
 rotate_left
 ·intro w hSw;(try dsimp only at hSw);go_simp;(try with_reducible rfl)
 simp only [Act.put,List.setIfInBounds_toArray,List.set_cons_zero,List.set_cons_succ];refine wpAnyH_take (i:=2) (oi:=⟨some 158,.fieldAddr 61 (.tmp 5) 0,0, "build.go:136",#[],none⟩) (v:=?_) rfl (by kernel_rfl) (by kernel_rfl) (by kernel_rfl) (fun _ _ _ h=>h) (Or.inl ⟨by rfl,?_⟩) (by assumption) ?_
 rotate_left
 ·intro w hSw;(try dsimp only at hSw);go_simp;(try with_reducible rfl)
 simp only [Act.put,List.setIfInBounds_toArray,List.set_cons_zero,List.set_cons_succ];refine wpAnyH_take (i:=3) (oi:=⟨some 159,.load 3 (.tmp 158),3, "build.go:136",#[⟨2,.data⟩],none⟩) (v:=?_) rfl (by kernel_rfl) (by kernel_rfl) (by kernel_rfl) (fun _ _ _ h=>h) (Or.inl ⟨by rfl,?_⟩) (by assumption) ?_
 rotate_left
 ·intro w hSw;(try dsimp only at hSw);go_simp;(try with_reducible rfl)
 simp only [Act.put,List.setIfInBounds_toArray,List.set_cons_zero,List.set_cons_succ];refine wpAnyH_take (i:=4) (oi:=⟨some 160,.load 89 (.tmp 10),89, "build.go:136",#[],none⟩) (v:=?_) rfl (by kernel_rfl) (by kernel_rfl) (by kernel_rfl) (fun _ _ _ h=>h) (Or.inl ⟨by rfl,?_⟩) (by assumption) ?_
 rotate_left
 ·intro w hSw;(try dsimp only at hSw);go_simp;(try with_reducible rfl)
 simp only [Act.put,List.setIfInBounds_toArray,List.set_cons_zero,List.set_cons_succ];refine wpAnyH_take (i:=5) (oi:=⟨some 161,.build 163 #[(0,.tmp 159),(1,.tmp 160)],163, "build.go:136",#[⟨3,.data⟩,⟨4,.data⟩],none⟩) (v:=?_) rfl (by kernel_rfl) (by kernel_rfl) (by kernel_rfl) (fun _ _ _ h=>h) (Or.inl ⟨by rfl,?_⟩) (by assumption) ?_
 rotate_left
 ·intro w hSw;(try dsimp only at hSw);go_simp;(try with_reducible rfl)
 simp only [Act.put,List.setIfInBounds_toArray,List.set_cons_zero,List.set_cons_succ];refine wpAnyH_take (i:=8) (oi:=⟨some 164,.move (.tmp 1),3, "build.go:136",#[],none⟩) (v:=?_) rfl (by kernel_rfl) (by kernel_rfl) (by kernel_rfl) (fun _ _ _ h=>h) (Or.inl ⟨by rfl,?_⟩) (by assumption) ?_
 rotate_left
 ·intro w hSw;(try dsimp only at hSw);go_simp;(try with_reducible rfl)
 simp only [Act.put,List.setIfInBounds_toArray,List.set_cons_zero,List.set_cons_succ];refine wpAnyH_take (i:=9) (oi:=⟨some 165,.move (.tmp 9),110, "build.go:136",#[],none⟩) (v:=?_) rfl (by kernel_rfl) (by kernel_rfl) (by kernel_rfl) (fun _ _ _ h=>h) (Or.inl ⟨by rfl,?_⟩) (by assumption) ?_
 rotate_left
 ·intro w hSw;(try dsimp only at hSw);go_simp;(try with_reducible rfl)
 simp only [Act.put,List.setIfInBounds_toArray,List.set_cons_zero,List.set_cons_succ];refine wpAnyH_take (i:=10) (oi:=⟨some 166,.indexAddr 110 (.tmp 165) (.const (.int .i64 0)),0, "build.go:136",#[⟨9,.data⟩],none⟩) (v:=?_) rfl (by kernel_rfl) (by kernel_rfl) (by kernel_rfl) (fun _ _ _ h=>h) (Or.inl ⟨by rfl,?_⟩) (by assumption) ?_
 rotate_left
 ·intro w hSw;(try dsimp only at hSw);go_simp;(try with_reducible rfl)
 simp only [Act.put,List.setIfInBounds_toArray,List.set_cons_zero,List.set_cons_succ];refine wpAnyH_take (i:=11) (oi:=⟨some 167,.fieldAddr 118 (.tmp 166) 2,0, "build.go:136",#[⟨10,.data⟩],none⟩) (v:=?_) rfl (by kernel_rfl) (by kernel_rfl) (by kernel_rfl) (fun _ _ _ h=>h) (Or.inl ⟨by rfl,?_⟩) (by assumption) ?_
 rotate_left
 ·intro w hSw;(try dsimp only at hSw);go_simp;(try with_reducible rfl)
 simp only [Act.put,List.setIfInBounds_toArray,List.set_cons_zero,List.set_cons_succ];refine wpAnyH_take (i:=13) (oi:=⟨some 169,.move (.tmp 9),110, "build.go:136",#[],none⟩) (v:=?_) rfl (by kernel_rfl) (by kernel_rfl) (by kernel_rfl) (fun _ _ _ h=>h) (Or.inl ⟨by rfl,?_⟩) (by assumption) ?_
 rotate_left
 ·intro w hSw;(try dsimp only at hSw);go_simp;(try with_reducible rfl)
 simp only [Act.put,List.setIfInBounds_toArray,List.set_cons_zero,List.set_cons_succ];refine wpAnyH_take (i:=14) (oi:=⟨some 170,.move (.tmp 7),3, "build.go:136",#[],none⟩) (v:=?_) rfl (by kernel_rfl) (by kernel_rfl) (by kernel_rfl) (fun _ _ _ h=>h) (Or.inl ⟨by rfl,?_⟩) (by assumption) ?_
 rotate_left
 ·intro w hSw;(try dsimp only at hSw);go_simp;(try with_reducible rfl)
 simp only [Act.put,List.setIfInBounds_toArray,List.set_cons_zero,List.set_cons_succ];refine wpAnyH_take (i:=15) (oi:=⟨some 171,.binOp .sub 3 (.tmp 170) (.const (.int .i64 1)) 3,3, "build.go:136",#[⟨14,.data⟩],none⟩) (v:=?_) rfl (by kernel_rfl) (by kernel_rfl) (by kernel_rfl) (fun _ _ _ h=>h) (Or.inl ⟨by rfl,?_⟩) (by assumption) ?_
 rotate_left
 ·intro w hSw;(try dsimp only at hSw);go_simp;(try with_reducible rfl)
 simp only [Act.put,List.setIfInBounds_toArray,List.set_cons_zero,List.set_cons_succ];refine wpAnyH_take (i:=16) (oi:=⟨some 172,.indexAddr 110 (.tmp 169) (.tmp 171),0, "build.go:136",#[⟨13,.data⟩,⟨15,.data⟩],none⟩) (v:=?_) rfl (by kernel_rfl) (by kernel_rfl) (by kernel_rfl) (fun _ _ _ h=>h) (Or.inl ⟨by rfl,?_⟩) (by assumption) ?_
 rotate_left
 ·intro w hSw;(try dsimp only at hSw);go_simp;(try with_reducible rfl)
 simp only [Act.put,List.setIfInBounds_toArray,List.set_cons_zero,List.set_cons_succ];refine wpAnyH_take (i:=17) (oi:=⟨some 173,.fieldAddr 118 (.tmp 172) 3,0, "build.go:136",#[⟨16,.data⟩],none⟩) (v:=?_) rfl (by kernel_rfl) (by kernel_rfl) (by kernel_rfl) (fun _ _ _ h=>h) (Or.inl ⟨by rfl,?_⟩) (by assumption) ?_
 rotate_left
 ·intro w hSw;(try dsimp only at hSw);go_simp;(try with_reducible rfl)
 simp only [Act.put,List.setIfInBounds_toArray,List.set_cons_zero,List.set_cons_succ];refine wpAnyH_ready (rs:=[6,12,18]) (by kernel_rfl) (by simp) ?_;refine AllReadyH.cons (o:=⟨some 162,.box 163 (.tmp 161),161, "build.go:136",#[⟨5,.data⟩],none⟩) rfl (fun K2 hK2=>?_) ?_
 ·go_simp
  refine hK2.out _ _ (Q3.kept CD.out (World.grownBy_alloc wd _ none)) (fun hHeld=>?_);clear hK2 K2;try simp only [Act.put,List.setIfInBounds_toArray,List.set_cons_zero,List.set_cons_succ]
  have ga:=World.grownBy_alloc wd (.cells #[.int .i64 no,.slice na nn nc,.slice sa sm sc] 163) none;have C7:=hZq (Q3.kept CD.out ga);have CF7:=hZq (ga.cell CFD.out (by simp));have CL7:=hZq (ga.cell CLD.out (by simp));have T7:=hZq (T5.keptN TD.out ga);have HB7:=hZq (HBD.out.grown ga);have HP7:=hZq (PatL.keptN HPD.out ga);have N7:=hZq (node_branch no HRD.out);have F7:=hZq (FD.out.kept (FrT.of ga));have L7:=hZq (LD.out.kept (FrT.of ga));have G7:=hZq (gZq GD.out ga);clear ga;generalize wd.alloc (.cells #[.int .i64 no,.slice na nn nc,.slice sa sm sc] 163)=w7 at *;refine wpAnyH_take (i:=7) (oi:=⟨some 163,.makeInterface 161 (.tmp 162),116, "build.go:136",#[⟨6,.data⟩],none⟩) (v:=?_) rfl (by kernel_rfl) (by kernel_rfl) (by kernel_rfl) (fun _ _ _ h=>h) (Or.inl ⟨by rfl,?_⟩) (by assumption) ?_
  rotate_left
  ·intro w hSw;(try dsimp only at hSw);go_simp;(try with_reducible rfl)
  simp only [Act.put,List.setIfInBounds_toArray,List.set_cons_zero,List.set_cons_succ];refine wpAnyH_ready (rs:=[12,18]) (by kernel_rfl) (by simp) ?_;refine AllReadyH.cons (o:=⟨some 168,.load 62 (.tmp 167),62, "build.go:136",#[⟨11,.data⟩],none⟩) rfl (fun K2 hK2=>?_) ?_
  ·have cF:=CF7.out
   go_simp
   refine hK2.out _ _ (C7.out) (fun hHeld=>?_);clear hK2 K2;try simp only [Act.put,List.setIfInBounds_toArray,List.set_cons_zero,List.set_cons_succ]
   refine wpAnyH_ready (rs:=[18]) (by kernel_rfl) (by simp) ?_;refine AllReadyH.cons (o:=⟨some 174,.load 62 (.tmp 173),62, "build.go:136",#[⟨17,.data⟩],none⟩) rfl (fun K2 hK2=>?_) AllReadyH.nil;have cL:=CL7.out
   go_simp
   refine hK2.out _ _ (C7.out) (fun hHeld=>?_);clear hK2 K2;try simp only [Act.put,List.setIfInBounds_toArray,List.set_cons_zero,List.set_cons_succ]
   refine wpAnyH_take (i:=19) (oi:=⟨some 175,.build 118 #[(0,.tmp 163),(1,.tmp 164),(2,.tmp 168),(3,.tmp 174)],118, "build.go:136",#[⟨7,.data⟩,⟨8,.data⟩,⟨12,.data⟩,⟨18,.data⟩],none⟩) (v:=?_) rfl (by kernel_rfl) (by kernel_rfl) (by kernel_rfl) (fun _ _ _ h=>h) (Or.inl ⟨by rfl,?_⟩) (by assumption) ?_
   rotate_left
   ·intro w hSw;(try dsimp only at hSw);go_simp;(try with_reducible rfl)
   simp only [Act.put,List.setIfInBounds_toArray,List.set_cons_zero,List.set_cons_succ];refine wpAnyH_ready (rs:=[20]) (by kernel_rfl) (by simp) ?_;refine AllReadyH.cons (o:=⟨some 176,.buildSlice 110 1 #[(0,.tmp 175)],110, "build.go:136",#[⟨19,.data⟩],none⟩) rfl (fun K2 hK2=>?_) AllReadyH.nil
   go_simp
   refine hK2.out _ _ (Q3.kept C7.out (World.grownBy_alloc w7 _ none)) (fun hHeld=>?_);clear hK2 K2;try simp only [Act.put,List.setIfInBounds_toArray,List.set_cons_zero,List.set_cons_succ]
   have ga:=World.grownBy_alloc w7 (.cells #[.iface 161 (.pointer (some ⟨wd.heap.size,0,none⟩)),.int .i64 (pl:Int),.slice fa fn fc,.slice la ln lc] 118) none;have C8:=hZq (Q3.kept C7.out ga);have T8:=hZq (T5.keptN T7.out ga);have HB8:=hZq (HB7.out.grown ga);have HP8:=hZq (PatL.keptN HP7.out ga);have Y8:=hZq (heap_alloc_new w7 (.cells #[.iface 161 (.pointer (some ⟨wd.heap.size,0,none⟩)),.int .i64 (pl:Int),.slice fa fn fc,.slice la ln lc] 118));have P8:Hid (PaT (w7.alloc (.cells #[.iface 161 (.pointer (some ⟨wd.heap.size,0,none⟩)),.int .i64 (pl:Int),.slice fa fn fc,.slice la ln lc] 118)) [.iface 161 (.pointer (some ⟨wd.heap.size,0,none⟩)),.int .i64 (pl:Int),.slice fa fn fc,.slice la ln lc] (⟨m+1,(⟨no,r⟩:BnT (NdT m))⟩,pl)):=⟨_,_,_,_,_,_,_,rfl,NodeT.kept (m+1) N7.out (FrT.of ga),by have:=F7.out.kept (FrT.of ga);rwa [<- E0.out] at this,by have:=L7.out.kept (FrT.of ga);rwa [<- EL.out] at this⟩;have G8:=hZq (gZq G7.out ga);clear ga;generalize hg9:w7.heap.size=g9 at *;generalize w7.alloc (.cells #[.iface 161 (.pointer (some ⟨wd.heap.size,0,none⟩)),.int .i64 (pl:Int),.slice fa fn fc,.slice la ln lc] 118)=w8 at *;clear hg9;refine wpAnyH_ready (rs:=[21]) (by kernel_rfl) (by simp) ?_;refine AllReadyH.cons (o:=⟨some 177,.call { callee:=.builtin Go.Builtin.append,args:=#[.tmp 157,.tmp 176],argTypes:=#[110,110] },110, "build.go:136",#[⟨1,.data⟩,⟨20,.data⟩],none⟩) rfl (fun K2 hK2=>?_) AllReadyH.nil;refine step_append_pa rfl (.tmp 157) (.tmp 176) rfl q (.slice (some ⟨g,0,none⟩) p c) L (by rfl) HP8.out (⟨m+1,(⟨no,r⟩:BnT (NdT m))⟩,pl) _ P8.out g9 Y8.out (by rfl) HL.out (Nat.le_trans HQ.out G8.out.size) ?_;intro v9 w9 hp9 hg9 hf9 ht9;obtain ⟨a9,c9',hv9,_⟩:=hp9.len;obtain ⟨n9,hn9⟩:∃ n,(L++[((⟨m+1,(⟨no,r⟩:BnT (NdT m))⟩:TrT),pl)]).length=n:=⟨_,rfl⟩;rw [hn9] at hv9;clear hn9;subst hv9;have hb9:=HB8.out.appended (.slice (some ⟨g,0,none⟩) p c) hg9 ht9;have C9:=hZq (Q3.keptR C8.out hg9 ht9 T8.out (by decide) (by decide));have TX:Hid (∀ i,some B=some i->TgT w9 i 112):=fun i e=>by cases e;exact ⟨_,_,hb9.1⟩
   have T9:=hZq (T5.keptR T8.out hg9 ht9);have HP9:=hZq hp9;have HB9:=hZq hb9;have X9:=hZq hf9;clear hp9 hg9 hf9 ht9 hb9;refine hK2.out _ _ (C9.out) (fun hHeld=>?_);clear hK2 K2;try simp only [Act.put,List.setIfInBounds_toArray,List.set_cons_zero,List.set_cons_succ]
   refine wpAnyH_take (i:=22) (oi:=⟨some 178,.nilCheck (.tmp 156),0, "build.go:136",#[⟨0,.data⟩,⟨0,.phase⟩,⟨1,.phase⟩,⟨2,.phase⟩,⟨3,.phase⟩,⟨4,.phase⟩,⟨5,.phase⟩,⟨6,.phase⟩,⟨7,.phase⟩,⟨8,.phase⟩,⟨9,.phase⟩,⟨10,.phase⟩,⟨11,.phase⟩,⟨12,.phase⟩,⟨13,.phase⟩,⟨14,.phase⟩,⟨15,.phase⟩,⟨16,.phase⟩,⟨17,.phase⟩,⟨18,.phase⟩,⟨19,.phase⟩,⟨20,.phase⟩,⟨21,.phase⟩],none⟩) (v:=?_) rfl (by kernel_rfl) (by kernel_rfl) (by kernel_rfl) (fun _ _ _ h=>h) (Or.inl ⟨by rfl,?_⟩) (by assumption) ?_
   rotate_left
   ·intro w hSw;(try dsimp only at hSw);go_simp;(try with_reducible rfl)
   simp only [Act.put,List.setIfInBounds_toArray,List.set_cons_zero,List.set_cons_succ];refine wpAnyH_take (i:=23) (oi:=⟨some 179,.fieldAddr 112 (.tmp 178) 0,0, "build.go:136",#[⟨22,.data⟩,⟨0,.phase⟩,⟨1,.phase⟩,⟨2,.phase⟩,⟨3,.phase⟩,⟨4,.phase⟩,⟨5,.phase⟩,⟨6,.phase⟩,⟨7,.phase⟩,⟨8,.phase⟩,⟨9,.phase⟩,⟨10,.phase⟩,⟨11,.phase⟩,⟨12,.phase⟩,⟨13,.phase⟩,⟨14,.phase⟩,⟨15,.phase⟩,⟨16,.phase⟩,⟨17,.phase⟩,⟨18,.phase⟩,⟨19,.phase⟩,⟨20,.phase⟩,⟨21,.phase⟩],none⟩) (v:=?_) rfl (by kernel_rfl) (by kernel_rfl) (by kernel_rfl) (fun _ _ _ h=>h) (Or.inl ⟨by rfl,?_⟩) (by assumption) ?_
   rotate_left
   ·intro w hSw;(try dsimp only at hSw);go_simp;(try with_reducible rfl)
   simp only [Act.put,List.setIfInBounds_toArray,List.set_cons_zero,List.set_cons_succ];refine wpAnyH_ready (rs:=[24]) (by kernel_rfl) (by simp) ?_;refine AllReadyH.cons (o:=⟨none,.store 110 (.tmp 179) (.tmp 177),0, "build.go:136",#[⟨23,.data⟩,⟨21,.data⟩,⟨21,.chain⟩,⟨0,.phase⟩,⟨1,.phase⟩,⟨2,.phase⟩,⟨3,.phase⟩,⟨4,.phase⟩,⟨5,.phase⟩,⟨6,.phase⟩,⟨7,.phase⟩,⟨8,.phase⟩,⟨9,.phase⟩,⟨10,.phase⟩,⟨11,.phase⟩,⟨12,.phase⟩,⟨13,.phase⟩,⟨14,.phase⟩,⟨15,.phase⟩,⟨16,.phase⟩,⟨17,.phase⟩,⟨18,.phase⟩,⟨19,.phase⟩,⟨20,.phase⟩,⟨21,.phase⟩],none⟩) rfl (fun K2 hK2=>?_) AllReadyH.nil;have PT:=hZq (BuT.put HB9.out.1 HP9.out HB9.out.2 HB8.out.qb HB8.out.qB);have cw:w9.cell? ⟨B,0,none⟩=some v0:=cell_of_row w9 B 0 _ _ (0,0) HB9.out.1;have fw:w9.frozen? ⟨B,0,none⟩=false:=frozen_of_row w9 B 0 _ _ HB9.out.1
   go_simp
   refine hK2.out _ _ (Q3.keptR C9.out (grown_cell w9 B 0 (.slice a9 n9 c9')) TX.out T9.out (by decide) (by decide)) (fun hHeld=>?_);clear hK2 K2;try simp only [Act.put,List.setIfInBounds_toArray,List.set_cons_zero,List.set_cons_succ]
   refine wpAnyH_done (by kernel_rfl) ?_ _;refine NoPanic.normal ?_;exact HK.out _ _ _ _ _ _ _ _ _ _ _ _ _ _ _ _ _ _ _ _ _ _ _ _ _ _ PT.out.1 ((FrB.of G8.out).trans (X9.out.trans PT.out.2))
  refine AllReadyH.cons (o:=⟨some 174,.load 62 (.tmp 173),62, "build.go:136",#[⟨17,.data⟩],none⟩) rfl (fun K2 hK2=>?_) AllReadyH.nil;have cL:=CL7.out
  go_simp
  refine hK2.out _ _ (C7.out) (fun hHeld=>?_);clear hK2 K2;try simp only [Act.put,List.setIfInBounds_toArray,List.set_cons_zero,List.set_cons_succ]
  refine wpAnyH_ready (rs:=[12]) (by kernel_rfl) (by simp) ?_;refine AllReadyH.cons (o:=⟨some 168,.load 62 (.tmp 167),62, "build.go:136",#[⟨11,.data⟩],none⟩) rfl (fun K2 hK2=>?_) AllReadyH.nil;have cF:=CF7.out
  go_simp
  refine hK2.out _ _ (C7.out) (fun hHeld=>?_);clear hK2 K2;try simp only [Act.put,List.setIfInBounds_toArray,List.set_cons_zero,List.set_cons_succ]
  refine wpAnyH_take (i:=19) (oi:=⟨some 175,.build 118 #[(0,.tmp 163),(1,.tmp 164),(2,.tmp 168),(3,.tmp 174)],118, "build.go:136",#[⟨7,.data⟩,⟨8,.data⟩,⟨12,.data⟩,⟨18,.data⟩],none⟩) (v:=?_) rfl (by kernel_rfl) (by kernel_rfl) (by kernel_rfl) (fun _ _ _ h=>h) (Or.inl ⟨by rfl,?_⟩) (by assumption) ?_
  rotate_left
  ·intro w hSw;(try dsimp only at hSw);go_simp;(try with_reducible rfl)
  simp only [Act.put,List.setIfInBounds_toArray,List.set_cons_zero,List.set_cons_succ];refine wpAnyH_ready (rs:=[20]) (by kernel_rfl) (by simp) ?_;refine AllReadyH.cons (o:=⟨some 176,.buildSlice 110 1 #[(0,.tmp 175)],110, "build.go:136",#[⟨19,.data⟩],none⟩) rfl (fun K2 hK2=>?_) AllReadyH.nil
  go_simp
  refine hK2.out _ _ (Q3.kept C7.out (World.grownBy_alloc w7 _ none)) (fun hHeld=>?_);clear hK2 K2;try simp only [Act.put,List.setIfInBounds_toArray,List.set_cons_zero,List.set_cons_succ]
  have ga:=World.grownBy_alloc w7 (.cells #[.iface 161 (.pointer (some ⟨wd.heap.size,0,none⟩)),.int .i64 (pl:Int),.slice fa fn fc,.slice la ln lc] 118) none;have C8:=hZq (Q3.kept C7.out ga);have T8:=hZq (T5.keptN T7.out ga);have HB8:=hZq (HB7.out.grown ga);have HP8:=hZq (PatL.keptN HP7.out ga);have Y8:=hZq (heap_alloc_new w7 (.cells #[.iface 161 (.pointer (some ⟨wd.heap.size,0,none⟩)),.int .i64 (pl:Int),.slice fa fn fc,.slice la ln lc] 118));have P8:Hid (PaT (w7.alloc (.cells #[.iface 161 (.pointer (some ⟨wd.heap.size,0,none⟩)),.int .i64 (pl:Int),.slice fa fn fc,.slice la ln lc] 118)) [.iface 161 (.pointer (some ⟨wd.heap.size,0,none⟩)),.int .i64 (pl:Int),.slice fa fn fc,.slice la ln lc] (⟨m+1,(⟨no,r⟩:BnT (NdT m))⟩,pl)):=⟨_,_,_,_,_,_,_,rfl,NodeT.kept (m+1) N7.out (FrT.of ga),by have:=F7.out.kept (FrT.of ga);rwa [<- E0.out] at this,by have:=L7.out.kept (FrT.of ga);rwa [<- EL.out] at this⟩;have G8:=hZq (gZq G7.out ga);clear ga;generalize hg9:w7.heap.size=g9 at *;generalize w7.alloc (.cells #[.iface 161 (.pointer (some ⟨wd.heap.size,0,none⟩)),.int .i64 (pl:Int),.slice fa fn fc,.slice la ln lc] 118)=w8 at *;clear hg9;refine wpAnyH_ready (rs:=[21]) (by kernel_rfl) (by simp) ?_;refine AllReadyH.cons (o:=⟨some 177,.call { callee:=.builtin Go.Builtin.append,args:=#[.tmp 157,.tmp 176],argTypes:=#[110,110] },110, "build.go:136",#[⟨1,.data⟩,⟨20,.data⟩],none⟩) rfl (fun K2 hK2=>?_) AllReadyH.nil;refine step_append_pa rfl (.tmp 157) (.tmp 176) rfl q (.slice (some ⟨g,0,none⟩) p c) L (by rfl) HP8.out (⟨m+1,(⟨no,r⟩:BnT (NdT m))⟩,pl) _ P8.out g9 Y8.out (by rfl) HL.out (Nat.le_trans HQ.out G8.out.size) ?_;intro v9 w9 hp9 hg9 hf9 ht9;obtain ⟨a9,c9',hv9,_⟩:=hp9.len;obtain ⟨n9,hn9⟩:∃ n,(L++[((⟨m+1,(⟨no,r⟩:BnT (NdT m))⟩:TrT),pl)]).length=n:=⟨_,rfl⟩;rw [hn9] at hv9;clear hn9;subst hv9;have hb9:=HB8.out.appended (.slice (some ⟨g,0,none⟩) p c) hg9 ht9;have C9:=hZq (Q3.keptR C8.out hg9 ht9 T8.out (by decide) (by decide));have TX:Hid (∀ i,some B=some i->TgT w9 i 112):=fun i e=>by cases e;exact ⟨_,_,hb9.1⟩
  have T9:=hZq (T5.keptR T8.out hg9 ht9);have HP9:=hZq hp9;have HB9:=hZq hb9;have X9:=hZq hf9;clear hp9 hg9 hf9 ht9 hb9;refine hK2.out _ _ (C9.out) (fun hHeld=>?_);clear hK2 K2;try simp only [Act.put,List.setIfInBounds_toArray,List.set_cons_zero,List.set_cons_succ]
  refine wpAnyH_take (i:=22) (oi:=⟨some 178,.nilCheck (.tmp 156),0, "build.go:136",#[⟨0,.data⟩,⟨0,.phase⟩,⟨1,.phase⟩,⟨2,.phase⟩,⟨3,.phase⟩,⟨4,.phase⟩,⟨5,.phase⟩,⟨6,.phase⟩,⟨7,.phase⟩,⟨8,.phase⟩,⟨9,.phase⟩,⟨10,.phase⟩,⟨11,.phase⟩,⟨12,.phase⟩,⟨13,.phase⟩,⟨14,.phase⟩,⟨15,.phase⟩,⟨16,.phase⟩,⟨17,.phase⟩,⟨18,.phase⟩,⟨19,.phase⟩,⟨20,.phase⟩,⟨21,.phase⟩],none⟩) (v:=?_) rfl (by kernel_rfl) (by kernel_rfl) (by kernel_rfl) (fun _ _ _ h=>h) (Or.inl ⟨by rfl,?_⟩) (by assumption) ?_
  rotate_left
  ·intro w hSw;(try dsimp only at hSw);go_simp;(try with_reducible rfl)
  simp only [Act.put,List.setIfInBounds_toArray,List.set_cons_zero,List.set_cons_succ];refine wpAnyH_take (i:=23) (oi:=⟨some 179,.fieldAddr 112 (.tmp 178) 0,0, "build.go:136",#[⟨22,.data⟩,⟨0,.phase⟩,⟨1,.phase⟩,⟨2,.phase⟩,⟨3,.phase⟩,⟨4,.phase⟩,⟨5,.phase⟩,⟨6,.phase⟩,⟨7,.phase⟩,⟨8,.phase⟩,⟨9,.phase⟩,⟨10,.phase⟩,⟨11,.phase⟩,⟨12,.phase⟩,⟨13,.phase⟩,⟨14,.phase⟩,⟨15,.phase⟩,⟨16,.phase⟩,⟨17,.phase⟩,⟨18,.phase⟩,⟨19,.phase⟩,⟨20,.phase⟩,⟨21,.phase⟩],none⟩) (v:=?_) rfl (by kernel_rfl) (by kernel_rfl) (by kernel_rfl) (fun _ _ _ h=>h) (Or.inl ⟨by rfl,?_⟩) (by assumption) ?_
  rotate_left
  ·intro w hSw;(try dsimp only at hSw);go_simp;(try with_reducible rfl)
  simp only [Act.put,List.setIfInBounds_toArray,List.set_cons_zero,List.set_cons_succ];refine wpAnyH_ready (rs:=[24]) (by kernel_rfl) (by simp) ?_;refine AllReadyH.cons (o:=⟨none,.store 110 (.tmp 179) (.tmp 177),0, "build.go:136",#[⟨23,.data⟩,⟨21,.data⟩,⟨21,.chain⟩,⟨0,.phase⟩,⟨1,.phase⟩,⟨2,.phase⟩,⟨3,.phase⟩,⟨4,.phase⟩,⟨5,.phase⟩,⟨6,.phase⟩,⟨7,.phase⟩,⟨8,.phase⟩,⟨9,.phase⟩,⟨10,.phase⟩,⟨11,.phase⟩,⟨12,.phase⟩,⟨13,.phase⟩,⟨14,.phase⟩,⟨15,.phase⟩,⟨16,.phase⟩,⟨17,.phase⟩,⟨18,.phase⟩,⟨19,.phase⟩,⟨20,.phase⟩,⟨21,.phase⟩],none⟩) rfl (fun K2 hK2=>?_) AllReadyH.nil;have PT:=hZq (BuT.put HB9.out.1 HP9.out HB9.out.2 HB8.out.qb HB8.out.qB);have cw:w9.cell? ⟨B,0,none⟩=some v0:=cell_of_row w9 B 0 _ _ (0,0) HB9.out.1;have fw:w9.frozen? ⟨B,0,none⟩=false:=frozen_of_row w9 B 0 _ _ HB9.out.1
  go_simp
  refine hK2.out _ _ (Q3.keptR C9.out (grown_cell w9 B 0 (.slice a9 n9 c9')) TX.out T9.out (by decide) (by decide)) (fun hHeld=>?_);clear hK2 K2;try simp only [Act.put,List.setIfInBounds_toArray,List.set_cons_zero,List.set_cons_succ]
  refine wpAnyH_done (by kernel_rfl) ?_ _;refine NoPanic.normal ?_;exact HK.out _ _ _ _ _ _ _ _ _ _ _ _ _ _ _ _ _ _ _ _ _ _ _ _ _ _ PT.out.1 ((FrB.of G8.out).trans (X9.out.trans PT.out.2))
 refine AllReadyH.cons (o:=⟨some 168,.load 62 (.tmp 167),62, "build.go:136",#[⟨11,.data⟩],none⟩) rfl (fun K2 hK2=>?_) ?_
 ·have cF:=CFD.out
  go_simp
  refine hK2.out _ _ (CD.out) (fun hHeld=>?_);clear hK2 K2;try simp only [Act.put,List.setIfInBounds_toArray,List.set_cons_zero,List.set_cons_succ]
  refine wpAnyH_ready (rs:=[6,18]) (by kernel_rfl) (by simp) ?_;refine AllReadyH.cons (o:=⟨some 162,.box 163 (.tmp 161),161, "build.go:136",#[⟨5,.data⟩],none⟩) rfl (fun K2 hK2=>?_) ?_
  ·go_simp
   refine hK2.out _ _ (Q3.kept CD.out (World.grownBy_alloc wd _ none)) (fun hHeld=>?_);clear hK2 K2;try simp only [Act.put,List.setIfInBounds_toArray,List.set_cons_zero,List.set_cons_succ]
   have ga:=World.grownBy_alloc wd (.cells #[.int .i64 no,.slice na nn nc,.slice sa sm sc] 163) none;have C7:=hZq (Q3.kept CD.out ga);have CF7:=hZq (ga.cell CFD.out (by simp));have CL7:=hZq (ga.cell CLD.out (by simp));have T7:=hZq (T5.keptN TD.out ga);have HB7:=hZq (HBD.out.grown ga);have HP7:=hZq (PatL.keptN HPD.out ga);have N7:=hZq (node_branch no HRD.out);have F7:=hZq (FD.out.kept (FrT.of ga));have L7:=hZq (LD.out.kept (FrT.of ga));have G7:=hZq (gZq GD.out ga);clear ga;generalize wd.alloc (.cells #[.int .i64 no,.slice na nn nc,.slice sa sm sc] 163)=w7 at *;refine wpAnyH_take (i:=7) (oi:=⟨some 163,.makeInterface 161 (.tmp 162),116, "build.go:136",#[⟨6,.data⟩],none⟩) (v:=?_) rfl (by kernel_rfl) (by kernel_rfl) (by kernel_rfl) (fun _ _ _ h=>h) (Or.inl ⟨by rfl,?_⟩) (by assumption) ?_
   rotate_left
   ·intro w hSw;(try dsimp only at hSw);go_simp;(try with_reducible rfl)
   simp only [Act.put,List.setIfInBounds_toArray,List.set_cons_zero,List.set_cons_succ];refine wpAnyH_ready (rs:=[18]) (by kernel_rfl) (by simp) ?_;refine AllReadyH.cons (o:=⟨some 174,.load 62 (.tmp 173),62, "build.go:136",#[⟨17,.data⟩],none⟩) rfl (fun K2 hK2=>?_) AllReadyH.nil;have cL:=CL7.out
   go_simp
   refine hK2.out _ _ (C7.out) (fun hHeld=>?_);clear hK2 K2;try simp only [Act.put,List.setIfInBounds_toArray,List.set_cons_zero,List.set_cons_succ]
   refine wpAnyH_take (i:=19) (oi:=⟨some 175,.build 118 #[(0,.tmp 163),(1,.tmp 164),(2,.tmp 168),(3,.tmp 174)],118, "build.go:136",#[⟨7,.data⟩,⟨8,.data⟩,⟨12,.data⟩,⟨18,.data⟩],none⟩) (v:=?_) rfl (by kernel_rfl) (by kernel_rfl) (by kernel_rfl) (fun _ _ _ h=>h) (Or.inl ⟨by rfl,?_⟩) (by assumption) ?_
   rotate_left
   ·intro w hSw;(try dsimp only at hSw);go_simp;(try with_reducible rfl)
   simp only [Act.put,List.setIfInBounds_toArray,List.set_cons_zero,List.set_cons_succ];refine wpAnyH_ready (rs:=[20]) (by kernel_rfl) (by simp) ?_;refine AllReadyH.cons (o:=⟨some 176,.buildSlice 110 1 #[(0,.tmp 175)],110, "build.go:136",#[⟨19,.data⟩],none⟩) rfl (fun K2 hK2=>?_) AllReadyH.nil
   go_simp
   refine hK2.out _ _ (Q3.kept C7.out (World.grownBy_alloc w7 _ none)) (fun hHeld=>?_);clear hK2 K2;try simp only [Act.put,List.setIfInBounds_toArray,List.set_cons_zero,List.set_cons_succ]
   have ga:=World.grownBy_alloc w7 (.cells #[.iface 161 (.pointer (some ⟨wd.heap.size,0,none⟩)),.int .i64 (pl:Int),.slice fa fn fc,.slice la ln lc] 118) none;have C8:=hZq (Q3.kept C7.out ga);have T8:=hZq (T5.keptN T7.out ga);have HB8:=hZq (HB7.out.grown ga);have HP8:=hZq (PatL.keptN HP7.out ga);have Y8:=hZq (heap_alloc_new w7 (.cells #[.iface 161 (.pointer (some ⟨wd.heap.size,0,none⟩)),.int .i64 (pl:Int),.slice fa fn fc,.slice la ln lc] 118));have P8:Hid (PaT (w7.alloc (.cells #[.iface 161 (.pointer (some ⟨wd.heap.size,0,none⟩)),.int .i64 (pl:Int),.slice fa fn fc,.slice la ln lc] 118)) [.iface 161 (.pointer (some ⟨wd.heap.size,0,none⟩)),.int .i64 (pl:Int),.slice fa fn fc,.slice la ln lc] (⟨m+1,(⟨no,r⟩:BnT (NdT m))⟩,pl)):=⟨_,_,_,_,_,_,_,rfl,NodeT.kept (m+1) N7.out (FrT.of ga),by have:=F7.out.kept (FrT.of ga);rwa [<- E0.out] at this,by have:=L7.out.kept (FrT.of ga);rwa [<- EL.out] at this⟩;have G8:=hZq (gZq G7.out ga);clear ga;generalize hg9:w7.heap.size=g9 at *;generalize w7.alloc (.cells #[.iface 161 (.pointer (some ⟨wd.heap.size,0,none⟩)),.int .i64 (pl:Int),.slice fa fn fc,.slice la ln lc] 118)=w8 at *;clear hg9;refine wpAnyH_ready (rs:=[21]) (by kernel_rfl) (by simp) ?_;refine AllReadyH.cons (o:=⟨some 177,.call { callee:=.builtin Go.Builtin.append,args:=#[.tmp 157,.tmp 176],argTypes:=#[110,110] },110, "build.go:136",#[⟨1,.data⟩,⟨20,.data⟩],none⟩) rfl (fun K2 hK2=>?_) AllReadyH.nil;refine step_append_pa rfl (.tmp 157) (.tmp 176) rfl q (.slice (some ⟨g,0,none⟩) p c) L (by rfl) HP8.out (⟨m+1,(⟨no,r⟩:BnT (NdT m))⟩,pl) _ P8.out g9 Y8.out (by rfl) HL.out (Nat.le_trans HQ.out G8.out.size) ?_;intro v9 w9 hp9 hg9 hf9 ht9;obtain ⟨a9,c9',hv9,_⟩:=hp9.len;obtain ⟨n9,hn9⟩:∃ n,(L++[((⟨m+1,(⟨no,r⟩:BnT (NdT m))⟩:TrT),pl)]).length=n:=⟨_,rfl⟩;rw [hn9] at hv9;clear hn9;subst hv9;have hb9:=HB8.out.appended (.slice (some ⟨g,0,none⟩) p c) hg9 ht9;have C9:=hZq (Q3.keptR C8.out hg9 ht9 T8.out (by decide) (by decide));have TX:Hid (∀ i,some B=some i->TgT w9 i 112):=fun i e=>by cases e;exact ⟨_,_,hb9.1⟩
   have T9:=hZq (T5.keptR T8.out hg9 ht9);have HP9:=hZq hp9;have HB9:=hZq hb9;have X9:=hZq hf9;clear hp9 hg9 hf9 ht9 hb9;refine hK2.out _ _ (C9.out) (fun hHeld=>?_);clear hK2 K2;try simp only [Act.put,List.setIfInBounds_toArray,List.set_cons_zero,List.set_cons_succ]
   refine wpAnyH_take (i:=22) (oi:=⟨some 178,.nilCheck (.tmp 156),0, "build.go:136",#[⟨0,.data⟩,⟨0,.phase⟩,⟨1,.phase⟩,⟨2,.phase⟩,⟨3,.phase⟩,⟨4,.phase⟩,⟨5,.phase⟩,⟨6,.phase⟩,⟨7,.phase⟩,⟨8,.phase⟩,⟨9,.phase⟩,⟨10,.phase⟩,⟨11,.phase⟩,⟨12,.phase⟩,⟨13,.phase⟩,⟨14,.phase⟩,⟨15,.phase⟩,⟨16,.phase⟩,⟨17,.phase⟩,⟨18,.phase⟩,⟨19,.phase⟩,⟨20,.phase⟩,⟨21,.phase⟩],none⟩) (v:=?_) rfl (by kernel_rfl) (by kernel_rfl) (by kernel_rfl) (fun _ _ _ h=>h) (Or.inl ⟨by rfl,?_⟩) (by assumption) ?_
   rotate_left
   ·intro w hSw;(try dsimp only at hSw);go_simp;(try with_reducible rfl)
   simp only [Act.put,List.setIfInBounds_toArray,List.set_cons_zero,List.set_cons_succ];refine wpAnyH_take (i:=23) (oi:=⟨some 179,.fieldAddr 112 (.tmp 178) 0,0, "build.go:136",#[⟨22,.data⟩,⟨0,.phase⟩,⟨1,.phase⟩,⟨2,.phase⟩,⟨3,.phase⟩,⟨4,.phase⟩,⟨5,.phase⟩,⟨6,.phase⟩,⟨7,.phase⟩,⟨8,.phase⟩,⟨9,.phase⟩,⟨10,.phase⟩,⟨11,.phase⟩,⟨12,.phase⟩,⟨13,.phase⟩,⟨14,.phase⟩,⟨15,.phase⟩,⟨16,.phase⟩,⟨17,.phase⟩,⟨18,.phase⟩,⟨19,.phase⟩,⟨20,.phase⟩,⟨21,.phase⟩],none⟩) (v:=?_) rfl (by kernel_rfl) (by kernel_rfl) (by kernel_rfl) (fun _ _ _ h=>h) (Or.inl ⟨by rfl,?_⟩) (by assumption) ?_
   rotate_left
   ·intro w hSw;(try dsimp only at hSw);go_simp;(try with_reducible rfl)
   simp only [Act.put,List.setIfInBounds_toArray,List.set_cons_zero,List.set_cons_succ];refine wpAnyH_ready (rs:=[24]) (by kernel_rfl) (by simp) ?_;refine AllReadyH.cons (o:=⟨none,.store 110 (.tmp 179) (.tmp 177),0, "build.go:136",#[⟨23,.data⟩,⟨21,.data⟩,⟨21,.chain⟩,⟨0,.phase⟩,⟨1,.phase⟩,⟨2,.phase⟩,⟨3,.phase⟩,⟨4,.phase⟩,⟨5,.phase⟩,⟨6,.phase⟩,⟨7,.phase⟩,⟨8,.phase⟩,⟨9,.phase⟩,⟨10,.phase⟩,⟨11,.phase⟩,⟨12,.phase⟩,⟨13,.phase⟩,⟨14,.phase⟩,⟨15,.phase⟩,⟨16,.phase⟩,⟨17,.phase⟩,⟨18,.phase⟩,⟨19,.phase⟩,⟨20,.phase⟩,⟨21,.phase⟩],none⟩) rfl (fun K2 hK2=>?_) AllReadyH.nil;have PT:=hZq (BuT.put HB9.out.1 HP9.out HB9.out.2 HB8.out.qb HB8.out.qB);have cw:w9.cell? ⟨B,0,none⟩=some v0:=cell_of_row w9 B 0 _ _ (0,0) HB9.out.1;have fw:w9.frozen? ⟨B,0,none⟩=false:=frozen_of_row w9 B 0 _ _ HB9.out.1
   go_simp
   refine hK2.out _ _ (Q3.keptR C9.out (grown_cell w9 B 0 (.slice a9 n9 c9')) TX.out T9.out (by decide) (by decide)) (fun hHeld=>?_);clear hK2 K2;try simp only [Act.put,List.setIfInBounds_toArray,List.set_cons_zero,List.set_cons_succ]
   refine wpAnyH_done (by kernel_rfl) ?_ _;refine NoPanic.normal ?_;exact HK.out _ _ _ _ _ _ _ _ _ _ _ _ _ _ _ _ _ _ _ _ _ _ _ _ _ _ PT.out.1 ((FrB.of G8.out).trans (X9.out.trans PT.out.2))
  refine AllReadyH.cons (o:=⟨some 174,.load 62 (.tmp 173),62, "build.go:136",#[⟨17,.data⟩],none⟩) rfl (fun K2 hK2=>?_) AllReadyH.nil;have cL:=CLD.out
  go_simp
  refine hK2.out _ _ (CD.out) (fun hHeld=>?_);clear hK2 K2;try simp only [Act.put,List.setIfInBounds_toArray,List.set_cons_zero,List.set_cons_succ]
  refine wpAnyH_ready (rs:=[6]) (by kernel_rfl) (by simp) ?_;refine AllReadyH.cons (o:=⟨some 162,.box 163 (.tmp 161),161, "build.go:136",#[⟨5,.data⟩],none⟩) rfl (fun K2 hK2=>?_) AllReadyH.nil
  go_simp
  refine hK2.out _ _ (Q3.kept CD.out (World.grownBy_alloc wd _ none)) (fun hHeld=>?_);clear hK2 K2;try simp only [Act.put,List.setIfInBounds_toArray,List.set_cons_zero,List.set_cons_succ]
  have ga:=World.grownBy_alloc wd (.cells #[.int .i64 no,.slice na nn nc,.slice sa sm sc] 163) none;have C7:=hZq (Q3.kept CD.out ga);have CF7:=hZq (ga.cell CFD.out (by simp));have CL7:=hZq (ga.cell CLD.out (by simp));have T7:=hZq (T5.keptN TD.out ga);have HB7:=hZq (HBD.out.grown ga);have HP7:=hZq (PatL.keptN HPD.out ga);have N7:=hZq (node_branch no HRD.out);have F7:=hZq (FD.out.kept (FrT.of ga));have L7:=hZq (LD.out.kept (FrT.of ga));have G7:=hZq (gZq GD.out ga);clear ga;generalize wd.alloc (.cells #[.int .i64 no,.slice na nn nc,.slice sa sm sc] 163)=w7 at *;refine wpAnyH_take (i:=7) (oi:=⟨some 163,.makeInterface 161 (.tmp 162),116, "build.go:136",#[⟨6,.data⟩],none⟩) (v:=?_) rfl (by kernel_rfl) (by kernel_rfl) (by kernel_rfl) (fun _ _ _ h=>h) (Or.inl ⟨by rfl,?_⟩) (by assumption) ?_
  rotate_left
  ·intro w hSw;(try dsimp only at hSw);go_simp;(try with_reducible rfl)
  simp only [Act.put,List.setIfInBounds_toArray,List.set_cons_zero,List.set_cons_succ];refine wpAnyH_take (i:=19) (oi:=⟨some 175,.build 118 #[(0,.tmp 163),(1,.tmp 164),(2,.tmp 168),(3,.tmp 174)],118, "build.go:136",#[⟨7,.data⟩,⟨8,.data⟩,⟨12,.data⟩,⟨18,.data⟩],none⟩) (v:=?_) rfl (by kernel_rfl) (by kernel_rfl) (by kernel_rfl) (fun _ _ _ h=>h) (Or.inl ⟨by rfl,?_⟩) (by assumption) ?_
  rotate_left
  ·intro w hSw;(try dsimp only at hSw);go_simp;(try with_reducible rfl)
  simp only [Act.put,List.setIfInBounds_toArray,List.set_cons_zero,List.set_cons_succ];refine wpAnyH_ready (rs:=[20]) (by kernel_rfl) (by simp) ?_;refine AllReadyH.cons (o:=⟨some 176,.buildSlice 110 1 #[(0,.tmp 175)],110, "build.go:136",#[⟨19,.data⟩],none⟩) rfl (fun K2 hK2=>?_) AllReadyH.nil
  go_simp
  refine hK2.out _ _ (Q3.kept C7.out (World.grownBy_alloc w7 _ none)) (fun hHeld=>?_);clear hK2 K2;try simp only [Act.put,List.setIfInBounds_toArray,List.set_cons_zero,List.set_cons_succ]
  have ga:=World.grownBy_alloc w7 (.cells #[.iface 161 (.pointer (some ⟨wd.heap.size,0,none⟩)),.int .i64 (pl:Int),.slice fa fn fc,.slice la ln lc] 118) none;have C8:=hZq (Q3.kept C7.out ga);have T8:=hZq (T5.keptN T7.out ga);have HB8:=hZq (HB7.out.grown ga);have HP8:=hZq (PatL.keptN HP7.out ga);have Y8:=hZq (heap_alloc_new w7 (.cells #[.iface 161 (.pointer (some ⟨wd.heap.size,0,none⟩)),.int .i64 (pl:Int),.slice fa fn fc,.slice la ln lc] 118));have P8:Hid (PaT (w7.alloc (.cells #[.iface 161 (.pointer (some ⟨wd.heap.size,0,none⟩)),.int .i64 (pl:Int),.slice fa fn fc,.slice la ln lc] 118)) [.iface 161 (.pointer (some ⟨wd.heap.size,0,none⟩)),.int .i64 (pl:Int),.slice fa fn fc,.slice la ln lc] (⟨m+1,(⟨no,r⟩:BnT (NdT m))⟩,pl)):=⟨_,_,_,_,_,_,_,rfl,NodeT.kept (m+1) N7.out (FrT.of ga),by have:=F7.out.kept (FrT.of ga);rwa [<- E0.out] at this,by have:=L7.out.kept (FrT.of ga);rwa [<- EL.out] at this⟩;have G8:=hZq (gZq G7.out ga);clear ga;generalize hg9:w7.heap.size=g9 at *;generalize w7.alloc (.cells #[.iface 161 (.pointer (some ⟨wd.heap.size,0,none⟩)),.int .i64 (pl:Int),.slice fa fn fc,.slice la ln lc] 118)=w8 at *;clear hg9;refine wpAnyH_ready (rs:=[21]) (by kernel_rfl) (by simp) ?_;refine AllReadyH.cons (o:=⟨some 177,.call { callee:=.builtin Go.Builtin.append,args:=#[.tmp 157,.tmp 176],argTypes:=#[110,110] },110, "build.go:136",#[⟨1,.data⟩,⟨20,.data⟩],none⟩) rfl (fun K2 hK2=>?_) AllReadyH.nil;refine step_append_pa rfl (.tmp 157) (.tmp 176) rfl q (.slice (some ⟨g,0,none⟩) p c) L (by rfl) HP8.out (⟨m+1,(⟨no,r⟩:BnT (NdT m))⟩,pl) _ P8.out g9 Y8.out (by rfl) HL.out (Nat.le_trans HQ.out G8.out.size) ?_;intro v9 w9 hp9 hg9 hf9 ht9;obtain ⟨a9,c9',hv9,_⟩:=hp9.len;obtain ⟨n9,hn9⟩:∃ n,(L++[((⟨m+1,(⟨no,r⟩:BnT (NdT m))⟩:TrT),pl)]).length=n:=⟨_,rfl⟩;rw [hn9] at hv9;clear hn9;subst hv9;have hb9:=HB8.out.appended (.slice (some ⟨g,0,none⟩) p c) hg9 ht9;have C9:=hZq (Q3.keptR C8.out hg9 ht9 T8.out (by decide) (by decide));have TX:Hid (∀ i,some B=some i->TgT w9 i 112):=fun i e=>by cases e;exact ⟨_,_,hb9.1⟩
  have T9:=hZq (T5.keptR T8.out hg9 ht9);have HP9:=hZq hp9;have HB9:=hZq hb9;have X9:=hZq hf9;clear hp9 hg9 hf9 ht9 hb9;refine hK2.out _ _ (C9.out) (fun hHeld=>?_);clear hK2 K2;try simp only [Act.put,List.setIfInBounds_toArray,List.set_cons_zero,List.set_cons_succ]
  refine wpAnyH_take (i:=22) (oi:=⟨some 178,.nilCheck (.tmp 156),0, "build.go:136",#[⟨0,.data⟩,⟨0,.phase⟩,⟨1,.phase⟩,⟨2,.phase⟩,⟨3,.phase⟩,⟨4,.phase⟩,⟨5,.phase⟩,⟨6,.phase⟩,⟨7,.phase⟩,⟨8,.phase⟩,⟨9,.phase⟩,⟨10,.phase⟩,⟨11,.phase⟩,⟨12,.phase⟩,⟨13,.phase⟩,⟨14,.phase⟩,⟨15,.phase⟩,⟨16,.phase⟩,⟨17,.phase⟩,⟨18,.phase⟩,⟨19,.phase⟩,⟨20,.phase⟩,⟨21,.phase⟩],none⟩) (v:=?_) rfl (by kernel_rfl) (by kernel_rfl) (by kernel_rfl) (fun _ _ _ h=>h) (Or.inl ⟨by rfl,?_⟩) (by assumption) ?_
  rotate_left
  ·intro w hSw;(try dsimp only at hSw);go_simp;(try with_reducible rfl)
  simp only [Act.put,List.setIfInBounds_toArray,List.set_cons_zero,List.set_cons_succ];refine wpAnyH_take (i:=23) (oi:=⟨some 179,.fieldAddr 112 (.tmp 178) 0,0, "build.go:136",#[⟨22,.data⟩,⟨0,.phase⟩,⟨1,.phase⟩,⟨2,.phase⟩,⟨3,.phase⟩,⟨4,.phase⟩,⟨5,.phase⟩,⟨6,.phase⟩,⟨7,.phase⟩,⟨8,.phase⟩,⟨9,.phase⟩,⟨10,.phase⟩,⟨11,.phase⟩,⟨12,.phase⟩,⟨13,.phase⟩,⟨14,.phase⟩,⟨15,.phase⟩,⟨16,.phase⟩,⟨17,.phase⟩,⟨18,.phase⟩,⟨19,.phase⟩,⟨20,.phase⟩,⟨21,.phase⟩],none⟩) (v:=?_) rfl (by kernel_rfl) (by kernel_rfl) (by kernel_rfl) (fun _ _ _ h=>h) (Or.inl ⟨by rfl,?_⟩) (by assumption) ?_
  rotate_left
  ·intro w hSw;(try dsimp only at hSw);go_simp;(try with_reducible rfl)
  simp only [Act.put,List.setIfInBounds_toArray,List.set_cons_zero,List.set_cons_succ];refine wpAnyH_ready (rs:=[24]) (by kernel_rfl) (by simp) ?_;refine AllReadyH.cons (o:=⟨none,.store 110 (.tmp 179) (.tmp 177),0, "build.go:136",#[⟨23,.data⟩,⟨21,.data⟩,⟨21,.chain⟩,⟨0,.phase⟩,⟨1,.phase⟩,⟨2,.phase⟩,⟨3,.phase⟩,⟨4,.phase⟩,⟨5,.phase⟩,⟨6,.phase⟩,⟨7,.phase⟩,⟨8,.phase⟩,⟨9,.phase⟩,⟨10,.phase⟩,⟨11,.phase⟩,⟨12,.phase⟩,⟨13,.phase⟩,⟨14,.phase⟩,⟨15,.phase⟩,⟨16,.phase⟩,⟨17,.phase⟩,⟨18,.phase⟩,⟨19,.phase⟩,⟨20,.phase⟩,⟨21,.phase⟩],none⟩) rfl (fun K2 hK2=>?_) AllReadyH.nil;have PT:=hZq (BuT.put HB9.out.1 HP9.out HB9.out.2 HB8.out.qb HB8.out.qB);have cw:w9.cell? ⟨B,0,none⟩=some v0:=cell_of_row w9 B 0 _ _ (0,0) HB9.out.1;have fw:w9.frozen? ⟨B,0,none⟩=false:=frozen_of_row w9 B 0 _ _ HB9.out.1
  go_simp
  refine hK2.out _ _ (Q3.keptR C9.out (grown_cell w9 B 0 (.slice a9 n9 c9')) TX.out T9.out (by decide) (by decide)) (fun hHeld=>?_);clear hK2 K2;try simp only [Act.put,List.setIfInBounds_toArray,List.set_cons_zero,List.set_cons_succ]
  refine wpAnyH_done (by kernel_rfl) ?_ _;refine NoPanic.normal ?_;exact HK.out _ _ _ _ _ _ _ _ _ _ _ _ _ _ _ _ _ _ _ _ _ _ _ _ _ _ PT.out.1 ((FrB.of G8.out).trans (X9.out.trans PT.out.2))
 refine AllReadyH.cons (o:=⟨some 174,.load 62 (.tmp 173),62, "build.go:136",#[⟨17,.data⟩],none⟩) rfl (fun K2 hK2=>?_) AllReadyH.nil;have cL:=CLD.out
 go_simp
 refine hK2.out _ _ (CD.out) (fun hHeld=>?_);clear hK2 K2;try simp only [Act.put,List.setIfInBounds_toArray,List.set_cons_zero,List.set_cons_succ]
 refine wpAnyH_ready (rs:=[6,12]) (by kernel_rfl) (by simp) ?_;refine AllReadyH.cons (o:=⟨some 162,.box 163 (.tmp 161),161, "build.go:136",#[⟨5,.data⟩],none⟩) rfl (fun K2 hK2=>?_) ?_
 ·go_simp
  refine hK2.out _ _ (Q3.kept CD.out (World.grownBy_alloc wd _ none)) (fun hHeld=>?_);clear hK2 K2;try simp only [Act.put,List.setIfInBounds_toArray,List.set_cons_zero,List.set_cons_succ]
  have ga:=World.grownBy_alloc wd (.cells #[.int .i64 no,.slice na nn nc,.slice sa sm sc] 163) none;have C7:=hZq (Q3.kept CD.out ga);have CF7:=hZq (ga.cell CFD.out (by simp));have CL7:=hZq (ga.cell CLD.out (by simp));have T7:=hZq (T5.keptN TD.out ga);have HB7:=hZq (HBD.out.grown ga);have HP7:=hZq (PatL.keptN HPD.out ga);have N7:=hZq (node_branch no HRD.out);have F7:=hZq (FD.out.kept (FrT.of ga));have L7:=hZq (LD.out.kept (FrT.of ga));have G7:=hZq (gZq GD.out ga);clear ga;generalize wd.alloc (.cells #[.int .i64 no,.slice na nn nc,.slice sa sm sc] 163)=w7 at *;refine wpAnyH_take (i:=7) (oi:=⟨some 163,.makeInterface 161 (.tmp 162),116, "build.go:136",#[⟨6,.data⟩],none⟩) (v:=?_) rfl (by kernel_rfl) (by kernel_rfl) (by kernel_rfl) (fun _ _ _ h=>h) (Or.inl ⟨by rfl,?_⟩) (by assumption) ?_
  rotate_left
  ·intro w hSw;(try dsimp only at hSw);go_simp;(try with_reducible rfl)
  simp only [Act.put,List.setIfInBounds_toArray,List.set_cons_zero,List.set_cons_succ];refine wpAnyH_ready (rs:=[12]) (by kernel_rfl) (by simp) ?_;refine AllReadyH.cons (o:=⟨some 168,.load 62 (.tmp 167),62, "build.go:136",#[⟨11,.data⟩],none⟩) rfl (fun K2 hK2=>?_) AllReadyH.nil;have cF:=CF7.out
  go_simp
  refine hK2.out _ _ (C7.out) (fun hHeld=>?_);clear hK2 K2;try simp only [Act.put,List.setIfInBounds_toArray,List.set_cons_zero,List.set_cons_succ]
  refine wpAnyH_take (i:=19) (oi:=⟨some 175,.build 118 #[(0,.tmp 163),(1,.tmp 164),(2,.tmp 168),(3,.tmp 174)],118, "build.go:136",#[⟨7,.data⟩,⟨8,.data⟩,⟨12,.data⟩,⟨18,.data⟩],none⟩) (v:=?_) rfl (by kernel_rfl) (by kernel_rfl) (by kernel_rfl) (fun _ _ _ h=>h) (Or.inl ⟨by rfl,?_⟩) (by assumption) ?_
  rotate_left
  ·intro w hSw;(try dsimp only at hSw);go_simp;(try with_reducible rfl)
  simp only [Act.put,List.setIfInBounds_toArray,List.set_cons_zero,List.set_cons_succ];refine wpAnyH_ready (rs:=[20]) (by kernel_rfl) (by simp) ?_;refine AllReadyH.cons (o:=⟨some 176,.buildSlice 110 1 #[(0,.tmp 175)],110, "build.go:136",#[⟨19,.data⟩],none⟩) rfl (fun K2 hK2=>?_) AllReadyH.nil
  go_simp
  refine hK2.out _ _ (Q3.kept C7.out (World.grownBy_alloc w7 _ none)) (fun hHeld=>?_);clear hK2 K2;try simp only [Act.put,List.setIfInBounds_toArray,List.set_cons_zero,List.set_cons_succ]
  have ga:=World.grownBy_alloc w7 (.cells #[.iface 161 (.pointer (some ⟨wd.heap.size,0,none⟩)),.int .i64 (pl:Int),.slice fa fn fc,.slice la ln lc] 118) none;have C8:=hZq (Q3.kept C7.out ga);have T8:=hZq (T5.keptN T7.out ga);have HB8:=hZq (HB7.out.grown ga);have HP8:=hZq (PatL.keptN HP7.out ga);have Y8:=hZq (heap_alloc_new w7 (.cells #[.iface 161 (.pointer (some ⟨wd.heap.size,0,none⟩)),.int .i64 (pl:Int),.slice fa fn fc,.slice la ln lc] 118));have P8:Hid (PaT (w7.alloc (.cells #[.iface 161 (.pointer (some ⟨wd.heap.size,0,none⟩)),.int .i64 (pl:Int),.slice fa fn fc,.slice la ln lc] 118)) [.iface 161 (.pointer (some ⟨wd.heap.size,0,none⟩)),.int .i64 (pl:Int),.slice fa fn fc,.slice la ln lc] (⟨m+1,(⟨no,r⟩:BnT (NdT m))⟩,pl)):=⟨_,_,_,_,_,_,_,rfl,NodeT.kept (m+1) N7.out (FrT.of ga),by have:=F7.out.kept (FrT.of ga);rwa [<- E0.out] at this,by have:=L7.out.kept (FrT.of ga);rwa [<- EL.out] at this⟩;have G8:=hZq (gZq G7.out ga);clear ga;generalize hg9:w7.heap.size=g9 at *;generalize w7.alloc (.cells #[.iface 161 (.pointer (some ⟨wd.heap.size,0,none⟩)),.int .i64 (pl:Int),.slice fa fn fc,.slice la ln lc] 118)=w8 at *;clear hg9;refine wpAnyH_ready (rs:=[21]) (by kernel_rfl) (by simp) ?_;refine AllReadyH.cons (o:=⟨some 177,.call { callee:=.builtin Go.Builtin.append,args:=#[.tmp 157,.tmp 176],argTypes:=#[110,110] },110, "build.go:136",#[⟨1,.data⟩,⟨20,.data⟩],none⟩) rfl (fun K2 hK2=>?_) AllReadyH.nil;refine step_append_pa rfl (.tmp 157) (.tmp 176) rfl q (.slice (some ⟨g,0,none⟩) p c) L (by rfl) HP8.out (⟨m+1,(⟨no,r⟩:BnT (NdT m))⟩,pl) _ P8.out g9 Y8.out (by rfl) HL.out (Nat.le_trans HQ.out G8.out.size) ?_;intro v9 w9 hp9 hg9 hf9 ht9;obtain ⟨a9,c9',hv9,_⟩:=hp9.len;obtain ⟨n9,hn9⟩:∃ n,(L++[((⟨m+1,(⟨no,r⟩:BnT (NdT m))⟩:TrT),pl)]).length=n:=⟨_,rfl⟩;rw [hn9] at hv9;clear hn9;subst hv9;have hb9:=HB8.out.appended (.slice (some ⟨g,0,none⟩) p c) hg9 ht9;have C9:=hZq (Q3.keptR C8.out hg9 ht9 T8.out (by decide) (by decide));have TX:Hid (∀ i,some B=some i->TgT w9 i 112):=fun i e=>by cases e;exact ⟨_,_,hb9.1⟩
  have T9:=hZq (T5.keptR T8.out hg9 ht9);have HP9:=hZq hp9;have HB9:=hZq hb9;have X9:=hZq hf9;clear hp9 hg9 hf9 ht9 hb9;refine hK2.out _ _ (C9.out) (fun hHeld=>?_);clear hK2 K2;try simp only [Act.put,List.setIfInBounds_toArray,List.set_cons_zero,List.set_cons_succ]
  refine wpAnyH_take (i:=22) (oi:=⟨some 178,.nilCheck (.tmp 156),0, "build.go:136",#[⟨0,.data⟩,⟨0,.phase⟩,⟨1,.phase⟩,⟨2,.phase⟩,⟨3,.phase⟩,⟨4,.phase⟩,⟨5,.phase⟩,⟨6,.phase⟩,⟨7,.phase⟩,⟨8,.phase⟩,⟨9,.phase⟩,⟨10,.phase⟩,⟨11,.phase⟩,⟨12,.phase⟩,⟨13,.phase⟩,⟨14,.phase⟩,⟨15,.phase⟩,⟨16,.phase⟩,⟨17,.phase⟩,⟨18,.phase⟩,⟨19,.phase⟩,⟨20,.phase⟩,⟨21,.phase⟩],none⟩) (v:=?_) rfl (by kernel_rfl) (by kernel_rfl) (by kernel_rfl) (fun _ _ _ h=>h) (Or.inl ⟨by rfl,?_⟩) (by assumption) ?_
  rotate_left
  ·intro w hSw;(try dsimp only at hSw);go_simp;(try with_reducible rfl)
  simp only [Act.put,List.setIfInBounds_toArray,List.set_cons_zero,List.set_cons_succ];refine wpAnyH_take (i:=23) (oi:=⟨some 179,.fieldAddr 112 (.tmp 178) 0,0, "build.go:136",#[⟨22,.data⟩,⟨0,.phase⟩,⟨1,.phase⟩,⟨2,.phase⟩,⟨3,.phase⟩,⟨4,.phase⟩,⟨5,.phase⟩,⟨6,.phase⟩,⟨7,.phase⟩,⟨8,.phase⟩,⟨9,.phase⟩,⟨10,.phase⟩,⟨11,.phase⟩,⟨12,.phase⟩,⟨13,.phase⟩,⟨14,.phase⟩,⟨15,.phase⟩,⟨16,.phase⟩,⟨17,.phase⟩,⟨18,.phase⟩,⟨19,.phase⟩,⟨20,.phase⟩,⟨21,.phase⟩],none⟩) (v:=?_) rfl (by kernel_rfl) (by kernel_rfl) (by kernel_rfl) (fun _ _ _ h=>h) (Or.inl ⟨by rfl,?_⟩) (by assumption) ?_
  rotate_left
  ·intro w hSw;(try dsimp only at hSw);go_simp;(try with_reducible rfl)
  simp only [Act.put,List.setIfInBounds_toArray,List.set_cons_zero,List.set_cons_succ];refine wpAnyH_ready (rs:=[24]) (by kernel_rfl) (by simp) ?_;refine AllReadyH.cons (o:=⟨none,.store 110 (.tmp 179) (.tmp 177),0, "build.go:136",#[⟨23,.data⟩,⟨21,.data⟩,⟨21,.chain⟩,⟨0,.phase⟩,⟨1,.phase⟩,⟨2,.phase⟩,⟨3,.phase⟩,⟨4,.phase⟩,⟨5,.phase⟩,⟨6,.phase⟩,⟨7,.phase⟩,⟨8,.phase⟩,⟨9,.phase⟩,⟨10,.phase⟩,⟨11,.phase⟩,⟨12,.phase⟩,⟨13,.phase⟩,⟨14,.phase⟩,⟨15,.phase⟩,⟨16,.phase⟩,⟨17,.phase⟩,⟨18,.phase⟩,⟨19,.phase⟩,⟨20,.phase⟩,⟨21,.phase⟩],none⟩) rfl (fun K2 hK2=>?_) AllReadyH.nil;have PT:=hZq (BuT.put HB9.out.1 HP9.out HB9.out.2 HB8.out.qb HB8.out.qB);have cw:w9.cell? ⟨B,0,none⟩=some v0:=cell_of_row w9 B 0 _ _ (0,0) HB9.out.1;have fw:w9.frozen? ⟨B,0,none⟩=false:=frozen_of_row w9 B 0 _ _ HB9.out.1
  go_simp
  refine hK2.out _ _ (Q3.keptR C9.out (grown_cell w9 B 0 (.slice a9 n9 c9')) TX.out T9.out (by decide) (by decide)) (fun hHeld=>?_);clear hK2 K2;try simp only [Act.put,List.setIfInBounds_toArray,List.set_cons_zero,List.set_cons_succ]
  refine wpAnyH_done (by kernel_rfl) ?_ _;refine NoPanic.normal ?_;exact HK.out _ _ _ _ _ _ _ _ _ _ _ _ _ _ _ _ _ _ _ _ _ _ _ _ _ _ PT.out.1 ((FrB.of G8.out).trans (X9.out.trans PT.out.2))
 refine AllReadyH.cons (o:=⟨some 168,.load 62 (.tmp 167),62, "build.go:136",#[⟨11,.data⟩],none⟩) rfl (fun K2 hK2=>?_) AllReadyH.nil;have cF:=CFD.out
 go_simp
 refine hK2.out _ _ (CD.out) (fun hHeld=>?_);clear hK2 K2;try simp only [Act.put,List.setIfInBounds_toArray,List.set_cons_zero,List.set_cons_succ]
 refine wpAnyH_ready (rs:=[6]) (by kernel_rfl) (by simp) ?_;refine AllReadyH.cons (o:=⟨some 162,.box 163 (.tmp 161),161, "build.go:136",#[⟨5,.data⟩],none⟩) rfl (fun K2 hK2=>?_) AllReadyH.nil
 go_simp
 refine hK2.out _ _ (Q3.kept CD.out (World.grownBy_alloc wd _ none)) (fun hHeld=>?_);clear hK2 K2;try simp only [Act.put,List.setIfInBounds_toArray,List.set_cons_zero,List.set_cons_succ]
 have ga:=World.grownBy_alloc wd (.cells #[.int .i64 no,.slice na nn nc,.slice sa sm sc] 163) none;have C7:=hZq (Q3.kept CD.out ga);have CF7:=hZq (ga.cell CFD.out (by simp));have CL7:=hZq (ga.cell CLD.out (by simp));have T7:=hZq (T5.keptN TD.out ga);have HB7:=hZq (HBD.out.grown ga);have HP7:=hZq (PatL.keptN HPD.out ga);have N7:=hZq (node_branch no HRD.out);have F7:=hZq (FD.out.kept (FrT.of ga));have L7:=hZq (LD.out.kept (FrT.of ga));have G7:=hZq (gZq GD.out ga);clear ga;generalize wd.alloc (.cells #[.int .i64 no,.slice na nn nc,.slice sa sm sc] 163)=w7 at *;refine wpAnyH_take (i:=7) (oi:=⟨some 163,.makeInterface 161 (.tmp 162),116, "build.go:136",#[⟨6,.data⟩],none⟩) (v:=?_) rfl (by kernel_rfl) (by kernel_rfl) (by kernel_rfl) (fun _ _ _ h=>h) (Or.inl ⟨by rfl,?_⟩) (by assumption) ?_
 rotate_left
 ·intro w hSw;(try dsimp only at hSw);go_simp;(try with_reducible rfl)
 simp only [Act.put,List.setIfInBounds_toArray,List.set_cons_zero,List.set_cons_succ];refine wpAnyH_take (i:=19) (oi:=⟨some 175,.build 118 #[(0,.tmp 163),(1,.tmp 164),(2,.tmp 168),(3,.tmp 174)],118, "build.go:136",#[⟨7,.data⟩,⟨8,.data⟩,⟨12,.data⟩,⟨18,.data⟩],none⟩) (v:=?_) rfl (by kernel_rfl) (by kernel_rfl) (by kernel_rfl) (fun _ _ _ h=>h) (Or.inl ⟨by rfl,?_⟩) (by assumption) ?_
 rotate_left
 ·intro w hSw;(try dsimp only at hSw);go_simp;(try with_reducible rfl)
 simp only [Act.put,List.setIfInBounds_toArray,List.set_cons_zero,List.set_cons_succ];refine wpAnyH_ready (rs:=[20]) (by kernel_rfl) (by simp) ?_;refine AllReadyH.cons (o:=⟨some 176,.buildSlice 110 1 #[(0,.tmp 175)],110, "build.go:136",#[⟨19,.data⟩],none⟩) rfl (fun K2 hK2=>?_) AllReadyH.nil
 go_simp
 refine hK2.out _ _ (Q3.kept C7.out (World.grownBy_alloc w7 _ none)) (fun hHeld=>?_);clear hK2 K2;try simp only [Act.put,List.setIfInBounds_toArray,List.set_cons_zero,List.set_cons_succ]
 have ga:=World.grownBy_alloc w7 (.cells #[.iface 161 (.pointer (some ⟨wd.heap.size,0,none⟩)),.int .i64 (pl:Int),.slice fa fn fc,.slice la ln lc] 118) none;have C8:=hZq (Q3.kept C7.out ga);have T8:=hZq (T5.keptN T7.out ga);have HB8:=hZq (HB7.out.grown ga);have HP8:=hZq (PatL.keptN HP7.out ga);have Y8:=hZq (heap_alloc_new w7 (.cells #[.iface 161 (.pointer (some ⟨wd.heap.size,0,none⟩)),.int .i64 (pl:Int),.slice fa fn fc,.slice la ln lc] 118));have P8:Hid (PaT (w7.alloc (.cells #[.iface 161 (.pointer (some ⟨wd.heap.size,0,none⟩)),.int .i64 (pl:Int),.slice fa fn fc,.slice la ln lc] 118)) [.iface 161 (.pointer (some ⟨wd.heap.size,0,none⟩)),.int .i64 (pl:Int),.slice fa fn fc,.slice la ln lc] (⟨m+1,(⟨no,r⟩:BnT (NdT m))⟩,pl)):=⟨_,_,_,_,_,_,_,rfl,NodeT.kept (m+1) N7.out (FrT.of ga),by have:=F7.out.kept (FrT.of ga);rwa [<- E0.out] at this,by have:=L7.out.kept (FrT.of ga);rwa [<- EL.out] at this⟩;have G8:=hZq (gZq G7.out ga);clear ga;generalize hg9:w7.heap.size=g9 at *;generalize w7.alloc (.cells #[.iface 161 (.pointer (some ⟨wd.heap.size,0,none⟩)),.int .i64 (pl:Int),.slice fa fn fc,.slice la ln lc] 118)=w8 at *;clear hg9;refine wpAnyH_ready (rs:=[21]) (by kernel_rfl) (by simp) ?_;refine AllReadyH.cons (o:=⟨some 177,.call { callee:=.builtin Go.Builtin.append,args:=#[.tmp 157,.tmp 176],argTypes:=#[110,110] },110, "build.go:136",#[⟨1,.data⟩,⟨20,.data⟩],none⟩) rfl (fun K2 hK2=>?_) AllReadyH.nil;refine step_append_pa rfl (.tmp 157) (.tmp 176) rfl q (.slice (some ⟨g,0,none⟩) p c) L (by rfl) HP8.out (⟨m+1,(⟨no,r⟩:BnT (NdT m))⟩,pl) _ P8.out g9 Y8.out (by rfl) HL.out (Nat.le_trans HQ.out G8.out.size) ?_;intro v9 w9 hp9 hg9 hf9 ht9;obtain ⟨a9,c9',hv9,_⟩:=hp9.len;obtain ⟨n9,hn9⟩:∃ n,(L++[((⟨m+1,(⟨no,r⟩:BnT (NdT m))⟩:TrT),pl)]).length=n:=⟨_,rfl⟩;rw [hn9] at hv9;clear hn9;subst hv9;have hb9:=HB8.out.appended (.slice (some ⟨g,0,none⟩) p c) hg9 ht9;have C9:=hZq (Q3.keptR C8.out hg9 ht9 T8.out (by decide) (by decide));have TX:Hid (∀ i,some B=some i->TgT w9 i 112):=fun i e=>by cases e;exact ⟨_,_,hb9.1⟩
 have T9:=hZq (T5.keptR T8.out hg9 ht9);have HP9:=hZq hp9;have HB9:=hZq hb9;have X9:=hZq hf9;clear hp9 hg9 hf9 ht9 hb9;refine hK2.out _ _ (C9.out) (fun hHeld=>?_);clear hK2 K2;try simp only [Act.put,List.setIfInBounds_toArray,List.set_cons_zero,List.set_cons_succ]
 refine wpAnyH_take (i:=22) (oi:=⟨some 178,.nilCheck (.tmp 156),0, "build.go:136",#[⟨0,.data⟩,⟨0,.phase⟩,⟨1,.phase⟩,⟨2,.phase⟩,⟨3,.phase⟩,⟨4,.phase⟩,⟨5,.phase⟩,⟨6,.phase⟩,⟨7,.phase⟩,⟨8,.phase⟩,⟨9,.phase⟩,⟨10,.phase⟩,⟨11,.phase⟩,⟨12,.phase⟩,⟨13,.phase⟩,⟨14,.phase⟩,⟨15,.phase⟩,⟨16,.phase⟩,⟨17,.phase⟩,⟨18,.phase⟩,⟨19,.phase⟩,⟨20,.phase⟩,⟨21,.phase⟩],none⟩) (v:=?_) rfl (by kernel_rfl) (by kernel_rfl) (by kernel_rfl) (fun _ _ _ h=>h) (Or.inl ⟨by rfl,?_⟩) (by assumption) ?_
 rotate_left
 ·intro w hSw;(try dsimp only at hSw);go_simp;(try with_reducible rfl)
 simp only [Act.put,List.setIfInBounds_toArray,List.set_cons_zero,List.set_cons_succ];refine wpAnyH_take (i:=23) (oi:=⟨some 179,.fieldAddr 112 (.tmp 178) 0,0, "build.go:136",#[⟨22,.data⟩,⟨0,.phase⟩,⟨1,.phase⟩,⟨2,.phase⟩,⟨3,.phase⟩,⟨4,.phase⟩,⟨5,.phase⟩,⟨6,.phase⟩,⟨7,.phase⟩,⟨8,.phase⟩,⟨9,.phase⟩,⟨10,.phase⟩,⟨11,.phase⟩,⟨12,.phase⟩,⟨13,.phase⟩,⟨14,.phase⟩,⟨15,.phase⟩,⟨16,.phase⟩,⟨17,.phase⟩,⟨18,.phase⟩,⟨19,.phase⟩,⟨20,.phase⟩,⟨21,.phase⟩],none⟩) (v:=?_) rfl (by kernel_rfl) (by kernel_rfl) (by kernel_rfl) (fun _ _ _ h=>h) (Or.inl ⟨by rfl,?_⟩) (by assumption) ?_
 rotate_left
 ·intro w hSw;(try dsimp only at hSw);go_simp;(try with_reducible rfl)
 simp only [Act.put,List.setIfInBounds_toArray,List.set_cons_zero,List.set_cons_succ];refine wpAnyH_ready (rs:=[24]) (by kernel_rfl) (by simp) ?_;refine AllReadyH.cons (o:=⟨none,.store 110 (.tmp 179) (.tmp 177),0, "build.go:136",#[⟨23,.data⟩,⟨21,.data⟩,⟨21,.chain⟩,⟨0,.phase⟩,⟨1,.phase⟩,⟨2,.phase⟩,⟨3,.phase⟩,⟨4,.phase⟩,⟨5,.phase⟩,⟨6,.phase⟩,⟨7,.phase⟩,⟨8,.phase⟩,⟨9,.phase⟩,⟨10,.phase⟩,⟨11,.phase⟩,⟨12,.phase⟩,⟨13,.phase⟩,⟨14,.phase⟩,⟨15,.phase⟩,⟨16,.phase⟩,⟨17,.phase⟩,⟨18,.phase⟩,⟨19,.phase⟩,⟨20,.phase⟩,⟨21,.phase⟩],none⟩) rfl (fun K2 hK2=>?_) AllReadyH.nil;have PT:=hZq (BuT.put HB9.out.1 HP9.out HB9.out.2 HB8.out.qb HB8.out.qB);have cw:w9.cell? ⟨B,0,none⟩=some v0:=cell_of_row w9 B 0 _ _ (0,0) HB9.out.1;have fw:w9.frozen? ⟨B,0,none⟩=false:=frozen_of_row w9 B 0 _ _ HB9.out.1
 go_simp
 refine hK2.out _ _ (Q3.keptR C9.out (grown_cell w9 B 0 (.slice a9 n9 c9')) TX.out T9.out (by decide) (by decide)) (fun hHeld=>?_);clear hK2 K2;try simp only [Act.put,List.setIfInBounds_toArray,List.set_cons_zero,List.set_cons_succ]
 refine wpAnyH_done (by kernel_rfl) ?_ _;refine NoPanic.normal ?_;exact HK.out _ _ _ _ _ _ _ _ _ _ _ _ _ _ _ _ _ _ _ _ _ _ _ _ _ _ PT.out.1 ((FrB.of G8.out).trans (X9.out.trans PT.out.2))
def AbX (w:World)(B b q:Nat)(s:BdS)(pl:Nat)(n:RnT)(en:Ending)(w':World):Prop :=
 (∃ f,en=.returned (.bool f)/\(f=true->∃ (m:Nat) (ns:List (NdT m)) (ats:List Nat) (rest:List (TrT × Nat)),BrC n m ns ats/\s.parts=rest++(upN m ns).zip ats/\∃ v',BuT w' B b q v' ⟨rest++[(⟨m+1,(⟨n.no,⟨ns,n.ss⟩⟩:BnT (NdT m))⟩,pl)],s.used⟩)/\(PbC s.parts n->f=true))/\FrB q w w'
theorem abx_no {w w':World}{B b q:Nat}{s:BdS}{pl:Nat}{n:RnT}{en:Ending}(e:en=.returned (.bool false))(h:¬ PbC s.parts n)(hf:FrB q w w'):AbX w B b q s pl n en w' :=
 ⟨⟨false,e,(fun k=>by cases k),fun k=>absurd k h⟩,hf⟩
theorem kid_atB {P rest:List (TrT × Nat)}{m:Nat}{ns:List (NdT m)}{ats:List Nat}{r j:Nat}{x:NdT m}(hp:P=rest++(upN m ns).zip ats)(hr:rest.length=r)(ha:ats.length=ns.length)(hx:ns[j]?=some x):∃ a,P[r+j]?=some ((⟨m,x⟩:TrT),a)/\ats[j]?=some a:=by
 have hj:=(List.getElem?_eq_some_iff.1 hx).1;obtain ⟨a,h1⟩:∃ a,ats[j]?=some a:=⟨_,List.getElem?_eq_getElem (by omega)⟩;refine ⟨a,?_,h1⟩;rw [hp,List.getElem?_append_right (by omega),show r+j - rest.length=j by omega,List.getElem?_zip_eq_some];exact ⟨by unfold upN;rw [List.getElem?_map,hx];rfl,h1⟩
theorem key_bt {n:Nat}{x:NdT n}(h:OkT n x):Bt (firstK (flatT n x))/\Bt (lastK (flatT n x)):=by
 have hne:=flat_ne n x h;have hv:=flat_vp n x h;constructor
 ·match e:flatT n x,hne with
  | p::L,_=>exact (hv p (by rw [e];exact List.mem_cons_self)).kb
 ·unfold lastK
  rw [List.getLastD_eq_getLast?,List.getLast?_eq_some_getLast hne];exact (hv _ (List.getLast_mem hne)).kb
structure KdW (w:World)(g o:Nat)(m:Nat)(x:NdT m)(u:Value)(t:Int)(fa:Option Addr)(fn fc:Nat)(la:Option Addr)(ln lc:Nat):Prop where
 pc:Pc4 w g o u t fa fn fc la ln lc
 nd:NodeT m w u x
 f:BtyT w fa fn fc (firstK (flatT m x))
 l:BtyT w la ln lc (lastK (flatT m x))
theorem KdW.kept {w w':World}{g o m:Nat}{x:NdT m}{u:Value}{t:Int}{fa:Option Addr}{fn fc:Nat}{la:Option Addr}{ln lc:Nat}(h:KdW w g o m x u t fa fn fc la ln lc)(hg:w.grownBy w' none):KdW w' g o m x u t fa fn fc la ln lc:=⟨h.pc.kept hg,h.nd.kept m (FrT.of hg),h.f.kept (FrT.of hg),h.l.kept (FrT.of hg)⟩
theorem PatL.kid {w:World}{q n c:Nat}{a:Option Addr}{L:List (TrT × Nat)}(h:PatL w q (.slice a n c) L){r j:Nat}{p:TrT × Nat}(hp:L[r+j]?=some p):∃ g u fa fn fc la ln lc,a=some ⟨g,0,none⟩/\KdW w g (r*4+j*4) p.1.lv p.1.root u (p.2:Int) fa fn fc la ln lc:=by
 obtain ⟨g,u,fa,fn,fc,la,ln,lc,h1,_,h2,h3,h4,h5,h6,h7,h8⟩:=h.part hp;rw [Nat.add_mul] at h2 h3 h4 h5;exact ⟨g,u,fa,fn,fc,la,ln,lc,h1,⟨h2,h3,h4,h5⟩,h6,h7,h8⟩
theorem NdL.of_box {w:World}{q:Nat}{v:Value}{us:List Value}(h:NdL w q v us)(o:Obj):NdL (w.alloc o) q v us:=h.keptR (World.grownBy_alloc w o none) (fun g e=>by cases e)
theorem addBranch_go (B b q pl:Nat)(v:Value)(s:BdS)(no lv:Int)(ps:List (List Int × List Int))(cs ss:List (List Int))(ks:List Int)(pa:Option Addr)(pn pc:Nat)(ca:Option Addr)(cn cc:Nat)(sa:Option Addr)(sn sc:Nat)(ka:Option Addr)(kn kc:Nat)(w:World)
  (h:BuT w B b q v s) (hps:ps.length=pn) (hcs:cs.length=cn) (hss:SsU w sa sn sc ss) (hks:NmU w ka kn kc ks) (hq:q<=w.heap.size) (hl:s.parts.length<=5000)
  (hok:∀ e∈s.parts,OkT e.1.lv e.1.root/\e.1.lv<=15) (hb:∀ s∈ss,s.length<=140737488355328/\Bt s) :
  Calls Tryz.prog 79 #[.pointer (some ⟨B,0,none⟩),.int .i64 (pl:Int),.agg #[.int .i64 no,.int .i64 lv,.slice pa pn pc,.slice ca cn cc,.slice sa sn sc,.slice ka kn kc]] w fun en w'=>AbX w B b q s pl ⟨no,lv,ps,cs,ss,ks⟩ en w':=by
 obtain ⟨vA,vC,rfl,hN1,hN2⟩:=h.ps.len;have hsl:=hss.len;have hkl:ks.length=kn:=by have:=hks.len;simpa using this
 obtain ⟨N,hN⟩:∃ N,s.parts.length=N:=⟨_,rfl⟩;rw [hN] at h hN1 hl;have g1:=World.grownBy_alloc w (.cells #[.int .i64 no,.int .i64 lv,.slice pa pn pc,.slice ca cn cc,.slice sa sn sc,.slice ka kn kc] 61) none
 have HPB:Hid (PbC s.parts ⟨no,lv,ps,cs,ss,ks⟩->kn<=N/\kn=sn+1/\lv<=15/\pn=0/\cn=0):=fun k=>by
  obtain ⟨a1,a2,a3,a4,a5⟩:=pb_kn k;have a4':ps=[]:=a4;have a5':cs=[]:=a5;have a1':ks.length<=s.parts.length:=a1;have a2':ks.length=ss.length+1:=a2;refine ⟨by omega,by omega,a3,by rw [<- hps,a4'];rfl,by rw [<- hcs,a5'];rfl⟩
 have HB0:=hZq h;have cB0:=hZq (g1.cell (bu_cell0 h) (by simp));have HS0:=hZq hss;have HK0:=hZq hks;have HQ:=hZq hq;have HOK:=hZq hok;have HSB:=hZq hb;have G1:=hZq g1;have R1:=hZq (heap_alloc_new w (.cells #[.int .i64 no,.int .i64 lv,.slice pa pn pc,.slice ca cn cc,.slice sa sn sc,.slice ka kn kc] 61));have HL:=hZq hN;have HPN:=hZq hps;have HCN:=hZq hcs;have HSL:=hZq hsl;have HKL:=hZq hkl;clear h hss hks hq hok hb g1 hN hps hcs hsl hkl;go_enter Tryz.func79,Tryz.ntmps79;go_upto_region 1 with fail
 generalize hW:w.alloc (.cells #[.int .i64 no,.int .i64 lv,.slice pa pn pc,.slice ca cn cc,.slice sa sn sc,.slice ka kn kc] 61)=w1 at *;generalize hD:w.heap.size=D at *;clear hW;have HD:=hZq hD;clear hD;have d0:w1.cell? ⟨D,0,none⟩=some (.int .i64 no):=cell_of_row w1 D 0 _ _ (0,0) R1.out;have d1:w1.cell? ⟨D,1,none⟩=some (.int .i64 lv):=cell_of_row w1 D 1 _ _ (0,0) R1.out;have d2:w1.cell? ⟨D,2,none⟩=some (.slice pa pn pc):=cell_of_row w1 D 2 _ _ (0,0) R1.out;have d3:w1.cell? ⟨D,3,none⟩=some (.slice ca cn cc):=cell_of_row w1 D 3 _ _ (0,0) R1.out;have d4:w1.cell? ⟨D,4,none⟩=some (.slice sa sn sc):=cell_of_row w1 D 4 _ _ (0,0) R1.out;have d5:w1.cell? ⟨D,5,none⟩=some (.slice ka kn kc):=cell_of_row w1 D 5 _ _ (0,0) R1.out;have cB:=cB0.out
 by_cases h1:(15:Int)<lv
 ·go_wp2
  go_ret;exact abx_no rfl (fun k=>by have:=HPB.out k;omega) (FrB.of G1.out)
 ·by_cases h2:(N:Int)<(kn:Int)
  ·go_wp2
   go_ret;exact abx_no rfl (fun k=>by have:=HPB.out k;omega) (FrB.of G1.out)
  ·by_cases h3:sn+1=kn
   ·have h3':((sn:Int) != (kn:Int) - 1)=false:=by simp;omega
    by_cases h4:(0:Int)<(pn:Int)
    ·clear h3
     go_wp2;go_ret;exact abx_no rfl (fun k=>by have:=HPB.out k;omega) (FrB.of G1.out)
    ·by_cases h5:(0:Int)<(cn:Int)
     ·clear h3
      go_wp2;go_ret;exact abx_no rfl (fun k=>by have:=HPB.out k;omega) (FrB.of G1.out)
     ·obtain ⟨r,hr⟩:∃ r,r+kn=N:=⟨N - kn,by omega⟩
      have hkp:0<kn:=by omega
      have HR:=hZq hr;have H3:=hZq h3;clear h3
      obtain ⟨g,hg⟩:∃ g,vA=some ⟨g,0,none⟩:=by
       obtain ⟨e,he⟩:∃ e,s.parts[0]?=some e:=⟨_,List.getElem?_eq_getElem (by rw [HL.out];omega)⟩;obtain ⟨g,_,_,_,_,_,_,_,h1,_⟩:=HB0.out.ps.part he;exact ⟨g,h1⟩
      subst hg
      have KID:Hid (∀ (j:Nat) (p:TrT × Nat),s.parts[r+j]?=some p->∃ u fa fn fc la ln lc,KdW w g (r*4+j*4) p.1.lv p.1.root u (p.2:Int) fa fn fc la ln lc):=fun j p hp=>by
       obtain ⟨g',u,fa,fn,fc,la,ln,lc,e,hk⟩:=HB0.out.ps.kid hp;simp only [Option.some.injEq,Addr.mk.injEq,and_true] at e;subst e;exact ⟨u,fa,fn,fc,la,ln,lc,hk⟩
      have HPN2:Hid (pn=0/\cn=0):=⟨by omega,by omega⟩;have i15:=hZq h1;clear hr;go_upto_region 4 with fail
      refine ab_r4 cB HR.out hkp hN1 hN2 ?_;intro v50 v51 v52 v53 v54 v55 v56 v57 v58 v59 v60 v61 v62 v63 v64 v65 v66 v67 v68 v69 v70 v71 v72 v73 w2 hg2;have G2:=hZq (gZq G1.out hg2);have R2:=hZq (heap_kept R1.out hg2);clear hg2 d0 d1 d2 d3 d4 d5 cB cB0;try simp only [Exit.then]
      go_upto_region 6 with fail
      have ga:=World.grownBy_alloc w2 (.cells #[.slice none 0 0,.slice none 0 0] 89) none;have G3:=hZq (gZq G2.out ga);have R3:=hZq (heap_kept R2.out ga);have M3:Hid (MdW (w2.alloc (.cells #[.slice none 0 0,.slice none 0 0] 89)) w2.heap.size (.slice none 0 0) (.slice none 0 0)):=heap_alloc_new w2 _;have hDM:Hid (D<=w2.heap.size):=by have:=G2.out.size;have:=HD.out;show D<=_;omega
      clear ga;generalize w2.alloc (.cells #[.slice none 0 0,.slice none 0 0] 89)=w3 at *;generalize w2.heap.size=M at *;have hDS:Hid (w.heap.size<=D):=by have:=HD.out;show _<=D;omega
      obtain ⟨gk,ok,hka⟩:∃ gk ok,ka=some ⟨gk,ok,none⟩:=HK0.out.where hkp;subst hka
      have KZ:Hid (∀ (j:Nat) (k:Int),ks[j]?=some k->w.cell? ⟨gk,ok+j,none⟩=some (.int .i64 k)):=fun j k hk=>by
       obtain ⟨b',o',e,hc⟩:=HK0.out.cell j [.int .i64 k] (by rw [List.getElem?_map,hk];rfl);simp only [Option.some.injEq,Addr.mk.injEq,and_true] at e;obtain ⟨rfl,rfl⟩:=e;have:=hc 0 _ rfl;rw [Nat.mul_one,Nat.add_zero] at this;exact this
      go_wp2_with fail
      go_loopw [11,12,77] (fun _ _ si wr=>∃ (i:Nat) (us:List Value) (va:Value),i<=kn/\si=.int .i64 (i:Nat)/\MdW wr M va (.slice none 0 0)/\NdL wr D va us/\us.length=i/\(∀ (j:Nat) (u:Value),us[j]?=some u->w.cell? ⟨g,r*4+j*4,none⟩=some u)/\(∀ (j:Nat) (e:TrT × Nat) (k:Int),j<i->s.parts[r+j]?=some e->ks[j]?=some k->KoC ⟨no,lv,ps,cs,ss,ks⟩ e k)/\w.grownBy wr none/\wr.heap[D]?=some (.cells #[.int .i64 no,.int .i64 lv,.slice pa pn pc,.slice ca cn cc,.slice sa sn sc,.slice (some ⟨gk,ok,none⟩) kn kc] 61 (0,0))) (fun _ _ si _=>kn - (intOf si).toNat)
      case atStart=>exact ⟨0,[],_,Nat.zero_le _,rfl,M3.out,NdL.nil _ _,rfl,(fun j u hu=>by simp at hu),(fun j e k hj=>by omega),G3.out,R3.out⟩
      case round =>
       obtain ⟨i,us,va,hi,rfl,hm,hn,hul,huc,hkc,hg,hrr⟩:=hrel;have HM:=hZq hm;have HN:=hZq hn;have HU:=hZq hul;have UC:=hZq huc;have KC:=hZq hkc;have HG:=hZq hg;have HRR:=hZq hrr;clear hm hn hul huc hkc hg hrr M3 G3 R3
       by_cases hlt:i<kn
       ·obtain ⟨e,he⟩:∃ e,s.parts[r+i]?=some e:=⟨_,List.getElem?_eq_getElem (by have:=HL.out;have:=HR.out;omega)⟩
        obtain ⟨kz,hkz⟩:∃ k,ks[i]?=some k:=⟨_,List.getElem?_eq_getElem (by have:=HKL.out;omega)⟩;obtain ⟨u,fa,fn,fc,la,ln,lc,hkd⟩:=KID.out i e he;have HKD:=hZq (hkd.kept HG.out);have HKD0:=hZq hkd;obtain ⟨T,b1,rfl⟩:=hkd.nd.one;obtain ⟨p0,p1,p2,p3⟩:=HKD.out.pc;have z0:=HG.out.cell (KZ.out i kz hkz) (by simp);obtain ⟨oe,l15⟩:=HOK.out e (List.mem_of_getElem? he);have HE:=hZq he;have HZ:=hZq hkz;have OE:=hZq oe;have L15:=hZq l15;have i1:(i:Int)<(kn:Int):=by omega
        have i0:(0:Int)<=(i:Int):=by omega
        obtain ⟨kat,hkat⟩:∃ x:Int,(e.2:Int)=x:=⟨_,rfl⟩;rw [hkat] at p1 HKD HKD0;have HKAT:=hZq hkat;clear hkd he hkz oe l15 hkat;go_upto_region 9 with fail
        have ga:=World.grownBy_alloc wr (.cells #[.iface T (.pointer (some ⟨b1,0,none⟩)),.int .i64 kat,.slice fa fn fc,.slice la ln lc] 118) none;have G4:=hZq (gZq HG.out ga);have M4:=hZq (HM.out.keptR ga (fun g e=>by cases e));have N4:=hZq (HN.out.keptR ga (fun g e=>by cases e));have R4:=hZq (heap_kept HRR.out ga);have X4:=hZq (heap_alloc_new wr (.cells #[.iface T (.pointer (some ⟨b1,0,none⟩)),.int .i64 kat,.slice fa fn fc,.slice la ln lc] 118));have ND4:=hZq (HKD.out.nd.kept _ (FrT.of ga));have z4:=ga.cell z0 (by simp);clear ga p0 p1 p2 p3 z0;generalize wr.alloc (.cells #[.iface T (.pointer (some ⟨b1,0,none⟩)),.int .i64 kat,.slice fa fn fc,.slice la ln lc] 118)=w4 at *;generalize wr.heap.size=X at *;refine ab_r9 ND4.out OE.out L15.out (cell_of_row w4 X 0 _ _ (0,0) X4.out) (cell_of_row w4 X 1 _ _ (0,0) X4.out) (cell_of_row w4 D 0 _ _ (0,0) R4.out) (cell_of_row w4 D 1 _ _ (0,0) R4.out) (cell_of_row w4 D 5 _ _ (0,0) R4.out) hlt z4 ?_;intro v82 v83 v84 v85 v86 v87 v88 v89 v90 v91 v92 v93 v94 v95 v96 v97 v98 v99 v100 v101 v102 v103 v104 v105 v106 v107 v108 f w5 hbc hg5;have BC:=hZq hbc;have G5:=hZq (gZq G4.out hg5);have M5:=hZq (M4.out.keptR hg5 (fun g e=>by cases e));have N5:=hZq (N4.out.keptR hg5 (fun g e=>by cases e));have R5:=hZq (heap_kept R4.out hg5);have X5:=hZq (heap_kept X4.out hg5);clear hbc hg5 z4;try simp only [Exit.then]
        cases f with
        | true =>
         go_wp2;go_ret;exact abx_no rfl (fun k=>BC.out.1 rfl (by have:=pb_kid k (r:=r) (j:=i) (by have:=HR.out;have:=HL.out;have:=HKL.out;show r+ks.length=_;omega) HE.out HZ.out;rw [<- HKAT.out];exact this)) (FrB.of G5.out)
        | false =>
         have KO:=hZq (BC.out.2 rfl);have ga:=World.grownBy_alloc w5 (.cells #[.iface T (.pointer (some ⟨b1,0,none⟩))] 116) none;have N6:=hZq (N5.out.of_box (.cells #[.iface T (.pointer (some ⟨b1,0,none⟩))] 116));have C6:=hZq (cell_one_new w5 (.iface T (.pointer (some ⟨b1,0,none⟩))) 116 0 _ rfl);have M6:=hZq (M5.out.keptR ga (fun g e=>by cases e));have R6:=hZq (heap_kept R5.out ga);have G6:=hZq (gZq G5.out ga);have S6:=hZq (Nat.le_trans (by have:=hDM.out;have:=(Array.getElem?_eq_some_iff.1 M5.out).1;omega) ga.size:D<=(w5.alloc (.cells #[.iface T (.pointer (some ⟨b1,0,none⟩))] 116)).heap.size);obtain ⟨aN,cN,hva⟩:=N5.out.shape;rw [HU.out] at hva;subst hva;have x0:w5.cell? ⟨X,0,none⟩=some (.iface T (.pointer (some ⟨b1,0,none⟩))):=cell_of_row w5 X 0 _ _ (0,0) X5.out;have m0:w5.cell? ⟨M,0,none⟩=some (.slice aN i cN):=cell_of_row w5 M 0 _ _ (0,0) M5.out;have C61:Hid ((w5.alloc (.cells #[.iface T (.pointer (some ⟨b1,0,none⟩))] 116)).cell? ⟨w5.heap.size,0,none⟩=some (.iface T (.pointer (some ⟨b1,0,none⟩)))):=by have:=C6.out;rwa [Addr.add_lit] at this
         clear ga
         go_wp2_with (at_builtin;refine wpList_append_nd rfl (.tmp 111) (.tmp 114) rfl D (.slice aN i cN) us rfl N6.out _ rfl w5.heap.size C61.out rfl ?c1 S6.out ?_)
         case c1=>rw [HU.out];have:=HR.out;omega
         intro v7 w7 hn7 hg7 hr7;obtain ⟨a7,c7,hv7⟩:=hn7.shape;obtain ⟨n7,hn7'⟩:∃ n,(us++[Value.iface T (.pointer (some ⟨b1,0,none⟩))]).length=n:=⟨_,rfl⟩;rw [hn7'] at hv7;clear hn7';subst hv7;have M7:=hZq (M6.out.keptR hg7 (fun g e=>⟨116,(hr7 g e).2,by decide⟩));have R7:=hZq ((hg7.block _ (Array.getElem?_eq_some_iff.1 R6.out).1 (fun e=>tg_ne (⟨_,_,R6.out⟩:TgT _ D 61) (hr7 D e.symm).2 (by decide) rfl)).trans R6.out)
         have G7:Hid (w.grownBy w7 none):=by
          show w.grownBy w7 none
          cases hrow:(Value.slice aN i cN).ownBlock with
          | none =>
           rw [hrow] at hg7;exact gZq G6.out hg7
          | some g =>
           rw [hrow] at hg7;exact grown_new G6.out hg7 (Nat.le_trans hDS.out (hr7 g hrow).1)
         have N7:=hZq hn7;have m7:w7.cell? ⟨M,0,none⟩=some (.slice aN i cN):=cell_of_row w7 M 0 _ _ (0,0) M7.out;have f7:w7.frozen? ⟨M,0,none⟩=false:=frozen_of_row w7 M 0 _ _ M7.out;have WM:=hZq (Nat.le_trans hDS.out hDM.out);clear hn7 hg7 hr7 x0 m0;go_wp2;go_roundw
         case rel =>
          refine ⟨i+1,us++[.iface T (.pointer (some ⟨b1,0,none⟩))],_,by omega,by go_num,heap_setCell_same w7 M 0 _ _ (.slice a7 n7 c7) M7.out,N7.out.keptR (grown_cell w7 M 0 _) (fun g e=>⟨89,by cases e;exact ⟨_,_,M7.out⟩,by decide⟩),by rw [List.length_append,HU.out];rfl,fun j u hu=>?_,fun j e k hj he hk=>?_,grown_new G7.out (grown_cell w7 M 0 _) WM.out,?_⟩
          ·by_cases hji:j<i
           ·rw [List.getElem?_append_left (by rw [HU.out];exact hji)] at hu
            exact UC.out j u hu
           ·rw [List.getElem?_append_right (by rw [HU.out];omega),HU.out] at hu
            have hj0:j=i:=by
             have:=(List.getElem?_eq_some_iff.1 hu).1;simp only [List.length_singleton] at this;omega
            subst hj0;rw [Nat.sub_self] at hu;have:Value.iface T (.pointer (some ⟨b1,0,none⟩))=u:=by simpa using hu
            rw [<- this];exact HKD0.out.pc.1
          ·by_cases hji:j<i
           ·exact KC.out j e k hji he hk
           ·obtain rfl:j=i:=by omega
            have e1:=HE.out.symm.trans he;have e2:=HZ.out.symm.trans hk;simp only [Option.some.injEq] at e1 e2;rw [<- e1,<- e2];have:=KO.out;rw [<- HKAT.out] at this;exact this
          ·exact ((grown_cell w7 M 0 (.slice a7 n7 c7)).block _ (Array.getElem?_eq_some_iff.1 R7.out).1 (fun e=>tg_ne (⟨_,_,R7.out⟩:TgT w7 D 61) (⟨_,_,M7.out⟩:TgT w7 M 89) (by decide) (by simpa using e))).trans R7.out
         case measure=>simp [intOf];omega
       ·have hik:i=kn:=by omega
        subst hik;have hNL:=HL.out;have hRL:=HR.out;obtain ⟨e0,he0⟩:∃ e,s.parts[r+0]?=some e:=⟨_,List.getElem?_eq_getElem (by omega)⟩;obtain ⟨k0,hk0⟩:∃ k,ks[0]?=some k:=⟨_,List.getElem?_eq_getElem (by have:=HKL.out;omega)⟩;obtain ⟨m,hme⟩:∃ m,e0.1.lv=m:=⟨_,rfl⟩
        have hlv:lv=(m:Int)+1:=by
         have:=(KC.out 0 e0 k0 hkp he0 hk0).2.1;rw [hme] at this;exact this.symm
        have hm15:m<=15:=by rw [<- hme];exact (HOK.out e0 (List.mem_of_getElem? he0)).2
        have hall:∀ e∈s.parts.drop r,e.1.lv=m:=fun e he=>by
         obtain ⟨j,hj,rfl⟩:=List.getElem_of_mem he;have hj2:j<i:=by rw [List.length_drop] at hj;omega
         have he':s.parts[r+j]?=some ((s.parts.drop r)[j]):=by
          rw [<- List.getElem?_drop];exact List.getElem?_eq_getElem hj
         obtain ⟨kz,hkz⟩:∃ k,ks[j]?=some k:=⟨_,List.getElem?_eq_getElem (by have:=HKL.out;omega)⟩;have h9:((s.parts.drop r)[j].1.lv:Int)+1=lv:=(KC.out j _ kz hj2 he' hkz).2.1;omega
        obtain ⟨ns,ats,hz1,hz2,hz3⟩:=kids_of m (s.parts.drop r) hall;have hnl:ns.length=i:=by rw [hz3,List.length_drop];omega
        have HPS:Hid (s.parts=s.parts.take r++(upN m ns).zip ats):=by
         show _=_
         rw [<- hz1,List.take_append_drop]
        have hrl:(s.parts.take r).length=r:=by rw [List.length_take];omega
        have HBS:Hid (PbC s.parts ⟨no,lv,ps,cs,ss,ks⟩->BrC ⟨no,lv,ps,cs,ss,ks⟩ m ns ats):=fun k=>pb_same k HPS.out hz2 hlv (by show ks.length=_;rw [HKL.out,hnl])
        have NK:Hid (∀ (j:Nat) (x:NdT m),ns[j]?=some x->∃ (a:Nat) (u:Value) (fa:Option Addr) (fn fc:Nat) (la:Option Addr) (ln lc:Nat),s.parts[r+j]?=some ((⟨m,x⟩:TrT),a)/\ats[j]?=some a/\OkT m x/\KdW w g (r*4+j*4) m x u (a:Int) fa fn fc la ln lc):=fun j x hx=>by
         obtain ⟨a,h8,h9⟩:=kid_atB HPS.out hrl hz2 hx;obtain ⟨u,fa,fn,fc,la,ln,lc,hk⟩:=KID.out j _ h8;exact ⟨a,u,fa,fn,fc,la,ln,lc,h8,h9,(HOK.out _ (List.mem_of_getElem? h8)).1,hk⟩
        have HZ2:=hZq hz2;have HNL:=hZq hnl;have HLV:=hZq hlv;have HM15:=hZq hm15;have HRL:=hZq hrl;clear he0 hk0 hme hlv hm15 hall hz1 hz2 hz3 hnl hrl hNL hRL;obtain ⟨aN,cN,hva⟩:=HN.out.shape;rw [HU.out] at hva;subst hva;have x4:wr.cell? ⟨D,4,none⟩=some (.slice sa sn sc):=cell_of_row wr D 4 _ _ (0,0) HRR.out;have h3s:=H3.out
        go_wp2_with fail
        clear x4;go_loopw [13,14,121] (fun _ _ si wr=>∃ (j:Nat) (vb:Value),j<=sn/\si=.int .i64 (j:Nat)/\MdW wr M (.slice aN i cN) vb/\NdL wr D (.slice aN i cN) us/\SqL wr D vb (ss.take j)/\(∀ (k:Nat) (t:List Int),k<j->ss[k]?=some t->Vs t)/\(∀ (k:Nat) (x:NdT m) (t:List Int) (y:NdT m),k<j->ns[k]?=some x->ss[k]?=some t->ns[k+1]?=some y->cmpZ (lastK (flatT m x)) t<0/\cmpZ t (firstK (flatT m y))<=0/\joinsT m x t y=false)/\w.grownBy wr none/\wr.heap[D]?=some (.cells #[.int .i64 no,.int .i64 lv,.slice pa pn pc,.slice ca cn cc,.slice sa sn sc,.slice (some ⟨gk,ok,none⟩) i kc] 61 (0,0))) (fun _ _ si _=>sn - (intOf si).toNat)
        case atStart=>exact ⟨0,_,Nat.zero_le _,rfl,HM.out,HN.out,SqL.nil _ _,(fun k t hk=>by omega),(fun k x t y hk=>by omega),HG.out,HRR.out⟩
        case round =>
         obtain ⟨j,vb,hj,rfl,hm,hn,hs,hvs,hap,hg,hrr⟩:=hrel;have M9:=hZq hm;have N9:=hZq hn;have S9:=hZq hs;have VS:=hZq hvs;have AP:=hZq hap;have G9:=hZq hg;have R9:=hZq hrr;clear hm hn hs hvs hap hg hrr
         by_cases hlt2:j<sn
         ·obtain ⟨t,ht⟩:∃ t,ss[j]?=some t:=⟨_,List.getElem?_eq_getElem (by have:=HSL.out;omega)⟩
          obtain ⟨gs,os,so,sl,sd,hsa,hsc,hsb⟩:=HS0.out.str ht;subst hsa;obtain ⟨x,hx⟩:∃ x,ns[j]?=some x:=⟨_,List.getElem?_eq_getElem (by have:=HNL.out;omega)⟩;obtain ⟨y,hy⟩:∃ y,ns[j+1]?=some y:=⟨_,List.getElem?_eq_getElem (by have:=HNL.out;omega)⟩;obtain ⟨a1,u1,fa1,fn1,fc1,la1,ln1,lc1,_,_,ok1,kd1⟩:=NK.out j x hx;obtain ⟨a2,u2,fa2,fn2,fc2,la2,ln2,lc2,_,_,ok2,kd2⟩:=NK.out (j+1) y hy;have K1:=hZq (kd1.kept G9.out);have K2:=hZq (kd2.kept G9.out);have HT:=hZq ht;have HX:=hZq hx;have HY:=hZq hy;have c9:=G9.out.cell hsc (by simp);have B9:=hZq (hsb.kept (CkF.of G9.out));have hsl:t.length=sl:=hsb.b.len;obtain ⟨tb1,tb2⟩:=HSB.out t (List.mem_of_getElem? ht);have HTL:Hid (sl<=140737488355328):=by rw [<- hsl];exact tb1
          have HVT:Hid (1<=sl/\sl<=255->Vs t):=fun h8=>⟨by rw [hsl];exact h8.1,by rw [hsl];exact h8.2,tb2⟩
          have HVL:Hid (Vs t->1<=sl/\sl<=255):=fun h8=>by rw [<- hsl];exact ⟨h8.k1,h8.k2⟩
          have APX:Hid (∀ W:World,wr.grownBy W none->1<=sl/\sl<=255->Calls Tryz.prog 111 #[.agg #[u1,.int .i64 (a1:Int),.slice fa1 fn1 fc1,.slice la1 ln1 lc1],.slice so sl sd,.agg #[u2,.int .i64 (a2:Int),.slice fa2 fn2 fc2,.slice la2 ln2 lc2]] W fun en w'=>BoxP (cmpZ (lastK (flatT m x)) t<0/\cmpZ t (firstK (flatT m y))<=0/\joinsT m x t y=false) en/\W.grownBy w' none):=fun W hW hv =>
           apartX x y u1 u2 (a1:Int) (a2:Int) fa1 fn1 fc1 la1 ln1 lc1 fa2 fn2 fc2 la2 ln2 lc2 so sl sd (lastK (flatT m x)) t (firstK (flatT m y)) W (K1.out.nd.kept m (FrT.of hW)) (K2.out.nd.kept m (FrT.of hW)) ok1 ok2 (B9.out.kept (CkF.of hW)) (HVT.out hv) (K1.out.l.kept (FrT.of hW)).b (K2.out.f.kept (FrT.of hW)).b (key_bt ok1).2 (key_bt ok2).1
          have SH1:=hZq K1.out.nd.one;have SH2:=hZq K2.out.nd.one;have j1:(j:Int)<(sn:Int):=by omega
          have j0:(0:Int)<=(j:Int):=by omega
          clear kd1 kd2 ht hx hy hsc hsb hsl tb1 tb2 ok1 ok2;go_upto_region 16 with fail
          refine ab_r16 K1.out.pc K2.out.pc SH1.out SH2.out rfl (by omega) (by have:=HR.out;omega) APX.out ?_;intro v126 v127 v128 v129 v130 v131 v132 v133 v134 v135 v136 v137 v138 v139 v140 v141 f w10 hbc hg10;have BC:=hZq hbc;have G10:=hZq (gZq G9.out hg10);have M10:=hZq (M9.out.keptR hg10 (fun g e=>by cases e));have N10:=hZq (N9.out.keptR hg10 (fun g e=>by cases e));have S10:=hZq (S9.out.keptR hg10 (fun g e=>by cases e));have B10:=hZq (B9.out.kept (CkF.of hg10));have R10:=hZq (heap_kept R9.out hg10);clear hbc hg10 c9;try simp only [Exit.then]
          cases f with
          | true =>
           go_wp2;go_ret;exact abx_no rfl (fun k=>BC.out.1 rfl (by have hb:=HBS.out k;exact ⟨HVL.out (hb.vs t (List.mem_of_getElem? HT.out)),hb.ap j x t y HX.out HT.out HY.out⟩)) (FrB.of G10.out)
          | false =>
           have BC9:=hZq (BC.out.2 rfl);go_upto_region 18 with fail
           refine ab_r18 (q:=D) M10.out N10.out S10.out B10.out HTL.out (by rw [List.length_take];have:=HSL.out;have:=HR.out;omega) (by have:=hDM.out;have:=(Array.getElem?_eq_some_iff.1 M10.out).1;omega) ?_;intro v143 v144 v145 v146 v147 v148 v149 w11 vb' hsm;have SM:=hZq hsm;clear hsm;try simp only [Exit.then]
           go_wp2;go_roundw
           case rel =>
            refine ⟨j+1,vb',by omega,by go_num,SM.out.md,SM.out.nd,by rw [takeS HT.out];exact SM.out.sq,fun k s' hk hs'=>?_,fun k x' s' y' hk hx' hs' hy'=>?_,SM.out.gr _ G10.out hDS.out (Nat.le_trans hDS.out hDM.out),?_⟩
            ·by_cases hkj:k<j
             ·exact VS.out k s' hkj hs'
             ·obtain rfl:k=j:=by omega
              have e1:=HT.out.symm.trans hs';simp only [Option.some.injEq] at e1;rw [<- e1];exact HVT.out BC9.out.1
            ·by_cases hkj:k<j
             ·exact AP.out k x' s' y' hkj hx' hs' hy'
             ·obtain rfl:k=j:=by omega
              have e1:=HT.out.symm.trans hs';have e2:=HX.out.symm.trans hx';have e3:=HY.out.symm.trans hy';simp only [Option.some.injEq] at e1 e2 e3;rw [<- e1,<- e2,<- e3];exact BC9.out.2
            ·exact SM.out.ot D _ _ _ R10.out (by decide) (by decide)
           case measure=>simp [intOf];omega
         ·have hjn:j=sn:=by omega
          subst hjn;have hts:ss.take j=ss:=List.take_of_length_le (by have:=HSL.out;omega);rw [hts] at S9;clear hts hj;obtain ⟨aS,cS,hvb⟩:=S9.out.shape;rw [HSL.out] at hvb;subst hvb;have hcap:j<=cS/\cS<=9223372036854775807:=S9.out.ss.cap.elim fun a b=>⟨a,b.1⟩
          have SZ:=hZq (bsize_any aS j cS ss wr S9.out.ss.lz HSL.out (by have:=HR.out;omega) hcap.1 hcap.2 (fun x hx=>by obtain ⟨q,hq⟩:=List.getElem?_of_mem hx;have hv:=VS.out q x (by have:=(List.getElem?_eq_some_iff.1 hq).1;have:=HSL.out;omega) hq;have:=hv.k2;omega));have m1:wr.cell? ⟨M,1,none⟩=some (.slice aS j cS):=cell_of_row wr M 1 _ _ (0,0) M9.out;clear hcap
          go_wp2_with fail
          refine SZ.out.mono ?_;rintro en w12 ⟨rfl,hg12⟩;have G12:=hZq (gZq G9.out hg12);have GX:=hZq hg12;clear hg12 SZ m1
          by_cases hsz:bsize ss<=4092
          ·have HSZ:=hZq hsz
           go_wp2_with fail
           refine (cfits_any _ _).mono ?_;rintro en w13 ⟨rfl,hw13⟩;rw [hw13,decide_eq_true hsz];clear hw13 hsz
           have HBC:Hid (BrC ⟨no,lv,ps,cs,ss,ks⟩ m ns ats):=by
            have a1:=HNL.out;have a2:=HSL.out;have a3:=H3.out;have a4:=HKL.out;have a5:=HZ2.out;have a6:=HLV.out;have a7:=i15.out;have a8:=HPN2.out;refine ⟨a6,by omega,a5,?_,by show ns.length=ss.length+1;omega,List.eq_nil_of_length_eq_zero (by show ps.length=0;rw [HPN.out];exact a8.1),List.eq_nil_of_length_eq_zero (by show cs.length=0;rw [HCN.out];exact a8.2),fun h0 y hy=>?_,fun t ht=>?_,fun k x t y h7 h8 h9=>AP.out k x t y (by have:=(List.getElem?_eq_some_iff.1 h8).1;have h8':k<ss.length:=this;omega) h7 h8 h9,HSZ.out⟩
            ·show ks=ats.map fun (k:Nat)=>(k:Int)
             apply List.ext_getElem?;intro p
             by_cases hp:p<i
             ·obtain ⟨k,hk⟩:∃ k,ks[p]?=some k:=⟨_,List.getElem?_eq_getElem (by omega)⟩
              obtain ⟨x,hx⟩:∃ x,ns[p]?=some x:=⟨_,List.getElem?_eq_getElem (by omega)⟩;obtain ⟨a,_,_,_,_,_,_,_,b1,b2,_⟩:=NK.out p x hx;have b3:(a:Int)=k:=(KC.out p _ k hp b1 hk).1;rw [hk,List.getElem?_map,b2,<- b3]
              rfl
             ·rw [List.getElem?_eq_none (by omega),List.getElem?_eq_none (by rw [List.length_map];omega)]
            ·obtain ⟨p,hp,rfl⟩:=List.getElem_of_mem hy
             have hx:ns[p]?=some ns[p]:=List.getElem?_eq_getElem hp;obtain ⟨k,hk⟩:∃ k,ks[p]?=some k:=⟨_,List.getElem?_eq_getElem (by omega)⟩;obtain ⟨a,_,_,_,_,_,_,_,b1,_⟩:=NK.out p _ hx;exact (KC.out p _ k (by omega) b1 hk).2.2 h0
            ·obtain ⟨p,hp,rfl⟩:=List.getElem_of_mem ht
             have hp':p<ss.length:=hp;exact VS.out p _ (by omega) (List.getElem?_eq_getElem hp')
           obtain ⟨x0,hx0⟩:∃ x,ns[0]?=some x:=⟨_,List.getElem?_eq_getElem (by have:=HNL.out;omega)⟩;obtain ⟨xL,hxL⟩:∃ x,ns[j]?=some x:=⟨_,List.getElem?_eq_getElem (by have:=HNL.out;have:=H3.out;omega)⟩;obtain ⟨a0,u0,fa0,fn0,fc0,la0,ln0,lc0,_,_,ok0,kd0⟩:=NK.out 0 x0 hx0;obtain ⟨aL,uL,faL,fnL,fcL,laL,lnL,lcL,_,_,okL,kdL⟩:=NK.out j xL hxL;have K0:=hZq (kd0.kept G12.out);have KL:=hZq (kdL.kept G12.out);have R12:=hZq (heap_kept R9.out GX.out);have M12:=hZq (M9.out.keptR GX.out (fun g e=>by cases e));have N12:=hZq (N9.out.keptR GX.out (fun g e=>by cases e));have S12:=hZq (S9.out.keptR GX.out (fun g e=>by cases e))
           have RW:Hid (RowT m w12 aN i cN aS j cS ⟨ns,ss⟩):=⟨N12.out.ns (by rw [HU.out,HNL.out]) (fun p u x hu hx=>by
            obtain ⟨a,u',fa,fn,fc,la,ln,lc,_,_,_,kd⟩:=NK.out p x hx;have e1:=UC.out p u hu;rw [kd.pc.1] at e1;simp only [Option.some.injEq] at e1;rw [<- e1];exact (kd.kept G12.out).nd),S12.out.ss⟩
           have F0:Hid (BtyT w12 fa0 fn0 fc0 (firstK (flatT (m+1) (⟨no,⟨ns,ss⟩⟩:BnT (NdT m))))):=by
            show BtyT w12 fa0 fn0 fc0 (firstK (ns.flatMap (flatT m)))
            rw [firstK_flat hx0 (flat_ne m x0 ok0)];exact K0.out.f
           have FL:Hid (BtyT w12 laL lnL lcL (lastK (flatT (m+1) (⟨no,⟨ns,ss⟩⟩:BnT (NdT m))))):=by
            show BtyT w12 laL lnL lcL (lastK (ns.flatMap (flatT m)))
            rw [lastK_flat (k:=j) (by have:=HNL.out;have:=H3.out;omega) hxL (flat_ne m xL okL)];exact KL.out.l
           have FC:Hid (w12.cell? ⟨g,r*4+2,none⟩=some (.slice fa0 fn0 fc0)):=by
            show w12.cell? _=_
            have:=K0.out.pc.2.2.1;simpa using this
           clear hx0 hxL kd0 kdL ok0 okL;go_upto_region 22 with fail
           refine ab_r22 (s:=s) (r:=⟨ns,ss⟩) (m:=m) (HB0.out.grown G12.out) (PatL.cut (PatL.keptN HB0.out.ps G12.out) HL.out (m:=r) (by have:=HR.out;omega)) (by rw [HRL.out];have:=HR.out;omega) (by have:=HQ.out;have:=hDM.out;have:=(Array.getElem?_eq_some_iff.1 M12.out).1;omega) (cell_of_row w12 D 0 _ _ (0,0) R12.out) ⟨_,_,R12.out⟩ M12.out RW.out H3.out (by have:=HR.out;omega) FC.out KL.out.pc.2.2.2 F0.out FL.out ?_;intro v156 v157 v158 v159 v160 v161 v162 v163 v164 v165 v166 v167 v168 v169 v170 v171 v172 v173 v174 v175 v176 v177 v178 v179 w14 v' hbu hfx;have BU:=hZq hbu;have FX:=hZq hfx;clear hbu hfx;try simp only [Exit.then]
           go_wp2;go_ret;exact ⟨⟨true,rfl,(fun _=>⟨m,ns,ats,s.parts.take r,HBC.out,HPS.out,v',BU.out⟩),fun _=>rfl⟩,(FrB.of G12.out).trans FX.out⟩
          ·have HSZ:=hZq hsz
           go_wp2_with fail
           refine (cfits_any _ _).mono ?_;rintro en w13 ⟨rfl,hw13⟩;rw [hw13,decide_eq_false hsz];clear hw13 hsz;go_wp2;go_ret;exact abx_no rfl (fun k=>HSZ.out (HBS.out k).sz) (FrB.of G12.out)
   ·have h3':((sn:Int) != (kn:Int) - 1)=true:=by simp;omega
    have H3:=hZq h3;clear h3;go_wp2;go_ret;exact abx_no rfl (fun k=>H3.out (by have:=HPB.out k;omega)) (FrB.of G1.out)
def NnC (S:List Int)(no:Int):Prop:=no=0∨2<=no/\no<524287/\no ∉ S
theorem ad_r1 {y1 y2 y3 y4 y6 y7 y8 y9 y10 y11 y12 y13 y14 y15 y16 y17 y18 y19 y20 y21 y22 y23 y24 y25 y26 y27 y28 y29 y30:Value}{B D b:Nat}{no:Int}{S:List Int}{wr:World}{K:Exit->Act->World->Prop}
  (d0:wr.cell? ⟨D,0,none⟩=some (.int .i64 no)) (b1:wr.cell? ⟨B,1,none⟩=some (.map (some b))) (hS:SeT wr b S) (hz:-9223372036854775808<=no/\no<=9223372036854775807)
  (hK:∀ (v7 v8 v9 v10 v11 v12 v13 v14 v15 v16 v17 v18:Value) (f:Bool) (wx:World),BcQ f (NnC S no)->(f=false->SeT wx b (tkN S no))->wr.grownBy wx (some b)->K .normal ⟨List.toArray ((.pointer (some ⟨B,0,none⟩))::y1::y2::y3::y4::(.pointer (some ⟨D,0,none⟩))::y6::v7::v8::v9::v10::v11::v12::v13::v14::v15::v16::v17::v18::(.bool f)::y20::y21::y22::y23::y24::y25::y26::y27::y28::y29::y30::[]),[]⟩ wx) :
  Code.wp Tryz.prog (Go.Code.region 1 #[⟨some 7,.fieldAddr 61 (.tmp 5) 0,0, "build.go:47",#[],none⟩,⟨some 8,.load 3 (.tmp 7),3, "build.go:47",#[⟨0,.data⟩],none⟩,⟨some 9,.binOp .neq 3 (.tmp 8) (.const (.int .i64 0)) 3,4, "build.go:47",#[⟨1,.data⟩],none⟩,⟨some 10,.move (.tmp 9),4, "build.go:47",#[⟨2,.data⟩],none⟩,⟨some 11,.move (.tmp 0),138, "build.go:47",#[⟨3,.guard⟩],some (3,true)⟩,⟨some 12,.nilCheck (.tmp 11),0, "build.go:47",#[⟨4,.data⟩,⟨3,.guard⟩],some (3,true)⟩,⟨some 13,.fieldAddr 112 (.tmp 12) 1,0, "build.go:47",#[⟨5,.data⟩,⟨3,.guard⟩],some (3,true)⟩,⟨some 14,.load 109 (.tmp 13),109, "build.go:47",#[⟨6,.data⟩,⟨3,.guard⟩],some (3,true)⟩,⟨some 15,.fieldAddr 61 (.tmp 5) 0,0, "build.go:47",#[⟨3,.guard⟩],some (3,true)⟩,⟨some 16,.load 3 (.tmp 15),3, "build.go:47",#[⟨8,.data⟩,⟨3,.guard⟩],some (3,true)⟩,⟨some 17,.call { callee:=.value (.func 77),args:=#[.tmp 14,.tmp 16],argTypes:=#[109,3] },4, "build.go:47",#[⟨7,.data⟩,⟨9,.data⟩,⟨3,.chain⟩,⟨3,.guard⟩],some (3,true)⟩,⟨some 18,.unOp .not 4 (.tmp 17),4, "build.go:47",#[⟨10,.data⟩,⟨3,.guard⟩],some (3,true)⟩,⟨some 19,.pick (.tmp 10) (.tmp 18) (.const (.bool false)),4, "build.go:47",#[⟨3,.data⟩,⟨11,.data⟩],none⟩] true) K ⟨List.toArray ((.pointer (some ⟨B,0,none⟩))::y1::y2::y3::y4::(.pointer (some ⟨D,0,none⟩))::y6::y7::y8::y9::y10::y11::y12::y13::y14::y15::y16::y17::y18::y19::y20::y21::y22::y23::y24::y25::y26::y27::y28::y29::y30::[]),[]⟩ wr:=by
 have HK:=hZq hK;have GD:=hZq (show wr.grownBy wr.drew none from (Qt.refl wr).drew.grown none);have HS:=hZq (hS.keptN GD.out);have T0:Hid (wr.drew.cell? ⟨D,0,none⟩=some (.int .i64 no)/\wr.drew.cell? ⟨B,1,none⟩=some (.map (some b))):=⟨GD.out.cell d0 (by simp),GD.out.cell b1 (by simp)⟩;have TK:=hZq (takeS_any no HS.out hz);clear hK d0 b1 hz hS
 by_cases h0:no=0
 ·have g0:(no != 0)=false:=by simp [h0]
  have HN:Hid (tkN S no=S):=by show _=_;unfold tkN;rw [if_pos h0]
  have HP:Hid (BcQ false (NnC S no)):=BcQ.yes (.inl h0);clear h0 TK;refine wp_region_noPanic ?_;refine wp_region_held_drew (S:=(fun w'=>w'.cell? ⟨D,0,none⟩=some (.int .i64 no)/\w'.cell? ⟨B,1,none⟩=some (.map (some b)))) (by kernel_rfl) ?_ (fun hHeld=>?_)
  ·exact T0.out
  generalize wr.drew=wd at *;refine wpAnyH_take (i:=0) (oi:=⟨some 7,.fieldAddr 61 (.tmp 5) 0,0, "build.go:47",#[],none⟩) (v:=?_) rfl (by kernel_rfl) (by kernel_rfl) (by kernel_rfl) (fun _ _ _ h=>h) (Or.inl ⟨by rfl,?_⟩) (by assumption) ?_
  rotate_left
  ·intro w hSw;(try dsimp only at hSw);go_simp;(try with_reducible rfl)
  simp only [Act.put,List.setIfInBounds_toArray,List.set_cons_zero,List.set_cons_succ];refine wpAnyH_take (i:=1) (oi:=⟨some 8,.load 3 (.tmp 7),3, "build.go:47",#[⟨0,.data⟩],none⟩) (v:=?_) rfl (by kernel_rfl) (by kernel_rfl) (by kernel_rfl) (fun _ _ _ h=>h) (Or.inl ⟨by rfl,?_⟩) (by assumption) ?_
  rotate_left
  ·intro w hSw;(try dsimp only at hSw);go_simp;(try with_reducible rfl)
  simp only [Act.put,List.setIfInBounds_toArray,List.set_cons_zero,List.set_cons_succ];refine wpAnyH_take (i:=2) (oi:=⟨some 9,.binOp .neq 3 (.tmp 8) (.const (.int .i64 0)) 3,4, "build.go:47",#[⟨1,.data⟩],none⟩) (v:=?_) rfl (by kernel_rfl) (by kernel_rfl) (by kernel_rfl) (fun _ _ _ h=>h) (Or.inl ⟨by rfl,?_⟩) (by assumption) ?_
  rotate_left
  ·intro w hSw;(try dsimp only at hSw);go_simp;(try with_reducible rfl)
  simp only [Act.put,List.setIfInBounds_toArray,List.set_cons_zero,List.set_cons_succ];refine wpAnyH_take (i:=3) (oi:=⟨some 10,.move (.tmp 9),4, "build.go:47",#[⟨2,.data⟩],none⟩) (v:=?_) rfl (by kernel_rfl) (by kernel_rfl) (by kernel_rfl) (fun _ _ _ h=>h) (Or.inl ⟨by rfl,?_⟩) (by assumption) ?_
  rotate_left
  ·intro w hSw;(try dsimp only at hSw);go_simp;(try with_reducible rfl)
  simp only [Act.put,List.setIfInBounds_toArray,List.set_cons_zero,List.set_cons_succ];refine wpAnyH_take (i:=4) (oi:=⟨some 11,.move (.tmp 0),138, "build.go:47",#[⟨3,.guard⟩],some (3,true)⟩) (v:=undef) rfl (by kernel_rfl) (by kernel_rfl) (by kernel_rfl) (fun _ _ _ h=>h) (Or.inr ⟨by rfl,rfl⟩) (by assumption) ?_;simp only [Act.put,List.setIfInBounds_toArray,List.set_cons_zero,List.set_cons_succ];refine wpAnyH_take (i:=5) (oi:=⟨some 12,.nilCheck (.tmp 11),0, "build.go:47",#[⟨4,.data⟩,⟨3,.guard⟩],some (3,true)⟩) (v:=undef) rfl (by kernel_rfl) (by kernel_rfl) (by kernel_rfl) (fun _ _ _ h=>h) (Or.inr ⟨by rfl,rfl⟩) (by assumption) ?_;simp only [Act.put,List.setIfInBounds_toArray,List.set_cons_zero,List.set_cons_succ];refine wpAnyH_take (i:=6) (oi:=⟨some 13,.fieldAddr 112 (.tmp 12) 1,0, "build.go:47",#[⟨5,.data⟩,⟨3,.guard⟩],some (3,true)⟩) (v:=undef) rfl (by kernel_rfl) (by kernel_rfl) (by kernel_rfl) (fun _ _ _ h=>h) (Or.inr ⟨by rfl,rfl⟩) (by assumption) ?_;simp only [Act.put,List.setIfInBounds_toArray,List.set_cons_zero,List.set_cons_succ];refine wpAnyH_take (i:=7) (oi:=⟨some 14,.load 109 (.tmp 13),109, "build.go:47",#[⟨6,.data⟩,⟨3,.guard⟩],some (3,true)⟩) (v:=undef) rfl (by kernel_rfl) (by kernel_rfl) (by kernel_rfl) (fun _ _ _ h=>h) (Or.inr ⟨by rfl,rfl⟩) (by assumption) ?_;simp only [Act.put,List.setIfInBounds_toArray,List.set_cons_zero,List.set_cons_succ];refine wpAnyH_take (i:=8) (oi:=⟨some 15,.fieldAddr 61 (.tmp 5) 0,0, "build.go:47",#[⟨3,.guard⟩],some (3,true)⟩) (v:=undef) rfl (by kernel_rfl) (by kernel_rfl) (by kernel_rfl) (fun _ _ _ h=>h) (Or.inr ⟨by rfl,rfl⟩) (by assumption) ?_;simp only [Act.put,List.setIfInBounds_toArray,List.set_cons_zero,List.set_cons_succ];refine wpAnyH_take (i:=9) (oi:=⟨some 16,.load 3 (.tmp 15),3, "build.go:47",#[⟨8,.data⟩,⟨3,.guard⟩],some (3,true)⟩) (v:=undef) rfl (by kernel_rfl) (by kernel_rfl) (by kernel_rfl) (fun _ _ _ h=>h) (Or.inr ⟨by rfl,rfl⟩) (by assumption) ?_;simp only [Act.put,List.setIfInBounds_toArray,List.set_cons_zero,List.set_cons_succ];refine wpAnyH_take (i:=10) (oi:=⟨some 17,.call { callee:=.value (.func 77),args:=#[.tmp 14,.tmp 16],argTypes:=#[109,3] },4, "build.go:47",#[⟨7,.data⟩,⟨9,.data⟩,⟨3,.chain⟩,⟨3,.guard⟩],some (3,true)⟩) (v:=undef) rfl (by kernel_rfl) (by kernel_rfl) (by kernel_rfl) (fun _ _ _ h=>h) (Or.inr ⟨by rfl,rfl⟩) (by assumption) ?_;simp only [Act.put,List.setIfInBounds_toArray,List.set_cons_zero,List.set_cons_succ];refine wpAnyH_take (i:=11) (oi:=⟨some 18,.unOp .not 4 (.tmp 17),4, "build.go:47",#[⟨10,.data⟩,⟨3,.guard⟩],some (3,true)⟩) (v:=undef) rfl (by kernel_rfl) (by kernel_rfl) (by kernel_rfl) (fun _ _ _ h=>h) (Or.inr ⟨by rfl,rfl⟩) (by assumption) ?_;simp only [Act.put,List.setIfInBounds_toArray,List.set_cons_zero,List.set_cons_succ];refine wpAnyH_take (i:=12) (oi:=⟨some 19,.pick (.tmp 10) (.tmp 18) (.const (.bool false)),4, "build.go:47",#[⟨3,.data⟩,⟨11,.data⟩],none⟩) (v:=?_) rfl (by kernel_rfl) (by kernel_rfl) (by kernel_rfl) (fun _ _ _ h=>h) (Or.inl ⟨by rfl,?_⟩) (by assumption) ?_
  rotate_left
  ·intro w hSw;(try dsimp only at hSw);go_simp;(try with_reducible rfl)
  simp only [Act.put,List.setIfInBounds_toArray,List.set_cons_zero,List.set_cons_succ];refine wpAnyH_done (by kernel_rfl) ?_ _;refine NoPanic.normal ?_;exact HK.out _ _ _ _ _ _ _ _ _ _ _ _ _ _ HP.out (fun _=>by rw [HN.out];exact HS.out) (grown_any GD.out)
 ·have g0:(no != 0)=true:=by simp [h0]
  have HN:Hid (tkN S no=S++[no]):=by show _=_;unfold tkN;rw [if_neg h0]
  have H0:=hZq h0;clear h0;refine wp_region_noPanic ?_;refine wp_region_held_drew (S:=(fun w'=>w'.cell? ⟨D,0,none⟩=some (.int .i64 no)/\w'.cell? ⟨B,1,none⟩=some (.map (some b)))) (by kernel_rfl) ?_ (fun hHeld=>?_)
  ·exact T0.out
  generalize wr.drew=wd at *;refine wpAnyH_take (i:=0) (oi:=⟨some 7,.fieldAddr 61 (.tmp 5) 0,0, "build.go:47",#[],none⟩) (v:=?_) rfl (by kernel_rfl) (by kernel_rfl) (by kernel_rfl) (fun _ _ _ h=>h) (Or.inl ⟨by rfl,?_⟩) (by assumption) ?_
  rotate_left
  ·intro w hSw;(try dsimp only at hSw);go_simp;(try with_reducible rfl)
  simp only [Act.put,List.setIfInBounds_toArray,List.set_cons_zero,List.set_cons_succ];refine wpAnyH_take (i:=1) (oi:=⟨some 8,.load 3 (.tmp 7),3, "build.go:47",#[⟨0,.data⟩],none⟩) (v:=?_) rfl (by kernel_rfl) (by kernel_rfl) (by kernel_rfl) (fun _ _ _ h=>h) (Or.inl ⟨by rfl,?_⟩) (by assumption) ?_
  rotate_left
  ·intro w hSw;(try dsimp only at hSw);go_simp;(try with_reducible rfl)
  simp only [Act.put,List.setIfInBounds_toArray,List.set_cons_zero,List.set_cons_succ];refine wpAnyH_take (i:=2) (oi:=⟨some 9,.binOp .neq 3 (.tmp 8) (.const (.int .i64 0)) 3,4, "build.go:47",#[⟨1,.data⟩],none⟩) (v:=?_) rfl (by kernel_rfl) (by kernel_rfl) (by kernel_rfl) (fun _ _ _ h=>h) (Or.inl ⟨by rfl,?_⟩) (by assumption) ?_
  rotate_left
  ·intro w hSw;(try dsimp only at hSw);go_simp;(try with_reducible rfl)
  simp only [Act.put,List.setIfInBounds_toArray,List.set_cons_zero,List.set_cons_succ];refine wpAnyH_take (i:=3) (oi:=⟨some 10,.move (.tmp 9),4, "build.go:47",#[⟨2,.data⟩],none⟩) (v:=?_) rfl (by kernel_rfl) (by kernel_rfl) (by kernel_rfl) (fun _ _ _ h=>h) (Or.inl ⟨by rfl,?_⟩) (by assumption) ?_
  rotate_left
  ·intro w hSw;(try dsimp only at hSw);go_simp;(try with_reducible rfl)
  simp only [Act.put,List.setIfInBounds_toArray,List.set_cons_zero,List.set_cons_succ];refine wpAnyH_take (i:=4) (oi:=⟨some 11,.move (.tmp 0),138, "build.go:47",#[⟨3,.guard⟩],some (3,true)⟩) (v:=?_) rfl (by kernel_rfl) (by kernel_rfl) (by kernel_rfl) (fun _ _ _ h=>h) (Or.inl ⟨by rfl,?_⟩) (by assumption) ?_
  rotate_left
  ·intro w hSw;(try dsimp only at hSw);go_simp;(try with_reducible rfl)
  simp only [Act.put,List.setIfInBounds_toArray,List.set_cons_zero,List.set_cons_succ];refine wpAnyH_take (i:=5) (oi:=⟨some 12,.nilCheck (.tmp 11),0, "build.go:47",#[⟨4,.data⟩,⟨3,.guard⟩],some (3,true)⟩) (v:=?_) rfl (by kernel_rfl) (by kernel_rfl) (by kernel_rfl) (fun _ _ _ h=>h) (Or.inl ⟨by rfl,?_⟩) (by assumption) ?_
  rotate_left
  ·intro w hSw;(try dsimp only at hSw);go_simp;(try with_reducible rfl)
  simp only [Act.put,List.setIfInBounds_toArray,List.set_cons_zero,List.set_cons_succ];refine wpAnyH_take (i:=6) (oi:=⟨some 13,.fieldAddr 112 (.tmp 12) 1,0, "build.go:47",#[⟨5,.data⟩,⟨3,.guard⟩],some (3,true)⟩) (v:=?_) rfl (by kernel_rfl) (by kernel_rfl) (by kernel_rfl) (fun _ _ _ h=>h) (Or.inl ⟨by rfl,?_⟩) (by assumption) ?_
  rotate_left
  ·intro w hSw;(try dsimp only at hSw);go_simp;(try with_reducible rfl)
  simp only [Act.put,List.setIfInBounds_toArray,List.set_cons_zero,List.set_cons_succ];refine wpAnyH_take (i:=7) (oi:=⟨some 14,.load 109 (.tmp 13),109, "build.go:47",#[⟨6,.data⟩,⟨3,.guard⟩],some (3,true)⟩) (v:=?_) rfl (by kernel_rfl) (by kernel_rfl) (by kernel_rfl) (fun _ _ _ h=>h) (Or.inl ⟨by rfl,?_⟩) (by assumption) ?_
  rotate_left
  ·intro w hSw;(try dsimp only at hSw);go_simp;(try with_reducible rfl)
  simp only [Act.put,List.setIfInBounds_toArray,List.set_cons_zero,List.set_cons_succ];refine wpAnyH_take (i:=8) (oi:=⟨some 15,.fieldAddr 61 (.tmp 5) 0,0, "build.go:47",#[⟨3,.guard⟩],some (3,true)⟩) (v:=?_) rfl (by kernel_rfl) (by kernel_rfl) (by kernel_rfl) (fun _ _ _ h=>h) (Or.inl ⟨by rfl,?_⟩) (by assumption) ?_
  rotate_left
  ·intro w hSw;(try dsimp only at hSw);go_simp;(try with_reducible rfl)
  simp only [Act.put,List.setIfInBounds_toArray,List.set_cons_zero,List.set_cons_succ];refine wpAnyH_take (i:=9) (oi:=⟨some 16,.load 3 (.tmp 15),3, "build.go:47",#[⟨8,.data⟩,⟨3,.guard⟩],some (3,true)⟩) (v:=?_) rfl (by kernel_rfl) (by kernel_rfl) (by kernel_rfl) (fun _ _ _ h=>h) (Or.inl ⟨by rfl,?_⟩) (by assumption) ?_
  rotate_left
  ·intro w hSw;(try dsimp only at hSw);go_simp;(try with_reducible rfl)
  simp only [Act.put,List.setIfInBounds_toArray,List.set_cons_zero,List.set_cons_succ];refine wpAnyH_ready (rs:=[10]) (by kernel_rfl) (by simp) ?_;refine AllReadyH.cons (o:=⟨some 17,.call { callee:=.value (.func 77),args:=#[.tmp 14,.tmp 16],argTypes:=#[109,3] },4, "build.go:47",#[⟨7,.data⟩,⟨9,.data⟩,⟨3,.chain⟩,⟨3,.guard⟩],some (3,true)⟩) rfl (fun K2 hK2=>?_) AllReadyH.nil
  go_simp
  go_at_call 77
  refine TK.out.mono ?_;rintro en w2 ⟨rfl,hb2,hg2⟩;have HB2:=hZq hb2;have T2:Hid (w2.cell? ⟨D,0,none⟩=some (.int .i64 no)/\w2.cell? ⟨B,1,none⟩=some (.map (some b))):=⟨hg2.cell T0.out.1 ((seT_nb HS.out).not T0.out.1),hg2.cell T0.out.2 ((seT_nb HS.out).not T0.out.2)⟩;have G2:=hZq (gZq (grown_any GD.out) hg2);clear hb2 hg2;refine hK2.out _ _ (T2.out) (fun hHeld=>?_);clear hK2 K2;try simp only [Act.put,List.setIfInBounds_toArray,List.set_cons_zero,List.set_cons_succ]
  by_cases hok:2<=no/\no<524287/\no ∉ S
  ·rw [if_pos hok] at HB2
   have HP:Hid (BcQ false (NnC S no)):=BcQ.yes (.inr hok);rw [decide_eq_true hok];clear hok;refine wpAnyH_take (i:=11) (oi:=⟨some 18,.unOp .not 4 (.tmp 17),4, "build.go:47",#[⟨10,.data⟩,⟨3,.guard⟩],some (3,true)⟩) (v:=?_) rfl (by kernel_rfl) (by kernel_rfl) (by kernel_rfl) (fun _ _ _ h=>h) (Or.inl ⟨by rfl,?_⟩) (by assumption) ?_
   rotate_left
   ·intro w hSw;(try dsimp only at hSw);go_simp;(try with_reducible rfl)
   simp only [Act.put,List.setIfInBounds_toArray,List.set_cons_zero,List.set_cons_succ];refine wpAnyH_take (i:=12) (oi:=⟨some 19,.pick (.tmp 10) (.tmp 18) (.const (.bool false)),4, "build.go:47",#[⟨3,.data⟩,⟨11,.data⟩],none⟩) (v:=?_) rfl (by kernel_rfl) (by kernel_rfl) (by kernel_rfl) (fun _ _ _ h=>h) (Or.inl ⟨by rfl,?_⟩) (by assumption) ?_
   rotate_left
   ·intro w hSw;(try dsimp only at hSw);go_simp;(try with_reducible rfl)
   simp only [Act.put,List.setIfInBounds_toArray,List.set_cons_zero,List.set_cons_succ];refine wpAnyH_done (by kernel_rfl) ?_ _;refine NoPanic.normal ?_;exact HK.out _ _ _ _ _ _ _ _ _ _ _ _ _ _ HP.out (fun _=>by rw [HN.out];exact HB2.out) G2.out
  ·have HP:Hid (BcQ true (NnC S no)):=BcQ.no fun h=>h.elim H0.out hok
   rw [decide_eq_false hok];clear hok;refine wpAnyH_take (i:=11) (oi:=⟨some 18,.unOp .not 4 (.tmp 17),4, "build.go:47",#[⟨10,.data⟩,⟨3,.guard⟩],some (3,true)⟩) (v:=?_) rfl (by kernel_rfl) (by kernel_rfl) (by kernel_rfl) (fun _ _ _ h=>h) (Or.inl ⟨by rfl,?_⟩) (by assumption) ?_
   rotate_left
   ·intro w hSw;(try dsimp only at hSw);go_simp;(try with_reducible rfl)
   simp only [Act.put,List.setIfInBounds_toArray,List.set_cons_zero,List.set_cons_succ];refine wpAnyH_take (i:=12) (oi:=⟨some 19,.pick (.tmp 10) (.tmp 18) (.const (.bool false)),4, "build.go:47",#[⟨3,.data⟩,⟨11,.data⟩],none⟩) (v:=?_) rfl (by kernel_rfl) (by kernel_rfl) (by kernel_rfl) (fun _ _ _ h=>h) (Or.inl ⟨by rfl,?_⟩) (by assumption) ?_
   rotate_left
   ·intro w hSw;(try dsimp only at hSw);go_simp;(try with_reducible rfl)
   simp only [Act.put,List.setIfInBounds_toArray,List.set_cons_zero,List.set_cons_succ];refine wpAnyH_done (by kernel_rfl) ?_ _;refine NoPanic.normal ?_;exact HK.out _ _ _ _ _ _ _ _ _ _ _ _ _ _ HP.out (fun e=>by cases e) G2.out
theorem addLeafX (B b q pl:Nat)(v:Value)(s:BdS)(no:Int)(ps:List (List Int × List Int))(cs ss:List (List Int))(ks:List Int)(pa:Option Addr)(pn pc:Nat)(ca:Option Addr)(cn cc:Nat)(sa:Option Addr)(sn sc:Nat)(ka:Option Addr)(kn kc:Nat)(w:World)
  (h:BuT w B b q v s) (hp:RpU w pa pn pc ps) (hc:RcU w ca cn cc cs) (hss:ss.length=sn) (hks:ks.length=kn) (hn:pn<=2932031007402) (hq:q<=w.heap.size) (hl:s.parts.length<=5000)
  (hs:∀ p∈ps,p.1.length<=140737488355328/\p.2.length<=140737488355328/\Bt p.1/\Bt p.2) (hz:∀ c∈cs,c.length<=17592186044416/\∀ z∈c,-9223372036854775808<=z/\z<=9223372036854775807) :
  Calls Tryz.prog 78 #[.pointer (some ⟨B,0,none⟩),.int .i64 (pl:Int),.agg #[.int .i64 no,.int .i64 0,.slice pa pn pc,.slice ca cn cc,.slice sa sn sc,.slice ka kn kc]] w fun en w'=>AlX w B b q s pl ⟨no,0,ps,cs,ss,ks⟩ en w':=by
 by_cases hbad:pn=0∨0<sn∨0<kn
 ·exact addLeaf_no B b q pl s ⟨no,0,ps,cs,ss,ks⟩ pa pn pc ca cn cc sa sn sc ka kn kc w hp.len hss hks hbad
 ·obtain rfl:sn=0:=by omega
  obtain rfl:kn=0:=by omega
  obtain rfl:ss=[]:=List.eq_nil_of_length_eq_zero hss;obtain rfl:ks=[]:=List.eq_nil_of_length_eq_zero hks;exact addLeaf_go B b q pl v s no ps cs pa pn pc ca cn cc sa sc ka kc w h hp hc (by omega) hn hq (by omega) hs hz
def AdX (w:World)(B b q:Nat)(s:BdS)(pl:Nat)(n:RnT)(en:Ending)(w':World):Prop :=
 (∃ f,en=.returned (.bool f)/\(f=true->∃ s',AdR s pl n s'/\∃ v',BuT w' B b q v' s')/\((∃ s',AdR s pl n s')->f=true))/\FrB q w w'
theorem ad_leaf {w w1 w':World}{B b q pl:Nat}{s:BdS}{n:RnT}{en:Ending}(hn:NnC s.used n.no)(h0:n.lv=0)(hf:FrB q w w1)(h:AlX w1 B b q ⟨s.parts,tkN s.used n.no⟩ pl n en w'):AdX w B b q s pl n en w':=by
 obtain ⟨⟨f,rfl,h1,h2⟩,h3⟩:=h;refine ⟨⟨f,rfl,fun e=>?_,fun k=>h2 ?_⟩,hf.trans h3⟩
 ·obtain ⟨l,v',hb⟩:=h1 e
  exact ⟨_,⟨hn,.inl ⟨l,rfl⟩⟩,v',hb⟩
 ·obtain ⟨s',_,⟨l,_⟩ | ⟨m,ns,ats,rest,hb,_⟩⟩:=k
  ·exact l
  ·have:=hb.lv
   omega
theorem ad_branch {w w1 w':World}{B b q pl:Nat}{s:BdS}{n:RnT}{en:Ending}(hn:NnC s.used n.no)(h0:n.lv≠0)(hf:FrB q w w1)(h:AbX w1 B b q ⟨s.parts,tkN s.used n.no⟩ pl n en w'):AdX w B b q s pl n en w':=by
 obtain ⟨⟨f,rfl,h1,h2⟩,h3⟩:=h;refine ⟨⟨f,rfl,fun e=>?_,fun k=>h2 ?_⟩,hf.trans h3⟩
 ·obtain ⟨m,ns,ats,rest,hb,hp,v',hv⟩:=h1 e
  exact ⟨_,⟨hn,.inr ⟨m,ns,ats,rest,hb,hp,rfl⟩⟩,v',hv⟩
 ·obtain ⟨s',_,⟨l,_⟩ | ⟨m,ns,ats,rest,hb,hp,_⟩⟩:=k
  ·exact absurd l.lv h0
  ·exact ⟨m,ns,ats,rest,hb,hp⟩
theorem ad_no {w w':World}{B b q pl:Nat}{s:BdS}{n:RnT}{en:Ending}(e:en=.returned (.bool false))(hn:¬ NnC s.used n.no)(hf:FrB q w w'):AdX w B b q s pl n en w' :=
 ⟨⟨false,e,(fun e=>by cases e),fun ⟨_,h,_⟩=>absurd h hn⟩,hf⟩
theorem add_any (B b q pl:Nat)(v:Value)(s:BdS)(no lv:Int)(ps:List (List Int × List Int))(cs ss:List (List Int))(ks:List Int)(pa:Option Addr)(pn pc:Nat)(ca:Option Addr)(cn cc:Nat)(sa:Option Addr)(sn sc:Nat)(ka:Option Addr)(kn kc:Nat)(w:World)
  (h:BuT w B b q v s) (hp:RpU w pa pn pc ps) (hc:RcU w ca cn cc cs) (hss:SsU w sa sn sc ss) (hks:NmU w ka kn kc ks) (hn:pn<=2932031007402) (hq:q<=w.heap.size) (hl:s.parts.length<=5000)
  (hs:∀ p∈ps,p.1.length<=140737488355328/\p.2.length<=140737488355328/\Bt p.1/\Bt p.2) (hz:∀ c∈cs,c.length<=17592186044416/\∀ z∈c,-9223372036854775808<=z/\z<=9223372036854775807)
  (hok:∀ e∈s.parts,OkT e.1.lv e.1.root/\e.1.lv<=15) (hb:∀ s∈ss,s.length<=140737488355328/\Bt s) (hno:-9223372036854775808<=no/\no<=9223372036854775807) :
  Calls Tryz.prog 57 #[.pointer (some ⟨B,0,none⟩),.int .i64 (pl:Int),.agg #[.int .i64 no,.int .i64 lv,.slice pa pn pc,.slice ca cn cc,.slice sa sn sc,.slice ka kn kc]] w fun en w'=>AdX w B b q s pl ⟨no,lv,ps,cs,ss,ks⟩ en w':=by
 have g1:=World.grownBy_alloc w (.cells #[.int .i64 no,.int .i64 lv,.slice pa pn pc,.slice ca cn cc,.slice sa sn sc,.slice ka kn kc] 61) none;have G1:=hZq g1;have HB1:=hZq (h.grown g1);have R1:=hZq (heap_alloc_new w (.cells #[.int .i64 no,.int .i64 lv,.slice pa pn pc,.slice ca cn cc,.slice sa sn sc,.slice ka kn kc] 61));have HP1:=hZq (hp.kept (CkF.of g1));have HC1:=hZq (hc.kept (CkF.of g1));have HS1:=hZq (hss.kept (CkF.of g1));have HK1:Hid (NmU (w.alloc (.cells #[.int .i64 no,.int .i64 lv,.slice pa pn pc,.slice ca cn cc,.slice sa sn sc,.slice ka kn kc] 61)) ka kn kc ks):=EsU.kept hks (CkF.of g1);have HL:=hZq hl;have HQ:=hZq hq;have HA:=hZq hs;have HZ:=hZq hz;have HOK:=hZq hok;have HSB:=hZq hb;have HN:=hZq hn;have HNO:=hZq hno;clear h hp hc hss hks hq hl hs hz hok hb hno g1 hn;go_enter Tryz.func57,Tryz.ntmps57;go_upto_region 1 with fail
 generalize w.alloc (.cells #[.int .i64 no,.int .i64 lv,.slice pa pn pc,.slice ca cn cc,.slice sa sn sc,.slice ka kn kc] 61)=w1 at *;generalize hD:w.heap.size=D at *;have HD:=hZq hD;clear hD;refine ad_r1 (cell_of_row w1 D 0 _ _ (0,0) R1.out) (bu_cell1 HB1.out) HB1.out.us HNO.out ?_;intro v7 v8 v9 v10 v11 v12 v13 v14 v15 v16 v17 v18 f w2 hbc hse hg2;have BC:=hZq hbc;have X2:=hZq ((FrB.of (q:=q) G1.out).trans (FrB.mapped HB1.out.qb (seT_nb HB1.out.us) hg2));have FT:=hZq (CkF.mapped (seT_nb HB1.out.us) hg2);have FX:=hZq (FrX.mapped (S:=ScBu) (seT_nb HB1.out.us) hg2);have HSE:=hZq hse;have GX:=hZq hg2;clear hbc hse hg2;try simp only [Exit.then]
 cases f with
 | true =>
  go_wp2;go_ret;exact ad_no rfl (BC.out.1 rfl) X2.out
 | false =>
  have NN:=hZq (BC.out.2 rfl);have HB2:=hZq (HB1.out.used GX.out (HSE.out rfl));have R2:=hZq (FX.out.keep D 61 _ _ (by decide) R1.out);have c0:w2.cell? ⟨D,0,none⟩=some (.int .i64 no):=cell_of_row w2 D 0 _ _ (0,0) R2.out;have c1:w2.cell? ⟨D,1,none⟩=some (.int .i64 lv):=cell_of_row w2 D 1 _ _ (0,0) R2.out;have c2:w2.cell? ⟨D,2,none⟩=some (.slice pa pn pc):=cell_of_row w2 D 2 _ _ (0,0) R2.out;have c3:w2.cell? ⟨D,3,none⟩=some (.slice ca cn cc):=cell_of_row w2 D 3 _ _ (0,0) R2.out;have c4:w2.cell? ⟨D,4,none⟩=some (.slice sa sn sc):=cell_of_row w2 D 4 _ _ (0,0) R2.out;have c5:w2.cell? ⟨D,5,none⟩=some (.slice ka kn kc):=cell_of_row w2 D 5 _ _ (0,0) R2.out;have hq2:Hid (q<=w2.heap.size):=by have:=HQ.out;have:=HD.out;have:=G1.out.size;have:=GX.out.size;show q<=_;omega
  by_cases hlv:lv=0
  ·subst hlv
   have AL:=hZq (addLeafX B b q pl v ⟨s.parts,tkN s.used no⟩ no ps cs ss ks pa pn pc ca cn cc sa sn sc ka kn kc w2 HB2.out (HP1.out.kept FT.out) (HC1.out.kept FT.out) HS1.out.len (by have:=HK1.out.len;simpa using this) HN.out hq2.out HL.out HA.out HZ.out)
   go_wp2_with fail
   refine AL.out.mono ?_;rintro en w3 ha;have HA3:=hZq (ad_leaf (s:=s) (n:=⟨no,0,ps,cs,ss,ks⟩) NN.out rfl X2.out ha);obtain ⟨⟨f,rfl,_⟩,_⟩:=ha;clear AL;go_wp2;go_ret;exact HA3.out
  ·have AB:=hZq (addBranch_go B b q pl v ⟨s.parts,tkN s.used no⟩ no lv ps cs ss ks pa pn pc ca cn cc sa sn sc ka kn kc w2 HB2.out HP1.out.len HC1.out.len (HS1.out.kept FT.out) (EsU.kept HK1.out FT.out) hq2.out HL.out HOK.out HSB.out)
   have hl0:(lv==0)=false:=by simp [hlv]
   have H0:=hZq hlv
   go_wp2_with fail
   refine AB.out.mono ?_;rintro en w3 ha;have HA3:=hZq (ad_branch (s:=s) (n:=⟨no,lv,ps,cs,ss,ks⟩) NN.out H0.out X2.out ha);obtain ⟨⟨f,rfl,_⟩,_⟩:=ha;clear AB;go_wp2;go_ret;exact HA3.out
end Go.Proofs.YteaahinjcfjngaaGreat
