import Derived.Test.YteaahinjcfjngaaGreatQ34
import Derived.Deep.RegionHeld3
import Derived.Deep.DrawnRows
set_option maxRecDepth 100000
set_option maxHeartbeats 16000000
namespace Go.Proofs.YteaahinjcfjngaaGreat
open Go.RowKit
theorem mL_number (v:Value)(w:World):(method 330 133 v "coppice/tree.number").run Tryz.prog w=.ok (173,v) w:=by kernel_rfl
theorem mB_number (v:Value)(w:World):(method 330 161 v "coppice/tree.number").run Tryz.prog w=.ok (186,v) w:=by kernel_rfl
theorem lnumber_any (b:Nat)(no:Int)(v:Value)(w:World)(h:w.heap[b]?=some (.cells #[.int .i64 no,v] 135 (0,0))):Calls Tryz.prog 173 #[.pointer (some ⟨b,0,none⟩)] w fun en w'=>en=.returned (.int .i64 no)/\w'=w:=by
 have c0:w.cell? ⟨b,0,none⟩=some (.int .i64 no):=cell_of_row w b 0 _ _ (0,0) h;clear h;go_enter Tryz.func173,Tryz.ntmps173;go_wp2;go_ret;exact ⟨rfl,rfl⟩
theorem bnumber_any (b:Nat)(no:Int)(v u:Value)(w:World)(h:w.heap[b]?=some (.cells #[.int .i64 no,v,u] 163 (0,0))):Calls Tryz.prog 186 #[.pointer (some ⟨b,0,none⟩)] w fun en w'=>en=.returned (.int .i64 no)/\w'=w:=by
 have c0:w.cell? ⟨b,0,none⟩=some (.int .i64 no):=cell_of_row w b 0 _ _ (0,0) h;clear h;go_enter Tryz.func186,Tryz.ntmps186;go_wp2;go_ret;exact ⟨rfl,rfl⟩
theorem ab_r9L {y0 y1 y2 y3 y4 y6 y7 y8 y9 y10 y13 y14 y15 y16 y17 y18 y19 y20 y21 y22 y23 y24 y25 y26 y27 y28 y29 y30 y31 y32 y33 y34 y35 y36 y37 y38 y39 y40 y41 y42 y43 y44 y45 y46 y47 y48 y49 y50 y51 y52 y53 y54 y55 y56 y57 y58 y59 y60 y61 y62 y63 y64 y65 y66 y67 y68 y69 y70 y71 y72 y73 y74 y75 y76 y77 y78 y79 y80 y81 y82 y83 y84 y85 y86 y87 y88 y89 y90 y91 y92 y93 y94 y95 y96 y97 y98 y99 y100 y101 y102 y103 y104 y105 y106 y107 y108 y109 y110 y111 y112 y113 y114 y115 y116 y117 y118 y119 y120 y121 y122 y123 y124 y125 y126 y127 y128 y129 y130 y131 y132 y133 y134 y135 y136 y137 y138 y139 y140 y141 y142 y143 y144 y145 y146 y147 y148 y149 y150 y151 y152 y153 y154 y155 y156 y157 y158 y159 y160 y161 y162 y163 y164 y165 y166 y167 y168 y169 y170 y171 y172 y173 y174 y175 y176 y177 y178 y179:Value}{D X b1 g off i kn kc:Nat}{no nlv kat kz lq nq:Int}{wr:World}{K:Exit->Act->World->Prop}
  (u0:wr.cell? ⟨X,0,none⟩=some (.iface 133 (.pointer (some ⟨b1,0,none⟩)))) (u1:wr.cell? ⟨X,1,none⟩=some (.int .i64 kat))
  (d0:wr.cell? ⟨D,0,none⟩=some (.int .i64 no)) (d1:wr.cell? ⟨D,1,none⟩=some (.int .i64 nlv)) (d5:wr.cell? ⟨D,5,none⟩=some (.slice (some ⟨g,off,none⟩) kn kc)) (hi:i<kn) (z0:wr.cell? ⟨g,off+i,none⟩=some (.int .i64 kz))
  (hl:0<=lq/\lq<=1000000) (hLV:∀ W:World,wr.grownBy W none->Calls Tryz.prog 172 #[.pointer (some ⟨b1,0,none⟩)] W fun en w'=>en=.returned (.int .i64 lq)/\W.grownBy w' none)
  (hNU:∀ W:World,wr.grownBy W none->Calls Tryz.prog 173 #[.pointer (some ⟨b1,0,none⟩)] W fun en w'=>en=.returned (.int .i64 nq)/\w'=W)
  (hK:∀ (v82 v83 v84 v85 v86 v87 v88 v89 v90 v91 v92 v93 v94 v95 v96 v97 v98 v99 v100 v101 v102 v103 v104 v105 v106 v107 v108:Value) (f:Bool) (wx:World),BcQ f (kat=kz/\lq+1=nlv/\(no≠0->nq≠0))->wr.grownBy wx none->K .normal ⟨List.toArray (y0::y1::y2::y3::y4::(.pointer (some ⟨D,0,none⟩))::y6::y7::y8::y9::y10::(.int .i64 (i:Nat))::(.pointer (some ⟨X,0,none⟩))::y13::y14::y15::y16::y17::y18::y19::y20::y21::y22::y23::y24::y25::y26::y27::y28::y29::y30::y31::y32::y33::y34::y35::y36::y37::y38::y39::y40::y41::y42::y43::y44::y45::y46::y47::y48::y49::y50::y51::y52::y53::y54::y55::y56::y57::y58::y59::y60::y61::y62::y63::y64::y65::y66::y67::y68::y69::y70::y71::y72::y73::y74::y75::y76::y77::y78::y79::y80::y81::v82::v83::v84::v85::v86::v87::v88::v89::v90::v91::v92::v93::v94::v95::v96::v97::v98::v99::v100::v101::v102::v103::v104::v105::v106::v107::v108::(.bool f)::y110::y111::y112::y113::y114::y115::y116::y117::y118::y119::y120::y121::y122::y123::y124::y125::y126::y127::y128::y129::y130::y131::y132::y133::y134::y135::y136::y137::y138::y139::y140::y141::y142::y143::y144::y145::y146::y147::y148::y149::y150::y151::y152::y153::y154::y155::y156::y157::y158::y159::y160::y161::y162::y163::y164::y165::y166::y167::y168::y169::y170::y171::y172::y173::y174::y175::y176::y177::y178::y179::[]),[]⟩ wx) :
  Code.wp Tryz.prog (Go.Code.region 9 #[⟨some 82,.fieldAddr 118 (.tmp 12) 1,0, "build.go:122",#[],none⟩,⟨some 83,.load 3 (.tmp 82),3, "build.go:122",#[⟨0,.data⟩],none⟩,⟨some 84,.fieldAddr 61 (.tmp 5) 5,0, "build.go:122",#[],none⟩,⟨some 85,.load 30 (.tmp 84),30, "build.go:122",#[⟨2,.data⟩],none⟩,⟨some 86,.move (.tmp 11),3, "build.go:122",#[],none⟩,⟨some 87,.indexAddr 30 (.tmp 85) (.tmp 86),0, "build.go:122",#[⟨3,.data⟩,⟨4,.data⟩],none⟩,⟨some 88,.load 3 (.tmp 87),3, "build.go:122",#[⟨5,.data⟩],none⟩,⟨some 89,.binOp .neq 3 (.tmp 83) (.tmp 88) 3,4, "build.go:122",#[⟨1,.data⟩,⟨6,.data⟩],none⟩,⟨some 90,.move (.tmp 89),4, "build.go:122",#[⟨7,.data⟩],none⟩,⟨some 91,.fieldAddr 118 (.tmp 12) 0,0, "build.go:122",#[⟨8,.guard⟩],some (8,false)⟩,⟨some 92,.load 116 (.tmp 91),116, "build.go:122",#[⟨9,.data⟩,⟨8,.guard⟩],some (8,false)⟩,⟨some 93,.call { callee:=.invoke (.tmp 92) "coppice/tree.level",args:=#[],argTypes:=#[] },3, "build.go:122",#[⟨10,.data⟩,⟨8,.chain⟩,⟨8,.guard⟩],some (8,false)⟩,⟨some 94,.binOp .add 3 (.tmp 93) (.const (.int .i64 1)) 3,3, "build.go:122",#[⟨11,.data⟩,⟨8,.guard⟩],some (8,false)⟩,⟨some 95,.fieldAddr 61 (.tmp 5) 1,0, "build.go:122",#[⟨8,.guard⟩],some (8,false)⟩,⟨some 96,.load 3 (.tmp 95),3, "build.go:122",#[⟨13,.data⟩,⟨8,.guard⟩],some (8,false)⟩,⟨some 97,.binOp .neq 3 (.tmp 94) (.tmp 96) 3,4, "build.go:122",#[⟨12,.data⟩,⟨14,.data⟩,⟨8,.guard⟩],some (8,false)⟩,⟨some 98,.pick (.tmp 90) (.const (.bool true)) (.tmp 97),4, "build.go:122",#[⟨8,.data⟩,⟨15,.data⟩],none⟩,⟨some 99,.move (.tmp 98),4, "build.go:122",#[⟨16,.data⟩,⟨11,.chain⟩],none⟩,⟨some 100,.fieldAddr 61 (.tmp 5) 0,0, "build.go:122",#[⟨17,.guard⟩],some (17,false)⟩,⟨some 101,.load 3 (.tmp 100),3, "build.go:122",#[⟨18,.data⟩,⟨17,.guard⟩],some (17,false)⟩,⟨some 102,.binOp .neq 3 (.tmp 101) (.const (.int .i64 0)) 3,4, "build.go:122",#[⟨19,.data⟩,⟨17,.guard⟩],some (17,false)⟩,⟨some 103,.move (.tmp 102),4, "build.go:122",#[⟨20,.data⟩,⟨17,.chain⟩,⟨17,.guard⟩],some (17,false)⟩,⟨some 104,.fieldAddr 118 (.tmp 12) 0,0, "build.go:122",#[⟨21,.guard⟩],some (21,true)⟩,⟨some 105,.load 116 (.tmp 104),116, "build.go:122",#[⟨22,.data⟩,⟨21,.guard⟩],some (21,true)⟩,⟨some 106,.call { callee:=.invoke (.tmp 105) "coppice/tree.number",args:=#[],argTypes:=#[] },3, "build.go:122",#[⟨23,.data⟩,⟨21,.chain⟩,⟨21,.guard⟩],some (21,true)⟩,⟨some 107,.binOp .eql 3 (.tmp 106) (.const (.int .i64 0)) 3,4, "build.go:122",#[⟨24,.data⟩,⟨21,.guard⟩],some (21,true)⟩,⟨some 108,.pick (.tmp 103) (.tmp 107) (.const (.bool false)),4, "build.go:122",#[⟨21,.data⟩,⟨25,.data⟩,⟨17,.guard⟩],some (17,false)⟩,⟨some 109,.pick (.tmp 99) (.const (.bool true)) (.tmp 108),4, "build.go:122",#[⟨17,.data⟩,⟨26,.data⟩],none⟩] true) K ⟨List.toArray (y0::y1::y2::y3::y4::(.pointer (some ⟨D,0,none⟩))::y6::y7::y8::y9::y10::(.int .i64 (i:Nat))::(.pointer (some ⟨X,0,none⟩))::y13::y14::y15::y16::y17::y18::y19::y20::y21::y22::y23::y24::y25::y26::y27::y28::y29::y30::y31::y32::y33::y34::y35::y36::y37::y38::y39::y40::y41::y42::y43::y44::y45::y46::y47::y48::y49::y50::y51::y52::y53::y54::y55::y56::y57::y58::y59::y60::y61::y62::y63::y64::y65::y66::y67::y68::y69::y70::y71::y72::y73::y74::y75::y76::y77::y78::y79::y80::y81::y82::y83::y84::y85::y86::y87::y88::y89::y90::y91::y92::y93::y94::y95::y96::y97::y98::y99::y100::y101::y102::y103::y104::y105::y106::y107::y108::y109::y110::y111::y112::y113::y114::y115::y116::y117::y118::y119::y120::y121::y122::y123::y124::y125::y126::y127::y128::y129::y130::y131::y132::y133::y134::y135::y136::y137::y138::y139::y140::y141::y142::y143::y144::y145::y146::y147::y148::y149::y150::y151::y152::y153::y154::y155::y156::y157::y158::y159::y160::y161::y162::y163::y164::y165::y166::y167::y168::y169::y170::y171::y172::y173::y174::y175::y176::y177::y178::y179::[]),[]⟩ wr:=by
 have HK:=hZq hK;have LV:=hZq hLV;have NU:=hZq hNU;have GD:=hZq (show wr.grownBy wr.drew none from (Qt.refl wr).drew.grown none);have T1:Hid (wr.cell? ⟨X,0,none⟩=some (.iface 133 (.pointer (some ⟨b1,0,none⟩)))/\wr.cell? ⟨X,1,none⟩=some (.int .i64 kat)/\wr.cell? ⟨D,0,none⟩=some (.int .i64 no)/\wr.cell? ⟨D,1,none⟩=some (.int .i64 nlv)/\wr.cell? ⟨D,5,none⟩=some (.slice (some ⟨g,off,none⟩) kn kc)/\wr.cell? ⟨g,off+i,none⟩=some (.int .i64 kz)):=⟨u0,u1,d0,d1,d5,z0⟩;have KP:Hid (∀ W:World,wr.grownBy W none->W.cell? ⟨X,0,none⟩=some (.iface 133 (.pointer (some ⟨b1,0,none⟩)))/\W.cell? ⟨X,1,none⟩=some (.int .i64 kat)/\W.cell? ⟨D,0,none⟩=some (.int .i64 no)/\W.cell? ⟨D,1,none⟩=some (.int .i64 nlv)/\W.cell? ⟨D,5,none⟩=some (.slice (some ⟨g,off,none⟩) kn kc)/\W.cell? ⟨g,off+i,none⟩=some (.int .i64 kz)):=fun W hg=>⟨hg.cell u0 (by simp),hg.cell u1 (by simp),hg.cell d0 (by simp),hg.cell d1 (by simp),hg.cell d5 (by simp),hg.cell z0 (by simp)⟩
 clear hK hLV hNU u0 u1 d0 d1 d5 z0;have i1:(i:Int)<(kn:Int):=by omega
 have i0:(0:Int)<=(i:Int):=by omega
 have hme:=mL_level;have hmn:=mL_number;obtain ⟨l1,hl1⟩:∃ l1,lq+1=l1:=⟨_,rfl⟩;have hw:IntKind.i64.wrap (lq+1)=l1:=by rw [hl1];exact wrap_id10 (by omega) (by omega)
 rw [hl1] at HK;clear hl hl1 hi
 by_cases h1:kat=kz
 ·have g1:(kat != kz)=false:=by simp [h1]
  by_cases h2:l1=nlv
  ·have g2:(l1 != nlv)=false:=by simp [h2]
   by_cases h3:no=0
   ·have g3:(no != 0)=false:=by simp [h3]
    have HP:Hid (BcQ false (kat=kz/\l1=nlv/\(no≠0->nq≠0))):=BcQ.yes ⟨h1,h2,fun e=>absurd h3 e⟩;clear h1 h2 h3;have T0:=hZq (KP.out _ GD.out);refine wp_region_noPanic ?_;refine wp_region_held_drew (S:=(fun w'=>w'.cell? ⟨X,0,none⟩=some (.iface 133 (.pointer (some ⟨b1,0,none⟩)))/\w'.cell? ⟨X,1,none⟩=some (.int .i64 kat)/\w'.cell? ⟨D,0,none⟩=some (.int .i64 no)/\w'.cell? ⟨D,1,none⟩=some (.int .i64 nlv)/\w'.cell? ⟨D,5,none⟩=some (.slice (some ⟨g,off,none⟩) kn kc)/\w'.cell? ⟨g,off+i,none⟩=some (.int .i64 kz))) (by kernel_rfl) ?_ (fun hHeld=>?_)
    ·exact T0.out
    generalize wr.drew=wd at *;refine wpAnyH_take (i:=0) (oi:=⟨some 82,.fieldAddr 118 (.tmp 12) 1,0, "build.go:122",#[],none⟩) (v:=?_) rfl (by kernel_rfl) (by kernel_rfl) (by kernel_rfl) (fun _ _ _ h=>h) (Or.inl ⟨by rfl,?_⟩) (by assumption) ?_
    rotate_left
    ·intro w hSw;(try dsimp only at hSw);go_simp;(try with_reducible rfl)
    simp only [Act.put,List.setIfInBounds_toArray,List.set_cons_zero,List.set_cons_succ];refine wpAnyH_take (i:=1) (oi:=⟨some 83,.load 3 (.tmp 82),3, "build.go:122",#[⟨0,.data⟩],none⟩) (v:=?_) rfl (by kernel_rfl) (by kernel_rfl) (by kernel_rfl) (fun _ _ _ h=>h) (Or.inl ⟨by rfl,?_⟩) (by assumption) ?_
    rotate_left
    ·intro w hSw;(try dsimp only at hSw);go_simp;(try with_reducible rfl)
    simp only [Act.put,List.setIfInBounds_toArray,List.set_cons_zero,List.set_cons_succ];refine wpAnyH_take (i:=2) (oi:=⟨some 84,.fieldAddr 61 (.tmp 5) 5,0, "build.go:122",#[],none⟩) (v:=?_) rfl (by kernel_rfl) (by kernel_rfl) (by kernel_rfl) (fun _ _ _ h=>h) (Or.inl ⟨by rfl,?_⟩) (by assumption) ?_
    rotate_left
    ·intro w hSw;(try dsimp only at hSw);go_simp;(try with_reducible rfl)
    simp only [Act.put,List.setIfInBounds_toArray,List.set_cons_zero,List.set_cons_succ];refine wpAnyH_take (i:=3) (oi:=⟨some 85,.load 30 (.tmp 84),30, "build.go:122",#[⟨2,.data⟩],none⟩) (v:=?_) rfl (by kernel_rfl) (by kernel_rfl) (by kernel_rfl) (fun _ _ _ h=>h) (Or.inl ⟨by rfl,?_⟩) (by assumption) ?_
    rotate_left
    ·intro w hSw;(try dsimp only at hSw);go_simp;(try with_reducible rfl)
    simp only [Act.put,List.setIfInBounds_toArray,List.set_cons_zero,List.set_cons_succ];refine wpAnyH_take (i:=4) (oi:=⟨some 86,.move (.tmp 11),3, "build.go:122",#[],none⟩) (v:=?_) rfl (by kernel_rfl) (by kernel_rfl) (by kernel_rfl) (fun _ _ _ h=>h) (Or.inl ⟨by rfl,?_⟩) (by assumption) ?_
    rotate_left
    ·intro w hSw;(try dsimp only at hSw);go_simp;(try with_reducible rfl)
    simp only [Act.put,List.setIfInBounds_toArray,List.set_cons_zero,List.set_cons_succ];refine wpAnyH_take (i:=5) (oi:=⟨some 87,.indexAddr 30 (.tmp 85) (.tmp 86),0, "build.go:122",#[⟨3,.data⟩,⟨4,.data⟩],none⟩) (v:=?_) rfl (by kernel_rfl) (by kernel_rfl) (by kernel_rfl) (fun _ _ _ h=>h) (Or.inl ⟨by rfl,?_⟩) (by assumption) ?_
    rotate_left
    ·intro w hSw;(try dsimp only at hSw);go_simp;(try with_reducible rfl)
    simp only [Act.put,List.setIfInBounds_toArray,List.set_cons_zero,List.set_cons_succ];refine wpAnyH_take (i:=6) (oi:=⟨some 88,.load 3 (.tmp 87),3, "build.go:122",#[⟨5,.data⟩],none⟩) (v:=?_) rfl (by kernel_rfl) (by kernel_rfl) (by kernel_rfl) (fun _ _ _ h=>h) (Or.inl ⟨by rfl,?_⟩) (by assumption) ?_
    rotate_left
    ·intro w hSw;(try dsimp only at hSw);go_simp;(try with_reducible rfl)
    simp only [Act.put,List.setIfInBounds_toArray,List.set_cons_zero,List.set_cons_succ];refine wpAnyH_take (i:=7) (oi:=⟨some 89,.binOp .neq 3 (.tmp 83) (.tmp 88) 3,4, "build.go:122",#[⟨1,.data⟩,⟨6,.data⟩],none⟩) (v:=?_) rfl (by kernel_rfl) (by kernel_rfl) (by kernel_rfl) (fun _ _ _ h=>h) (Or.inl ⟨by rfl,?_⟩) (by assumption) ?_
    rotate_left
    ·intro w hSw;(try dsimp only at hSw);go_simp;(try with_reducible rfl)
    simp only [Act.put,List.setIfInBounds_toArray,List.set_cons_zero,List.set_cons_succ];refine wpAnyH_take (i:=8) (oi:=⟨some 90,.move (.tmp 89),4, "build.go:122",#[⟨7,.data⟩],none⟩) (v:=?_) rfl (by kernel_rfl) (by kernel_rfl) (by kernel_rfl) (fun _ _ _ h=>h) (Or.inl ⟨by rfl,?_⟩) (by assumption) ?_
    rotate_left
    ·intro w hSw;(try dsimp only at hSw);go_simp;(try with_reducible rfl)
    simp only [Act.put,List.setIfInBounds_toArray,List.set_cons_zero,List.set_cons_succ];refine wpAnyH_take (i:=9) (oi:=⟨some 91,.fieldAddr 118 (.tmp 12) 0,0, "build.go:122",#[⟨8,.guard⟩],some (8,false)⟩) (v:=?_) rfl (by kernel_rfl) (by kernel_rfl) (by kernel_rfl) (fun _ _ _ h=>h) (Or.inl ⟨by rfl,?_⟩) (by assumption) ?_
    rotate_left
    ·intro w hSw;(try dsimp only at hSw);go_simp;(try with_reducible rfl)
    simp only [Act.put,List.setIfInBounds_toArray,List.set_cons_zero,List.set_cons_succ];refine wpAnyH_take (i:=10) (oi:=⟨some 92,.load 116 (.tmp 91),116, "build.go:122",#[⟨9,.data⟩,⟨8,.guard⟩],some (8,false)⟩) (v:=?_) rfl (by kernel_rfl) (by kernel_rfl) (by kernel_rfl) (fun _ _ _ h=>h) (Or.inl ⟨by rfl,?_⟩) (by assumption) ?_
    rotate_left
    ·intro w hSw;(try dsimp only at hSw);go_simp;(try with_reducible rfl)
    simp only [Act.put,List.setIfInBounds_toArray,List.set_cons_zero,List.set_cons_succ];refine wpAnyH_take (i:=13) (oi:=⟨some 95,.fieldAddr 61 (.tmp 5) 1,0, "build.go:122",#[⟨8,.guard⟩],some (8,false)⟩) (v:=?_) rfl (by kernel_rfl) (by kernel_rfl) (by kernel_rfl) (fun _ _ _ h=>h) (Or.inl ⟨by rfl,?_⟩) (by assumption) ?_
    rotate_left
    ·intro w hSw;(try dsimp only at hSw);go_simp;(try with_reducible rfl)
    simp only [Act.put,List.setIfInBounds_toArray,List.set_cons_zero,List.set_cons_succ];refine wpAnyH_take (i:=14) (oi:=⟨some 96,.load 3 (.tmp 95),3, "build.go:122",#[⟨13,.data⟩,⟨8,.guard⟩],some (8,false)⟩) (v:=?_) rfl (by kernel_rfl) (by kernel_rfl) (by kernel_rfl) (fun _ _ _ h=>h) (Or.inl ⟨by rfl,?_⟩) (by assumption) ?_
    rotate_left
    ·intro w hSw;(try dsimp only at hSw);go_simp;(try with_reducible rfl)
    simp only [Act.put,List.setIfInBounds_toArray,List.set_cons_zero,List.set_cons_succ];refine wpAnyH_ready (rs:=[11]) (by kernel_rfl) (by simp) ?_;refine AllReadyH.cons (o:=⟨some 93,.call { callee:=.invoke (.tmp 92) "coppice/tree.level",args:=#[],argTypes:=#[] },3, "build.go:122",#[⟨10,.data⟩,⟨8,.chain⟩,⟨8,.guard⟩],some (8,false)⟩) rfl (fun K2 hK2=>?_) AllReadyH.nil
    go_simp
    go_at_call 172
    refine (LV.out _ GD.out).mono ?_;rintro en w4 ⟨rfl,hg4⟩;have G4:=hZq (gZq GD.out hg4);have T4:=hZq (KP.out _ G4.out);clear hg4;refine hK2.out _ _ (T4.out) (fun hHeld=>?_);clear hK2 K2;try simp only [Act.put,List.setIfInBounds_toArray,List.set_cons_zero,List.set_cons_succ]
    refine wpAnyH_take (i:=12) (oi:=⟨some 94,.binOp .add 3 (.tmp 93) (.const (.int .i64 1)) 3,3, "build.go:122",#[⟨11,.data⟩,⟨8,.guard⟩],some (8,false)⟩) (v:=?_) rfl (by kernel_rfl) (by kernel_rfl) (by kernel_rfl) (fun _ _ _ h=>h) (Or.inl ⟨by rfl,?_⟩) (by assumption) ?_
    rotate_left
    ·intro w hSw;(try dsimp only at hSw);go_simp;(try with_reducible rfl)
    simp only [Act.put,List.setIfInBounds_toArray,List.set_cons_zero,List.set_cons_succ];refine wpAnyH_take (i:=15) (oi:=⟨some 97,.binOp .neq 3 (.tmp 94) (.tmp 96) 3,4, "build.go:122",#[⟨12,.data⟩,⟨14,.data⟩,⟨8,.guard⟩],some (8,false)⟩) (v:=?_) rfl (by kernel_rfl) (by kernel_rfl) (by kernel_rfl) (fun _ _ _ h=>h) (Or.inl ⟨by rfl,?_⟩) (by assumption) ?_
    rotate_left
    ·intro w hSw;(try dsimp only at hSw);go_simp;(try with_reducible rfl)
    simp only [Act.put,List.setIfInBounds_toArray,List.set_cons_zero,List.set_cons_succ];refine wpAnyH_take (i:=16) (oi:=⟨some 98,.pick (.tmp 90) (.const (.bool true)) (.tmp 97),4, "build.go:122",#[⟨8,.data⟩,⟨15,.data⟩],none⟩) (v:=?_) rfl (by kernel_rfl) (by kernel_rfl) (by kernel_rfl) (fun _ _ _ h=>h) (Or.inl ⟨by rfl,?_⟩) (by assumption) ?_
    rotate_left
    ·intro w hSw;(try dsimp only at hSw);go_simp;(try with_reducible rfl)
    simp only [Act.put,List.setIfInBounds_toArray,List.set_cons_zero,List.set_cons_succ];refine wpAnyH_take (i:=17) (oi:=⟨some 99,.move (.tmp 98),4, "build.go:122",#[⟨16,.data⟩,⟨11,.chain⟩],none⟩) (v:=?_) rfl (by kernel_rfl) (by kernel_rfl) (by kernel_rfl) (fun _ _ _ h=>h) (Or.inl ⟨by rfl,?_⟩) (by assumption) ?_
    rotate_left
    ·intro w hSw;(try dsimp only at hSw);go_simp;(try with_reducible rfl)
    simp only [Act.put,List.setIfInBounds_toArray,List.set_cons_zero,List.set_cons_succ];refine wpAnyH_take (i:=18) (oi:=⟨some 100,.fieldAddr 61 (.tmp 5) 0,0, "build.go:122",#[⟨17,.guard⟩],some (17,false)⟩) (v:=?_) rfl (by kernel_rfl) (by kernel_rfl) (by kernel_rfl) (fun _ _ _ h=>h) (Or.inl ⟨by rfl,?_⟩) (by assumption) ?_
    rotate_left
    ·intro w hSw;(try dsimp only at hSw);go_simp;(try with_reducible rfl)
    simp only [Act.put,List.setIfInBounds_toArray,List.set_cons_zero,List.set_cons_succ];refine wpAnyH_take (i:=19) (oi:=⟨some 101,.load 3 (.tmp 100),3, "build.go:122",#[⟨18,.data⟩,⟨17,.guard⟩],some (17,false)⟩) (v:=?_) rfl (by kernel_rfl) (by kernel_rfl) (by kernel_rfl) (fun _ _ _ h=>h) (Or.inl ⟨by rfl,?_⟩) (by assumption) ?_
    rotate_left
    ·intro w hSw;(try dsimp only at hSw);go_simp;(try with_reducible rfl)
    simp only [Act.put,List.setIfInBounds_toArray,List.set_cons_zero,List.set_cons_succ];refine wpAnyH_take (i:=20) (oi:=⟨some 102,.binOp .neq 3 (.tmp 101) (.const (.int .i64 0)) 3,4, "build.go:122",#[⟨19,.data⟩,⟨17,.guard⟩],some (17,false)⟩) (v:=?_) rfl (by kernel_rfl) (by kernel_rfl) (by kernel_rfl) (fun _ _ _ h=>h) (Or.inl ⟨by rfl,?_⟩) (by assumption) ?_
    rotate_left
    ·intro w hSw;(try dsimp only at hSw);go_simp;(try with_reducible rfl)
    simp only [Act.put,List.setIfInBounds_toArray,List.set_cons_zero,List.set_cons_succ];refine wpAnyH_take (i:=21) (oi:=⟨some 103,.move (.tmp 102),4, "build.go:122",#[⟨20,.data⟩,⟨17,.chain⟩,⟨17,.guard⟩],some (17,false)⟩) (v:=?_) rfl (by kernel_rfl) (by kernel_rfl) (by kernel_rfl) (fun _ _ _ h=>h) (Or.inl ⟨by rfl,?_⟩) (by assumption) ?_
    rotate_left
    ·intro w hSw;(try dsimp only at hSw);go_simp;(try with_reducible rfl)
    simp only [Act.put,List.setIfInBounds_toArray,List.set_cons_zero,List.set_cons_succ];refine wpAnyH_take (i:=22) (oi:=⟨some 104,.fieldAddr 118 (.tmp 12) 0,0, "build.go:122",#[⟨21,.guard⟩],some (21,true)⟩) (v:=undef) rfl (by kernel_rfl) (by kernel_rfl) (by kernel_rfl) (fun _ _ _ h=>h) (Or.inr ⟨by rfl,rfl⟩) (by assumption) ?_;simp only [Act.put,List.setIfInBounds_toArray,List.set_cons_zero,List.set_cons_succ];refine wpAnyH_take (i:=23) (oi:=⟨some 105,.load 116 (.tmp 104),116, "build.go:122",#[⟨22,.data⟩,⟨21,.guard⟩],some (21,true)⟩) (v:=undef) rfl (by kernel_rfl) (by kernel_rfl) (by kernel_rfl) (fun _ _ _ h=>h) (Or.inr ⟨by rfl,rfl⟩) (by assumption) ?_;simp only [Act.put,List.setIfInBounds_toArray,List.set_cons_zero,List.set_cons_succ];refine wpAnyH_take (i:=24) (oi:=⟨some 106,.call { callee:=.invoke (.tmp 105) "coppice/tree.number",args:=#[],argTypes:=#[] },3, "build.go:122",#[⟨23,.data⟩,⟨21,.chain⟩,⟨21,.guard⟩],some (21,true)⟩) (v:=undef) rfl (by kernel_rfl) (by kernel_rfl) (by kernel_rfl) (fun _ _ _ h=>h) (Or.inr ⟨by rfl,rfl⟩) (by assumption) ?_;simp only [Act.put,List.setIfInBounds_toArray,List.set_cons_zero,List.set_cons_succ];refine wpAnyH_take (i:=25) (oi:=⟨some 107,.binOp .eql 3 (.tmp 106) (.const (.int .i64 0)) 3,4, "build.go:122",#[⟨24,.data⟩,⟨21,.guard⟩],some (21,true)⟩) (v:=undef) rfl (by kernel_rfl) (by kernel_rfl) (by kernel_rfl) (fun _ _ _ h=>h) (Or.inr ⟨by rfl,rfl⟩) (by assumption) ?_;simp only [Act.put,List.setIfInBounds_toArray,List.set_cons_zero,List.set_cons_succ];refine wpAnyH_take (i:=26) (oi:=⟨some 108,.pick (.tmp 103) (.tmp 107) (.const (.bool false)),4, "build.go:122",#[⟨21,.data⟩,⟨25,.data⟩,⟨17,.guard⟩],some (17,false)⟩) (v:=?_) rfl (by kernel_rfl) (by kernel_rfl) (by kernel_rfl) (fun _ _ _ h=>h) (Or.inl ⟨by rfl,?_⟩) (by assumption) ?_
    rotate_left
    ·intro w hSw;(try dsimp only at hSw);go_simp;(try with_reducible rfl)
    simp only [Act.put,List.setIfInBounds_toArray,List.set_cons_zero,List.set_cons_succ];refine wpAnyH_take (i:=27) (oi:=⟨some 109,.pick (.tmp 99) (.const (.bool true)) (.tmp 108),4, "build.go:122",#[⟨17,.data⟩,⟨26,.data⟩],none⟩) (v:=?_) rfl (by kernel_rfl) (by kernel_rfl) (by kernel_rfl) (fun _ _ _ h=>h) (Or.inl ⟨by rfl,?_⟩) (by assumption) ?_
    rotate_left
    ·intro w hSw;(try dsimp only at hSw);go_simp;(try with_reducible rfl)
    simp only [Act.put,List.setIfInBounds_toArray,List.set_cons_zero,List.set_cons_succ];refine wpAnyH_done (by kernel_rfl) ?_ _;refine NoPanic.normal ?_;exact HK.out _ _ _ _ _ _ _ _ _ _ _ _ _ _ _ _ _ _ _ _ _ _ _ _ _ _ _ _ _ HP.out G4.out
   ·have g3:(no != 0)=true:=by simp [h3]
    by_cases h4:nq=0
    ·have g4:(nq==0)=true:=by simp [h4]
     have HP:Hid (BcQ true (kat=kz/\l1=nlv/\(no≠0->nq≠0))):=BcQ.no fun h=>h.2.2 h3 h4
     clear h1 h2 h3 h4;have T0:=hZq (KP.out _ GD.out);refine wp_region_noPanic ?_;refine wp_region_held_drew (S:=(fun w'=>w'.cell? ⟨X,0,none⟩=some (.iface 133 (.pointer (some ⟨b1,0,none⟩)))/\w'.cell? ⟨X,1,none⟩=some (.int .i64 kat)/\w'.cell? ⟨D,0,none⟩=some (.int .i64 no)/\w'.cell? ⟨D,1,none⟩=some (.int .i64 nlv)/\w'.cell? ⟨D,5,none⟩=some (.slice (some ⟨g,off,none⟩) kn kc)/\w'.cell? ⟨g,off+i,none⟩=some (.int .i64 kz))) (by kernel_rfl) ?_ (fun hHeld=>?_)
     ·exact T0.out
     generalize wr.drew=wd at *;refine wpAnyH_take (i:=0) (oi:=⟨some 82,.fieldAddr 118 (.tmp 12) 1,0, "build.go:122",#[],none⟩) (v:=?_) rfl (by kernel_rfl) (by kernel_rfl) (by kernel_rfl) (fun _ _ _ h=>h) (Or.inl ⟨by rfl,?_⟩) (by assumption) ?_
     rotate_left
     ·intro w hSw;(try dsimp only at hSw);go_simp;(try with_reducible rfl)
     simp only [Act.put,List.setIfInBounds_toArray,List.set_cons_zero,List.set_cons_succ];refine wpAnyH_take (i:=1) (oi:=⟨some 83,.load 3 (.tmp 82),3, "build.go:122",#[⟨0,.data⟩],none⟩) (v:=?_) rfl (by kernel_rfl) (by kernel_rfl) (by kernel_rfl) (fun _ _ _ h=>h) (Or.inl ⟨by rfl,?_⟩) (by assumption) ?_
     rotate_left
     ·intro w hSw;(try dsimp only at hSw);go_simp;(try with_reducible rfl)
     simp only [Act.put,List.setIfInBounds_toArray,List.set_cons_zero,List.set_cons_succ];refine wpAnyH_take (i:=2) (oi:=⟨some 84,.fieldAddr 61 (.tmp 5) 5,0, "build.go:122",#[],none⟩) (v:=?_) rfl (by kernel_rfl) (by kernel_rfl) (by kernel_rfl) (fun _ _ _ h=>h) (Or.inl ⟨by rfl,?_⟩) (by assumption) ?_
     rotate_left
     ·intro w hSw;(try dsimp only at hSw);go_simp;(try with_reducible rfl)
     simp only [Act.put,List.setIfInBounds_toArray,List.set_cons_zero,List.set_cons_succ];refine wpAnyH_take (i:=3) (oi:=⟨some 85,.load 30 (.tmp 84),30, "build.go:122",#[⟨2,.data⟩],none⟩) (v:=?_) rfl (by kernel_rfl) (by kernel_rfl) (by kernel_rfl) (fun _ _ _ h=>h) (Or.inl ⟨by rfl,?_⟩) (by assumption) ?_
     rotate_left
     ·intro w hSw;(try dsimp only at hSw);go_simp;(try with_reducible rfl)
     simp only [Act.put,List.setIfInBounds_toArray,List.set_cons_zero,List.set_cons_succ];refine wpAnyH_take (i:=4) (oi:=⟨some 86,.move (.tmp 11),3, "build.go:122",#[],none⟩) (v:=?_) rfl (by kernel_rfl) (by kernel_rfl) (by kernel_rfl) (fun _ _ _ h=>h) (Or.inl ⟨by rfl,?_⟩) (by assumption) ?_
     rotate_left
     ·intro w hSw;(try dsimp only at hSw);go_simp;(try with_reducible rfl)
     simp only [Act.put,List.setIfInBounds_toArray,List.set_cons_zero,List.set_cons_succ];refine wpAnyH_take (i:=5) (oi:=⟨some 87,.indexAddr 30 (.tmp 85) (.tmp 86),0, "build.go:122",#[⟨3,.data⟩,⟨4,.data⟩],none⟩) (v:=?_) rfl (by kernel_rfl) (by kernel_rfl) (by kernel_rfl) (fun _ _ _ h=>h) (Or.inl ⟨by rfl,?_⟩) (by assumption) ?_
     rotate_left
     ·intro w hSw;(try dsimp only at hSw);go_simp;(try with_reducible rfl)
     simp only [Act.put,List.setIfInBounds_toArray,List.set_cons_zero,List.set_cons_succ];refine wpAnyH_take (i:=6) (oi:=⟨some 88,.load 3 (.tmp 87),3, "build.go:122",#[⟨5,.data⟩],none⟩) (v:=?_) rfl (by kernel_rfl) (by kernel_rfl) (by kernel_rfl) (fun _ _ _ h=>h) (Or.inl ⟨by rfl,?_⟩) (by assumption) ?_
     rotate_left
     ·intro w hSw;(try dsimp only at hSw);go_simp;(try with_reducible rfl)
     simp only [Act.put,List.setIfInBounds_toArray,List.set_cons_zero,List.set_cons_succ];refine wpAnyH_take (i:=7) (oi:=⟨some 89,.binOp .neq 3 (.tmp 83) (.tmp 88) 3,4, "build.go:122",#[⟨1,.data⟩,⟨6,.data⟩],none⟩) (v:=?_) rfl (by kernel_rfl) (by kernel_rfl) (by kernel_rfl) (fun _ _ _ h=>h) (Or.inl ⟨by rfl,?_⟩) (by assumption) ?_
     rotate_left
     ·intro w hSw;(try dsimp only at hSw);go_simp;(try with_reducible rfl)
     simp only [Act.put,List.setIfInBounds_toArray,List.set_cons_zero,List.set_cons_succ];refine wpAnyH_take (i:=8) (oi:=⟨some 90,.move (.tmp 89),4, "build.go:122",#[⟨7,.data⟩],none⟩) (v:=?_) rfl (by kernel_rfl) (by kernel_rfl) (by kernel_rfl) (fun _ _ _ h=>h) (Or.inl ⟨by rfl,?_⟩) (by assumption) ?_
     rotate_left
     ·intro w hSw;(try dsimp only at hSw);go_simp;(try with_reducible rfl)
     simp only [Act.put,List.setIfInBounds_toArray,List.set_cons_zero,List.set_cons_succ];refine wpAnyH_take (i:=9) (oi:=⟨some 91,.fieldAddr 118 (.tmp 12) 0,0, "build.go:122",#[⟨8,.guard⟩],some (8,false)⟩) (v:=?_) rfl (by kernel_rfl) (by kernel_rfl) (by kernel_rfl) (fun _ _ _ h=>h) (Or.inl ⟨by rfl,?_⟩) (by assumption) ?_
     rotate_left
     ·intro w hSw;(try dsimp only at hSw);go_simp;(try with_reducible rfl)
     simp only [Act.put,List.setIfInBounds_toArray,List.set_cons_zero,List.set_cons_succ];refine wpAnyH_take (i:=10) (oi:=⟨some 92,.load 116 (.tmp 91),116, "build.go:122",#[⟨9,.data⟩,⟨8,.guard⟩],some (8,false)⟩) (v:=?_) rfl (by kernel_rfl) (by kernel_rfl) (by kernel_rfl) (fun _ _ _ h=>h) (Or.inl ⟨by rfl,?_⟩) (by assumption) ?_
     rotate_left
     ·intro w hSw;(try dsimp only at hSw);go_simp;(try with_reducible rfl)
     simp only [Act.put,List.setIfInBounds_toArray,List.set_cons_zero,List.set_cons_succ];refine wpAnyH_take (i:=13) (oi:=⟨some 95,.fieldAddr 61 (.tmp 5) 1,0, "build.go:122",#[⟨8,.guard⟩],some (8,false)⟩) (v:=?_) rfl (by kernel_rfl) (by kernel_rfl) (by kernel_rfl) (fun _ _ _ h=>h) (Or.inl ⟨by rfl,?_⟩) (by assumption) ?_
     rotate_left
     ·intro w hSw;(try dsimp only at hSw);go_simp;(try with_reducible rfl)
     simp only [Act.put,List.setIfInBounds_toArray,List.set_cons_zero,List.set_cons_succ];refine wpAnyH_take (i:=14) (oi:=⟨some 96,.load 3 (.tmp 95),3, "build.go:122",#[⟨13,.data⟩,⟨8,.guard⟩],some (8,false)⟩) (v:=?_) rfl (by kernel_rfl) (by kernel_rfl) (by kernel_rfl) (fun _ _ _ h=>h) (Or.inl ⟨by rfl,?_⟩) (by assumption) ?_
     rotate_left
     ·intro w hSw;(try dsimp only at hSw);go_simp;(try with_reducible rfl)
     simp only [Act.put,List.setIfInBounds_toArray,List.set_cons_zero,List.set_cons_succ];refine wpAnyH_ready (rs:=[11]) (by kernel_rfl) (by simp) ?_;refine AllReadyH.cons (o:=⟨some 93,.call { callee:=.invoke (.tmp 92) "coppice/tree.level",args:=#[],argTypes:=#[] },3, "build.go:122",#[⟨10,.data⟩,⟨8,.chain⟩,⟨8,.guard⟩],some (8,false)⟩) rfl (fun K2 hK2=>?_) AllReadyH.nil
     go_simp
     go_at_call 172
     refine (LV.out _ GD.out).mono ?_;rintro en w4 ⟨rfl,hg4⟩;have G4:=hZq (gZq GD.out hg4);have T4:=hZq (KP.out _ G4.out);clear hg4;refine hK2.out _ _ (T4.out) (fun hHeld=>?_);clear hK2 K2;try simp only [Act.put,List.setIfInBounds_toArray,List.set_cons_zero,List.set_cons_succ]
     refine wpAnyH_take (i:=12) (oi:=⟨some 94,.binOp .add 3 (.tmp 93) (.const (.int .i64 1)) 3,3, "build.go:122",#[⟨11,.data⟩,⟨8,.guard⟩],some (8,false)⟩) (v:=?_) rfl (by kernel_rfl) (by kernel_rfl) (by kernel_rfl) (fun _ _ _ h=>h) (Or.inl ⟨by rfl,?_⟩) (by assumption) ?_
     rotate_left
     ·intro w hSw;(try dsimp only at hSw);go_simp;(try with_reducible rfl)
     simp only [Act.put,List.setIfInBounds_toArray,List.set_cons_zero,List.set_cons_succ];refine wpAnyH_take (i:=15) (oi:=⟨some 97,.binOp .neq 3 (.tmp 94) (.tmp 96) 3,4, "build.go:122",#[⟨12,.data⟩,⟨14,.data⟩,⟨8,.guard⟩],some (8,false)⟩) (v:=?_) rfl (by kernel_rfl) (by kernel_rfl) (by kernel_rfl) (fun _ _ _ h=>h) (Or.inl ⟨by rfl,?_⟩) (by assumption) ?_
     rotate_left
     ·intro w hSw;(try dsimp only at hSw);go_simp;(try with_reducible rfl)
     simp only [Act.put,List.setIfInBounds_toArray,List.set_cons_zero,List.set_cons_succ];refine wpAnyH_take (i:=16) (oi:=⟨some 98,.pick (.tmp 90) (.const (.bool true)) (.tmp 97),4, "build.go:122",#[⟨8,.data⟩,⟨15,.data⟩],none⟩) (v:=?_) rfl (by kernel_rfl) (by kernel_rfl) (by kernel_rfl) (fun _ _ _ h=>h) (Or.inl ⟨by rfl,?_⟩) (by assumption) ?_
     rotate_left
     ·intro w hSw;(try dsimp only at hSw);go_simp;(try with_reducible rfl)
     simp only [Act.put,List.setIfInBounds_toArray,List.set_cons_zero,List.set_cons_succ];refine wpAnyH_take (i:=17) (oi:=⟨some 99,.move (.tmp 98),4, "build.go:122",#[⟨16,.data⟩,⟨11,.chain⟩],none⟩) (v:=?_) rfl (by kernel_rfl) (by kernel_rfl) (by kernel_rfl) (fun _ _ _ h=>h) (Or.inl ⟨by rfl,?_⟩) (by assumption) ?_
     rotate_left
     ·intro w hSw;(try dsimp only at hSw);go_simp;(try with_reducible rfl)
     simp only [Act.put,List.setIfInBounds_toArray,List.set_cons_zero,List.set_cons_succ];refine wpAnyH_take (i:=18) (oi:=⟨some 100,.fieldAddr 61 (.tmp 5) 0,0, "build.go:122",#[⟨17,.guard⟩],some (17,false)⟩) (v:=?_) rfl (by kernel_rfl) (by kernel_rfl) (by kernel_rfl) (fun _ _ _ h=>h) (Or.inl ⟨by rfl,?_⟩) (by assumption) ?_
     rotate_left
     ·intro w hSw;(try dsimp only at hSw);go_simp;(try with_reducible rfl)
     simp only [Act.put,List.setIfInBounds_toArray,List.set_cons_zero,List.set_cons_succ];refine wpAnyH_take (i:=19) (oi:=⟨some 101,.load 3 (.tmp 100),3, "build.go:122",#[⟨18,.data⟩,⟨17,.guard⟩],some (17,false)⟩) (v:=?_) rfl (by kernel_rfl) (by kernel_rfl) (by kernel_rfl) (fun _ _ _ h=>h) (Or.inl ⟨by rfl,?_⟩) (by assumption) ?_
     rotate_left
     ·intro w hSw;(try dsimp only at hSw);go_simp;(try with_reducible rfl)
     simp only [Act.put,List.setIfInBounds_toArray,List.set_cons_zero,List.set_cons_succ];refine wpAnyH_take (i:=20) (oi:=⟨some 102,.binOp .neq 3 (.tmp 101) (.const (.int .i64 0)) 3,4, "build.go:122",#[⟨19,.data⟩,⟨17,.guard⟩],some (17,false)⟩) (v:=?_) rfl (by kernel_rfl) (by kernel_rfl) (by kernel_rfl) (fun _ _ _ h=>h) (Or.inl ⟨by rfl,?_⟩) (by assumption) ?_
     rotate_left
     ·intro w hSw;(try dsimp only at hSw);go_simp;(try with_reducible rfl)
     simp only [Act.put,List.setIfInBounds_toArray,List.set_cons_zero,List.set_cons_succ];refine wpAnyH_take (i:=21) (oi:=⟨some 103,.move (.tmp 102),4, "build.go:122",#[⟨20,.data⟩,⟨17,.chain⟩,⟨17,.guard⟩],some (17,false)⟩) (v:=?_) rfl (by kernel_rfl) (by kernel_rfl) (by kernel_rfl) (fun _ _ _ h=>h) (Or.inl ⟨by rfl,?_⟩) (by assumption) ?_
     rotate_left
     ·intro w hSw;(try dsimp only at hSw);go_simp;(try with_reducible rfl)
     simp only [Act.put,List.setIfInBounds_toArray,List.set_cons_zero,List.set_cons_succ];refine wpAnyH_take (i:=22) (oi:=⟨some 104,.fieldAddr 118 (.tmp 12) 0,0, "build.go:122",#[⟨21,.guard⟩],some (21,true)⟩) (v:=?_) rfl (by kernel_rfl) (by kernel_rfl) (by kernel_rfl) (fun _ _ _ h=>h) (Or.inl ⟨by rfl,?_⟩) (by assumption) ?_
     rotate_left
     ·intro w hSw;(try dsimp only at hSw);go_simp;(try with_reducible rfl)
     simp only [Act.put,List.setIfInBounds_toArray,List.set_cons_zero,List.set_cons_succ];refine wpAnyH_take (i:=23) (oi:=⟨some 105,.load 116 (.tmp 104),116, "build.go:122",#[⟨22,.data⟩,⟨21,.guard⟩],some (21,true)⟩) (v:=?_) rfl (by kernel_rfl) (by kernel_rfl) (by kernel_rfl) (fun _ _ _ h=>h) (Or.inl ⟨by rfl,?_⟩) (by assumption) ?_
     rotate_left
     ·intro w hSw;(try dsimp only at hSw);go_simp;(try with_reducible rfl)
     simp only [Act.put,List.setIfInBounds_toArray,List.set_cons_zero,List.set_cons_succ];refine wpAnyH_ready (rs:=[24]) (by kernel_rfl) (by simp) ?_;refine AllReadyH.cons (o:=⟨some 106,.call { callee:=.invoke (.tmp 105) "coppice/tree.number",args:=#[],argTypes:=#[] },3, "build.go:122",#[⟨23,.data⟩,⟨21,.chain⟩,⟨21,.guard⟩],some (21,true)⟩) rfl (fun K2 hK2=>?_) AllReadyH.nil
     go_simp
     go_at_call 173
     refine (NU.out _ G4.out).mono ?_;rintro en w5 ⟨rfl,hw5⟩;rw [hw5];clear hw5;refine hK2.out _ _ (T4.out) (fun hHeld=>?_);clear hK2 K2;try simp only [Act.put,List.setIfInBounds_toArray,List.set_cons_zero,List.set_cons_succ]
     refine wpAnyH_take (i:=25) (oi:=⟨some 107,.binOp .eql 3 (.tmp 106) (.const (.int .i64 0)) 3,4, "build.go:122",#[⟨24,.data⟩,⟨21,.guard⟩],some (21,true)⟩) (v:=?_) rfl (by kernel_rfl) (by kernel_rfl) (by kernel_rfl) (fun _ _ _ h=>h) (Or.inl ⟨by rfl,?_⟩) (by assumption) ?_
     rotate_left
     ·intro w hSw;(try dsimp only at hSw);go_simp;(try with_reducible rfl)
     simp only [Act.put,List.setIfInBounds_toArray,List.set_cons_zero,List.set_cons_succ];refine wpAnyH_take (i:=26) (oi:=⟨some 108,.pick (.tmp 103) (.tmp 107) (.const (.bool false)),4, "build.go:122",#[⟨21,.data⟩,⟨25,.data⟩,⟨17,.guard⟩],some (17,false)⟩) (v:=?_) rfl (by kernel_rfl) (by kernel_rfl) (by kernel_rfl) (fun _ _ _ h=>h) (Or.inl ⟨by rfl,?_⟩) (by assumption) ?_
     rotate_left
     ·intro w hSw;(try dsimp only at hSw);go_simp;(try with_reducible rfl)
     simp only [Act.put,List.setIfInBounds_toArray,List.set_cons_zero,List.set_cons_succ];refine wpAnyH_take (i:=27) (oi:=⟨some 109,.pick (.tmp 99) (.const (.bool true)) (.tmp 108),4, "build.go:122",#[⟨17,.data⟩,⟨26,.data⟩],none⟩) (v:=?_) rfl (by kernel_rfl) (by kernel_rfl) (by kernel_rfl) (fun _ _ _ h=>h) (Or.inl ⟨by rfl,?_⟩) (by assumption) ?_
     rotate_left
     ·intro w hSw;(try dsimp only at hSw);go_simp;(try with_reducible rfl)
     simp only [Act.put,List.setIfInBounds_toArray,List.set_cons_zero,List.set_cons_succ];refine wpAnyH_done (by kernel_rfl) ?_ _;refine NoPanic.normal ?_;exact HK.out _ _ _ _ _ _ _ _ _ _ _ _ _ _ _ _ _ _ _ _ _ _ _ _ _ _ _ _ _ HP.out G4.out
    ·have g4:(nq==0)=false:=by simp [h4]
     have HP:Hid (BcQ false (kat=kz/\l1=nlv/\(no≠0->nq≠0))):=BcQ.yes ⟨h1,h2,fun _=>h4⟩;clear h1 h2 h3 h4;have T0:=hZq (KP.out _ GD.out);refine wp_region_noPanic ?_;refine wp_region_held_drew (S:=(fun w'=>w'.cell? ⟨X,0,none⟩=some (.iface 133 (.pointer (some ⟨b1,0,none⟩)))/\w'.cell? ⟨X,1,none⟩=some (.int .i64 kat)/\w'.cell? ⟨D,0,none⟩=some (.int .i64 no)/\w'.cell? ⟨D,1,none⟩=some (.int .i64 nlv)/\w'.cell? ⟨D,5,none⟩=some (.slice (some ⟨g,off,none⟩) kn kc)/\w'.cell? ⟨g,off+i,none⟩=some (.int .i64 kz))) (by kernel_rfl) ?_ (fun hHeld=>?_)
     ·exact T0.out
     generalize wr.drew=wd at *;refine wpAnyH_take (i:=0) (oi:=⟨some 82,.fieldAddr 118 (.tmp 12) 1,0, "build.go:122",#[],none⟩) (v:=?_) rfl (by kernel_rfl) (by kernel_rfl) (by kernel_rfl) (fun _ _ _ h=>h) (Or.inl ⟨by rfl,?_⟩) (by assumption) ?_
     rotate_left
     ·intro w hSw;(try dsimp only at hSw);go_simp;(try with_reducible rfl)
     simp only [Act.put,List.setIfInBounds_toArray,List.set_cons_zero,List.set_cons_succ];refine wpAnyH_take (i:=1) (oi:=⟨some 83,.load 3 (.tmp 82),3, "build.go:122",#[⟨0,.data⟩],none⟩) (v:=?_) rfl (by kernel_rfl) (by kernel_rfl) (by kernel_rfl) (fun _ _ _ h=>h) (Or.inl ⟨by rfl,?_⟩) (by assumption) ?_
     rotate_left
     ·intro w hSw;(try dsimp only at hSw);go_simp;(try with_reducible rfl)
     simp only [Act.put,List.setIfInBounds_toArray,List.set_cons_zero,List.set_cons_succ];refine wpAnyH_take (i:=2) (oi:=⟨some 84,.fieldAddr 61 (.tmp 5) 5,0, "build.go:122",#[],none⟩) (v:=?_) rfl (by kernel_rfl) (by kernel_rfl) (by kernel_rfl) (fun _ _ _ h=>h) (Or.inl ⟨by rfl,?_⟩) (by assumption) ?_
     rotate_left
     ·intro w hSw;(try dsimp only at hSw);go_simp;(try with_reducible rfl)
     simp only [Act.put,List.setIfInBounds_toArray,List.set_cons_zero,List.set_cons_succ];refine wpAnyH_take (i:=3) (oi:=⟨some 85,.load 30 (.tmp 84),30, "build.go:122",#[⟨2,.data⟩],none⟩) (v:=?_) rfl (by kernel_rfl) (by kernel_rfl) (by kernel_rfl) (fun _ _ _ h=>h) (Or.inl ⟨by rfl,?_⟩) (by assumption) ?_
     rotate_left
     ·intro w hSw;(try dsimp only at hSw);go_simp;(try with_reducible rfl)
     simp only [Act.put,List.setIfInBounds_toArray,List.set_cons_zero,List.set_cons_succ];refine wpAnyH_take (i:=4) (oi:=⟨some 86,.move (.tmp 11),3, "build.go:122",#[],none⟩) (v:=?_) rfl (by kernel_rfl) (by kernel_rfl) (by kernel_rfl) (fun _ _ _ h=>h) (Or.inl ⟨by rfl,?_⟩) (by assumption) ?_
     rotate_left
     ·intro w hSw;(try dsimp only at hSw);go_simp;(try with_reducible rfl)
     simp only [Act.put,List.setIfInBounds_toArray,List.set_cons_zero,List.set_cons_succ];refine wpAnyH_take (i:=5) (oi:=⟨some 87,.indexAddr 30 (.tmp 85) (.tmp 86),0, "build.go:122",#[⟨3,.data⟩,⟨4,.data⟩],none⟩) (v:=?_) rfl (by kernel_rfl) (by kernel_rfl) (by kernel_rfl) (fun _ _ _ h=>h) (Or.inl ⟨by rfl,?_⟩) (by assumption) ?_
     rotate_left
     ·intro w hSw;(try dsimp only at hSw);go_simp;(try with_reducible rfl)
     simp only [Act.put,List.setIfInBounds_toArray,List.set_cons_zero,List.set_cons_succ];refine wpAnyH_take (i:=6) (oi:=⟨some 88,.load 3 (.tmp 87),3, "build.go:122",#[⟨5,.data⟩],none⟩) (v:=?_) rfl (by kernel_rfl) (by kernel_rfl) (by kernel_rfl) (fun _ _ _ h=>h) (Or.inl ⟨by rfl,?_⟩) (by assumption) ?_
     rotate_left
     ·intro w hSw;(try dsimp only at hSw);go_simp;(try with_reducible rfl)
     simp only [Act.put,List.setIfInBounds_toArray,List.set_cons_zero,List.set_cons_succ];refine wpAnyH_take (i:=7) (oi:=⟨some 89,.binOp .neq 3 (.tmp 83) (.tmp 88) 3,4, "build.go:122",#[⟨1,.data⟩,⟨6,.data⟩],none⟩) (v:=?_) rfl (by kernel_rfl) (by kernel_rfl) (by kernel_rfl) (fun _ _ _ h=>h) (Or.inl ⟨by rfl,?_⟩) (by assumption) ?_
     rotate_left
     ·intro w hSw;(try dsimp only at hSw);go_simp;(try with_reducible rfl)
     simp only [Act.put,List.setIfInBounds_toArray,List.set_cons_zero,List.set_cons_succ];refine wpAnyH_take (i:=8) (oi:=⟨some 90,.move (.tmp 89),4, "build.go:122",#[⟨7,.data⟩],none⟩) (v:=?_) rfl (by kernel_rfl) (by kernel_rfl) (by kernel_rfl) (fun _ _ _ h=>h) (Or.inl ⟨by rfl,?_⟩) (by assumption) ?_
     rotate_left
     ·intro w hSw;(try dsimp only at hSw);go_simp;(try with_reducible rfl)
     simp only [Act.put,List.setIfInBounds_toArray,List.set_cons_zero,List.set_cons_succ];refine wpAnyH_take (i:=9) (oi:=⟨some 91,.fieldAddr 118 (.tmp 12) 0,0, "build.go:122",#[⟨8,.guard⟩],some (8,false)⟩) (v:=?_) rfl (by kernel_rfl) (by kernel_rfl) (by kernel_rfl) (fun _ _ _ h=>h) (Or.inl ⟨by rfl,?_⟩) (by assumption) ?_
     rotate_left
     ·intro w hSw;(try dsimp only at hSw);go_simp;(try with_reducible rfl)
     simp only [Act.put,List.setIfInBounds_toArray,List.set_cons_zero,List.set_cons_succ];refine wpAnyH_take (i:=10) (oi:=⟨some 92,.load 116 (.tmp 91),116, "build.go:122",#[⟨9,.data⟩,⟨8,.guard⟩],some (8,false)⟩) (v:=?_) rfl (by kernel_rfl) (by kernel_rfl) (by kernel_rfl) (fun _ _ _ h=>h) (Or.inl ⟨by rfl,?_⟩) (by assumption) ?_
     rotate_left
     ·intro w hSw;(try dsimp only at hSw);go_simp;(try with_reducible rfl)
     simp only [Act.put,List.setIfInBounds_toArray,List.set_cons_zero,List.set_cons_succ];refine wpAnyH_take (i:=13) (oi:=⟨some 95,.fieldAddr 61 (.tmp 5) 1,0, "build.go:122",#[⟨8,.guard⟩],some (8,false)⟩) (v:=?_) rfl (by kernel_rfl) (by kernel_rfl) (by kernel_rfl) (fun _ _ _ h=>h) (Or.inl ⟨by rfl,?_⟩) (by assumption) ?_
     rotate_left
     ·intro w hSw;(try dsimp only at hSw);go_simp;(try with_reducible rfl)
     simp only [Act.put,List.setIfInBounds_toArray,List.set_cons_zero,List.set_cons_succ];refine wpAnyH_take (i:=14) (oi:=⟨some 96,.load 3 (.tmp 95),3, "build.go:122",#[⟨13,.data⟩,⟨8,.guard⟩],some (8,false)⟩) (v:=?_) rfl (by kernel_rfl) (by kernel_rfl) (by kernel_rfl) (fun _ _ _ h=>h) (Or.inl ⟨by rfl,?_⟩) (by assumption) ?_
     rotate_left
     ·intro w hSw;(try dsimp only at hSw);go_simp;(try with_reducible rfl)
     simp only [Act.put,List.setIfInBounds_toArray,List.set_cons_zero,List.set_cons_succ];refine wpAnyH_ready (rs:=[11]) (by kernel_rfl) (by simp) ?_;refine AllReadyH.cons (o:=⟨some 93,.call { callee:=.invoke (.tmp 92) "coppice/tree.level",args:=#[],argTypes:=#[] },3, "build.go:122",#[⟨10,.data⟩,⟨8,.chain⟩,⟨8,.guard⟩],some (8,false)⟩) rfl (fun K2 hK2=>?_) AllReadyH.nil
     go_simp
     go_at_call 172
     refine (LV.out _ GD.out).mono ?_;rintro en w4 ⟨rfl,hg4⟩;have G4:=hZq (gZq GD.out hg4);have T4:=hZq (KP.out _ G4.out);clear hg4;refine hK2.out _ _ (T4.out) (fun hHeld=>?_);clear hK2 K2;try simp only [Act.put,List.setIfInBounds_toArray,List.set_cons_zero,List.set_cons_succ]
     refine wpAnyH_take (i:=12) (oi:=⟨some 94,.binOp .add 3 (.tmp 93) (.const (.int .i64 1)) 3,3, "build.go:122",#[⟨11,.data⟩,⟨8,.guard⟩],some (8,false)⟩) (v:=?_) rfl (by kernel_rfl) (by kernel_rfl) (by kernel_rfl) (fun _ _ _ h=>h) (Or.inl ⟨by rfl,?_⟩) (by assumption) ?_
     rotate_left
     ·intro w hSw;(try dsimp only at hSw);go_simp;(try with_reducible rfl)
     simp only [Act.put,List.setIfInBounds_toArray,List.set_cons_zero,List.set_cons_succ];refine wpAnyH_take (i:=15) (oi:=⟨some 97,.binOp .neq 3 (.tmp 94) (.tmp 96) 3,4, "build.go:122",#[⟨12,.data⟩,⟨14,.data⟩,⟨8,.guard⟩],some (8,false)⟩) (v:=?_) rfl (by kernel_rfl) (by kernel_rfl) (by kernel_rfl) (fun _ _ _ h=>h) (Or.inl ⟨by rfl,?_⟩) (by assumption) ?_
     rotate_left
     ·intro w hSw;(try dsimp only at hSw);go_simp;(try with_reducible rfl)
     simp only [Act.put,List.setIfInBounds_toArray,List.set_cons_zero,List.set_cons_succ];refine wpAnyH_take (i:=16) (oi:=⟨some 98,.pick (.tmp 90) (.const (.bool true)) (.tmp 97),4, "build.go:122",#[⟨8,.data⟩,⟨15,.data⟩],none⟩) (v:=?_) rfl (by kernel_rfl) (by kernel_rfl) (by kernel_rfl) (fun _ _ _ h=>h) (Or.inl ⟨by rfl,?_⟩) (by assumption) ?_
     rotate_left
     ·intro w hSw;(try dsimp only at hSw);go_simp;(try with_reducible rfl)
     simp only [Act.put,List.setIfInBounds_toArray,List.set_cons_zero,List.set_cons_succ];refine wpAnyH_take (i:=17) (oi:=⟨some 99,.move (.tmp 98),4, "build.go:122",#[⟨16,.data⟩,⟨11,.chain⟩],none⟩) (v:=?_) rfl (by kernel_rfl) (by kernel_rfl) (by kernel_rfl) (fun _ _ _ h=>h) (Or.inl ⟨by rfl,?_⟩) (by assumption) ?_
     rotate_left
     ·intro w hSw;(try dsimp only at hSw);go_simp;(try with_reducible rfl)
     simp only [Act.put,List.setIfInBounds_toArray,List.set_cons_zero,List.set_cons_succ];refine wpAnyH_take (i:=18) (oi:=⟨some 100,.fieldAddr 61 (.tmp 5) 0,0, "build.go:122",#[⟨17,.guard⟩],some (17,false)⟩) (v:=?_) rfl (by kernel_rfl) (by kernel_rfl) (by kernel_rfl) (fun _ _ _ h=>h) (Or.inl ⟨by rfl,?_⟩) (by assumption) ?_
     rotate_left
     ·intro w hSw;(try dsimp only at hSw);go_simp;(try with_reducible rfl)
     simp only [Act.put,List.setIfInBounds_toArray,List.set_cons_zero,List.set_cons_succ];refine wpAnyH_take (i:=19) (oi:=⟨some 101,.load 3 (.tmp 100),3, "build.go:122",#[⟨18,.data⟩,⟨17,.guard⟩],some (17,false)⟩) (v:=?_) rfl (by kernel_rfl) (by kernel_rfl) (by kernel_rfl) (fun _ _ _ h=>h) (Or.inl ⟨by rfl,?_⟩) (by assumption) ?_
     rotate_left
     ·intro w hSw;(try dsimp only at hSw);go_simp;(try with_reducible rfl)
     simp only [Act.put,List.setIfInBounds_toArray,List.set_cons_zero,List.set_cons_succ];refine wpAnyH_take (i:=20) (oi:=⟨some 102,.binOp .neq 3 (.tmp 101) (.const (.int .i64 0)) 3,4, "build.go:122",#[⟨19,.data⟩,⟨17,.guard⟩],some (17,false)⟩) (v:=?_) rfl (by kernel_rfl) (by kernel_rfl) (by kernel_rfl) (fun _ _ _ h=>h) (Or.inl ⟨by rfl,?_⟩) (by assumption) ?_
     rotate_left
     ·intro w hSw;(try dsimp only at hSw);go_simp;(try with_reducible rfl)
     simp only [Act.put,List.setIfInBounds_toArray,List.set_cons_zero,List.set_cons_succ];refine wpAnyH_take (i:=21) (oi:=⟨some 103,.move (.tmp 102),4, "build.go:122",#[⟨20,.data⟩,⟨17,.chain⟩,⟨17,.guard⟩],some (17,false)⟩) (v:=?_) rfl (by kernel_rfl) (by kernel_rfl) (by kernel_rfl) (fun _ _ _ h=>h) (Or.inl ⟨by rfl,?_⟩) (by assumption) ?_
     rotate_left
     ·intro w hSw;(try dsimp only at hSw);go_simp;(try with_reducible rfl)
     simp only [Act.put,List.setIfInBounds_toArray,List.set_cons_zero,List.set_cons_succ];refine wpAnyH_take (i:=22) (oi:=⟨some 104,.fieldAddr 118 (.tmp 12) 0,0, "build.go:122",#[⟨21,.guard⟩],some (21,true)⟩) (v:=?_) rfl (by kernel_rfl) (by kernel_rfl) (by kernel_rfl) (fun _ _ _ h=>h) (Or.inl ⟨by rfl,?_⟩) (by assumption) ?_
     rotate_left
     ·intro w hSw;(try dsimp only at hSw);go_simp;(try with_reducible rfl)
     simp only [Act.put,List.setIfInBounds_toArray,List.set_cons_zero,List.set_cons_succ];refine wpAnyH_take (i:=23) (oi:=⟨some 105,.load 116 (.tmp 104),116, "build.go:122",#[⟨22,.data⟩,⟨21,.guard⟩],some (21,true)⟩) (v:=?_) rfl (by kernel_rfl) (by kernel_rfl) (by kernel_rfl) (fun _ _ _ h=>h) (Or.inl ⟨by rfl,?_⟩) (by assumption) ?_
     rotate_left
     ·intro w hSw;(try dsimp only at hSw);go_simp;(try with_reducible rfl)
     simp only [Act.put,List.setIfInBounds_toArray,List.set_cons_zero,List.set_cons_succ];refine wpAnyH_ready (rs:=[24]) (by kernel_rfl) (by simp) ?_;refine AllReadyH.cons (o:=⟨some 106,.call { callee:=.invoke (.tmp 105) "coppice/tree.number",args:=#[],argTypes:=#[] },3, "build.go:122",#[⟨23,.data⟩,⟨21,.chain⟩,⟨21,.guard⟩],some (21,true)⟩) rfl (fun K2 hK2=>?_) AllReadyH.nil
     go_simp
     go_at_call 173
     refine (NU.out _ G4.out).mono ?_;rintro en w5 ⟨rfl,hw5⟩;rw [hw5];clear hw5;refine hK2.out _ _ (T4.out) (fun hHeld=>?_);clear hK2 K2;try simp only [Act.put,List.setIfInBounds_toArray,List.set_cons_zero,List.set_cons_succ]
     refine wpAnyH_take (i:=25) (oi:=⟨some 107,.binOp .eql 3 (.tmp 106) (.const (.int .i64 0)) 3,4, "build.go:122",#[⟨24,.data⟩,⟨21,.guard⟩],some (21,true)⟩) (v:=?_) rfl (by kernel_rfl) (by kernel_rfl) (by kernel_rfl) (fun _ _ _ h=>h) (Or.inl ⟨by rfl,?_⟩) (by assumption) ?_
     rotate_left
     ·intro w hSw;(try dsimp only at hSw);go_simp;(try with_reducible rfl)
     simp only [Act.put,List.setIfInBounds_toArray,List.set_cons_zero,List.set_cons_succ];refine wpAnyH_take (i:=26) (oi:=⟨some 108,.pick (.tmp 103) (.tmp 107) (.const (.bool false)),4, "build.go:122",#[⟨21,.data⟩,⟨25,.data⟩,⟨17,.guard⟩],some (17,false)⟩) (v:=?_) rfl (by kernel_rfl) (by kernel_rfl) (by kernel_rfl) (fun _ _ _ h=>h) (Or.inl ⟨by rfl,?_⟩) (by assumption) ?_
     rotate_left
     ·intro w hSw;(try dsimp only at hSw);go_simp;(try with_reducible rfl)
     simp only [Act.put,List.setIfInBounds_toArray,List.set_cons_zero,List.set_cons_succ];refine wpAnyH_take (i:=27) (oi:=⟨some 109,.pick (.tmp 99) (.const (.bool true)) (.tmp 108),4, "build.go:122",#[⟨17,.data⟩,⟨26,.data⟩],none⟩) (v:=?_) rfl (by kernel_rfl) (by kernel_rfl) (by kernel_rfl) (fun _ _ _ h=>h) (Or.inl ⟨by rfl,?_⟩) (by assumption) ?_
     rotate_left
     ·intro w hSw;(try dsimp only at hSw);go_simp;(try with_reducible rfl)
     simp only [Act.put,List.setIfInBounds_toArray,List.set_cons_zero,List.set_cons_succ];refine wpAnyH_done (by kernel_rfl) ?_ _;refine NoPanic.normal ?_;exact HK.out _ _ _ _ _ _ _ _ _ _ _ _ _ _ _ _ _ _ _ _ _ _ _ _ _ _ _ _ _ HP.out G4.out
  ·have g2:(l1 != nlv)=true:=by simp [h2]
   have HP:Hid (BcQ true (kat=kz/\l1=nlv/\(no≠0->nq≠0))):=BcQ.no fun h=>h2 h.2.1
   clear h1 h2;have T0:=hZq (KP.out _ GD.out);refine wp_region_noPanic ?_;refine wp_region_held_drew (S:=(fun w'=>w'.cell? ⟨X,0,none⟩=some (.iface 133 (.pointer (some ⟨b1,0,none⟩)))/\w'.cell? ⟨X,1,none⟩=some (.int .i64 kat)/\w'.cell? ⟨D,0,none⟩=some (.int .i64 no)/\w'.cell? ⟨D,1,none⟩=some (.int .i64 nlv)/\w'.cell? ⟨D,5,none⟩=some (.slice (some ⟨g,off,none⟩) kn kc)/\w'.cell? ⟨g,off+i,none⟩=some (.int .i64 kz))) (by kernel_rfl) ?_ (fun hHeld=>?_)
   ·exact T0.out
   generalize wr.drew=wd at *;refine wpAnyH_take (i:=0) (oi:=⟨some 82,.fieldAddr 118 (.tmp 12) 1,0, "build.go:122",#[],none⟩) (v:=?_) rfl (by kernel_rfl) (by kernel_rfl) (by kernel_rfl) (fun _ _ _ h=>h) (Or.inl ⟨by rfl,?_⟩) (by assumption) ?_
   rotate_left
   ·intro w hSw;(try dsimp only at hSw);go_simp;(try with_reducible rfl)
   simp only [Act.put,List.setIfInBounds_toArray,List.set_cons_zero,List.set_cons_succ];refine wpAnyH_take (i:=1) (oi:=⟨some 83,.load 3 (.tmp 82),3, "build.go:122",#[⟨0,.data⟩],none⟩) (v:=?_) rfl (by kernel_rfl) (by kernel_rfl) (by kernel_rfl) (fun _ _ _ h=>h) (Or.inl ⟨by rfl,?_⟩) (by assumption) ?_
   rotate_left
   ·intro w hSw;(try dsimp only at hSw);go_simp;(try with_reducible rfl)
   simp only [Act.put,List.setIfInBounds_toArray,List.set_cons_zero,List.set_cons_succ];refine wpAnyH_take (i:=2) (oi:=⟨some 84,.fieldAddr 61 (.tmp 5) 5,0, "build.go:122",#[],none⟩) (v:=?_) rfl (by kernel_rfl) (by kernel_rfl) (by kernel_rfl) (fun _ _ _ h=>h) (Or.inl ⟨by rfl,?_⟩) (by assumption) ?_
   rotate_left
   ·intro w hSw;(try dsimp only at hSw);go_simp;(try with_reducible rfl)
   simp only [Act.put,List.setIfInBounds_toArray,List.set_cons_zero,List.set_cons_succ];refine wpAnyH_take (i:=3) (oi:=⟨some 85,.load 30 (.tmp 84),30, "build.go:122",#[⟨2,.data⟩],none⟩) (v:=?_) rfl (by kernel_rfl) (by kernel_rfl) (by kernel_rfl) (fun _ _ _ h=>h) (Or.inl ⟨by rfl,?_⟩) (by assumption) ?_
   rotate_left
   ·intro w hSw;(try dsimp only at hSw);go_simp;(try with_reducible rfl)
   simp only [Act.put,List.setIfInBounds_toArray,List.set_cons_zero,List.set_cons_succ];refine wpAnyH_take (i:=4) (oi:=⟨some 86,.move (.tmp 11),3, "build.go:122",#[],none⟩) (v:=?_) rfl (by kernel_rfl) (by kernel_rfl) (by kernel_rfl) (fun _ _ _ h=>h) (Or.inl ⟨by rfl,?_⟩) (by assumption) ?_
   rotate_left
   ·intro w hSw;(try dsimp only at hSw);go_simp;(try with_reducible rfl)
   simp only [Act.put,List.setIfInBounds_toArray,List.set_cons_zero,List.set_cons_succ];refine wpAnyH_take (i:=5) (oi:=⟨some 87,.indexAddr 30 (.tmp 85) (.tmp 86),0, "build.go:122",#[⟨3,.data⟩,⟨4,.data⟩],none⟩) (v:=?_) rfl (by kernel_rfl) (by kernel_rfl) (by kernel_rfl) (fun _ _ _ h=>h) (Or.inl ⟨by rfl,?_⟩) (by assumption) ?_
   rotate_left
   ·intro w hSw;(try dsimp only at hSw);go_simp;(try with_reducible rfl)
   simp only [Act.put,List.setIfInBounds_toArray,List.set_cons_zero,List.set_cons_succ];refine wpAnyH_take (i:=6) (oi:=⟨some 88,.load 3 (.tmp 87),3, "build.go:122",#[⟨5,.data⟩],none⟩) (v:=?_) rfl (by kernel_rfl) (by kernel_rfl) (by kernel_rfl) (fun _ _ _ h=>h) (Or.inl ⟨by rfl,?_⟩) (by assumption) ?_
   rotate_left
   ·intro w hSw;(try dsimp only at hSw);go_simp;(try with_reducible rfl)
   simp only [Act.put,List.setIfInBounds_toArray,List.set_cons_zero,List.set_cons_succ];refine wpAnyH_take (i:=7) (oi:=⟨some 89,.binOp .neq 3 (.tmp 83) (.tmp 88) 3,4, "build.go:122",#[⟨1,.data⟩,⟨6,.data⟩],none⟩) (v:=?_) rfl (by kernel_rfl) (by kernel_rfl) (by kernel_rfl) (fun _ _ _ h=>h) (Or.inl ⟨by rfl,?_⟩) (by assumption) ?_
   rotate_left
   ·intro w hSw;(try dsimp only at hSw);go_simp;(try with_reducible rfl)
   simp only [Act.put,List.setIfInBounds_toArray,List.set_cons_zero,List.set_cons_succ];refine wpAnyH_take (i:=8) (oi:=⟨some 90,.move (.tmp 89),4, "build.go:122",#[⟨7,.data⟩],none⟩) (v:=?_) rfl (by kernel_rfl) (by kernel_rfl) (by kernel_rfl) (fun _ _ _ h=>h) (Or.inl ⟨by rfl,?_⟩) (by assumption) ?_
   rotate_left
   ·intro w hSw;(try dsimp only at hSw);go_simp;(try with_reducible rfl)
   simp only [Act.put,List.setIfInBounds_toArray,List.set_cons_zero,List.set_cons_succ];refine wpAnyH_take (i:=9) (oi:=⟨some 91,.fieldAddr 118 (.tmp 12) 0,0, "build.go:122",#[⟨8,.guard⟩],some (8,false)⟩) (v:=?_) rfl (by kernel_rfl) (by kernel_rfl) (by kernel_rfl) (fun _ _ _ h=>h) (Or.inl ⟨by rfl,?_⟩) (by assumption) ?_
   rotate_left
   ·intro w hSw;(try dsimp only at hSw);go_simp;(try with_reducible rfl)
   simp only [Act.put,List.setIfInBounds_toArray,List.set_cons_zero,List.set_cons_succ];refine wpAnyH_take (i:=10) (oi:=⟨some 92,.load 116 (.tmp 91),116, "build.go:122",#[⟨9,.data⟩,⟨8,.guard⟩],some (8,false)⟩) (v:=?_) rfl (by kernel_rfl) (by kernel_rfl) (by kernel_rfl) (fun _ _ _ h=>h) (Or.inl ⟨by rfl,?_⟩) (by assumption) ?_
   rotate_left
   ·intro w hSw;(try dsimp only at hSw);go_simp;(try with_reducible rfl)
   simp only [Act.put,List.setIfInBounds_toArray,List.set_cons_zero,List.set_cons_succ];refine wpAnyH_take (i:=13) (oi:=⟨some 95,.fieldAddr 61 (.tmp 5) 1,0, "build.go:122",#[⟨8,.guard⟩],some (8,false)⟩) (v:=?_) rfl (by kernel_rfl) (by kernel_rfl) (by kernel_rfl) (fun _ _ _ h=>h) (Or.inl ⟨by rfl,?_⟩) (by assumption) ?_
   rotate_left
   ·intro w hSw;(try dsimp only at hSw);go_simp;(try with_reducible rfl)
   simp only [Act.put,List.setIfInBounds_toArray,List.set_cons_zero,List.set_cons_succ];refine wpAnyH_take (i:=14) (oi:=⟨some 96,.load 3 (.tmp 95),3, "build.go:122",#[⟨13,.data⟩,⟨8,.guard⟩],some (8,false)⟩) (v:=?_) rfl (by kernel_rfl) (by kernel_rfl) (by kernel_rfl) (fun _ _ _ h=>h) (Or.inl ⟨by rfl,?_⟩) (by assumption) ?_
   rotate_left
   ·intro w hSw;(try dsimp only at hSw);go_simp;(try with_reducible rfl)
   simp only [Act.put,List.setIfInBounds_toArray,List.set_cons_zero,List.set_cons_succ];refine wpAnyH_ready (rs:=[11]) (by kernel_rfl) (by simp) ?_;refine AllReadyH.cons (o:=⟨some 93,.call { callee:=.invoke (.tmp 92) "coppice/tree.level",args:=#[],argTypes:=#[] },3, "build.go:122",#[⟨10,.data⟩,⟨8,.chain⟩,⟨8,.guard⟩],some (8,false)⟩) rfl (fun K2 hK2=>?_) AllReadyH.nil
   go_simp
   go_at_call 172
   refine (LV.out _ GD.out).mono ?_;rintro en w4 ⟨rfl,hg4⟩;have G4:=hZq (gZq GD.out hg4);have T4:=hZq (KP.out _ G4.out);clear hg4;refine hK2.out _ _ (T4.out) (fun hHeld=>?_);clear hK2 K2;try simp only [Act.put,List.setIfInBounds_toArray,List.set_cons_zero,List.set_cons_succ]
   refine wpAnyH_take (i:=12) (oi:=⟨some 94,.binOp .add 3 (.tmp 93) (.const (.int .i64 1)) 3,3, "build.go:122",#[⟨11,.data⟩,⟨8,.guard⟩],some (8,false)⟩) (v:=?_) rfl (by kernel_rfl) (by kernel_rfl) (by kernel_rfl) (fun _ _ _ h=>h) (Or.inl ⟨by rfl,?_⟩) (by assumption) ?_
   rotate_left
   ·intro w hSw;(try dsimp only at hSw);go_simp;(try with_reducible rfl)
   simp only [Act.put,List.setIfInBounds_toArray,List.set_cons_zero,List.set_cons_succ];refine wpAnyH_take (i:=15) (oi:=⟨some 97,.binOp .neq 3 (.tmp 94) (.tmp 96) 3,4, "build.go:122",#[⟨12,.data⟩,⟨14,.data⟩,⟨8,.guard⟩],some (8,false)⟩) (v:=?_) rfl (by kernel_rfl) (by kernel_rfl) (by kernel_rfl) (fun _ _ _ h=>h) (Or.inl ⟨by rfl,?_⟩) (by assumption) ?_
   rotate_left
   ·intro w hSw;(try dsimp only at hSw);go_simp;(try with_reducible rfl)
   simp only [Act.put,List.setIfInBounds_toArray,List.set_cons_zero,List.set_cons_succ];refine wpAnyH_take (i:=16) (oi:=⟨some 98,.pick (.tmp 90) (.const (.bool true)) (.tmp 97),4, "build.go:122",#[⟨8,.data⟩,⟨15,.data⟩],none⟩) (v:=?_) rfl (by kernel_rfl) (by kernel_rfl) (by kernel_rfl) (fun _ _ _ h=>h) (Or.inl ⟨by rfl,?_⟩) (by assumption) ?_
   rotate_left
   ·intro w hSw;(try dsimp only at hSw);go_simp;(try with_reducible rfl)
   simp only [Act.put,List.setIfInBounds_toArray,List.set_cons_zero,List.set_cons_succ];refine wpAnyH_take (i:=17) (oi:=⟨some 99,.move (.tmp 98),4, "build.go:122",#[⟨16,.data⟩,⟨11,.chain⟩],none⟩) (v:=?_) rfl (by kernel_rfl) (by kernel_rfl) (by kernel_rfl) (fun _ _ _ h=>h) (Or.inl ⟨by rfl,?_⟩) (by assumption) ?_
   rotate_left
   ·intro w hSw;(try dsimp only at hSw);go_simp;(try with_reducible rfl)
   simp only [Act.put,List.setIfInBounds_toArray,List.set_cons_zero,List.set_cons_succ];refine wpAnyH_take (i:=18) (oi:=⟨some 100,.fieldAddr 61 (.tmp 5) 0,0, "build.go:122",#[⟨17,.guard⟩],some (17,false)⟩) (v:=undef) rfl (by kernel_rfl) (by kernel_rfl) (by kernel_rfl) (fun _ _ _ h=>h) (Or.inr ⟨by rfl,rfl⟩) (by assumption) ?_;simp only [Act.put,List.setIfInBounds_toArray,List.set_cons_zero,List.set_cons_succ];refine wpAnyH_take (i:=19) (oi:=⟨some 101,.load 3 (.tmp 100),3, "build.go:122",#[⟨18,.data⟩,⟨17,.guard⟩],some (17,false)⟩) (v:=undef) rfl (by kernel_rfl) (by kernel_rfl) (by kernel_rfl) (fun _ _ _ h=>h) (Or.inr ⟨by rfl,rfl⟩) (by assumption) ?_;simp only [Act.put,List.setIfInBounds_toArray,List.set_cons_zero,List.set_cons_succ];refine wpAnyH_take (i:=20) (oi:=⟨some 102,.binOp .neq 3 (.tmp 101) (.const (.int .i64 0)) 3,4, "build.go:122",#[⟨19,.data⟩,⟨17,.guard⟩],some (17,false)⟩) (v:=undef) rfl (by kernel_rfl) (by kernel_rfl) (by kernel_rfl) (fun _ _ _ h=>h) (Or.inr ⟨by rfl,rfl⟩) (by assumption) ?_;simp only [Act.put,List.setIfInBounds_toArray,List.set_cons_zero,List.set_cons_succ];refine wpAnyH_take (i:=21) (oi:=⟨some 103,.move (.tmp 102),4, "build.go:122",#[⟨20,.data⟩,⟨17,.chain⟩,⟨17,.guard⟩],some (17,false)⟩) (v:=undef) rfl (by kernel_rfl) (by kernel_rfl) (by kernel_rfl) (fun _ _ _ h=>h) (Or.inr ⟨by rfl,rfl⟩) (by assumption) ?_;simp only [Act.put,List.setIfInBounds_toArray,List.set_cons_zero,List.set_cons_succ];refine wpAnyH_take (i:=22) (oi:=⟨some 104,.fieldAddr 118 (.tmp 12) 0,0, "build.go:122",#[⟨21,.guard⟩],some (21,true)⟩) (v:=undef) rfl (by kernel_rfl) (by kernel_rfl) (by kernel_rfl) (fun _ _ _ h=>h) (Or.inr ⟨by rfl,rfl⟩) (by assumption) ?_;simp only [Act.put,List.setIfInBounds_toArray,List.set_cons_zero,List.set_cons_succ];refine wpAnyH_take (i:=23) (oi:=⟨some 105,.load 116 (.tmp 104),116, "build.go:122",#[⟨22,.data⟩,⟨21,.guard⟩],some (21,true)⟩) (v:=undef) rfl (by kernel_rfl) (by kernel_rfl) (by kernel_rfl) (fun _ _ _ h=>h) (Or.inr ⟨by rfl,rfl⟩) (by assumption) ?_;simp only [Act.put,List.setIfInBounds_toArray,List.set_cons_zero,List.set_cons_succ];refine wpAnyH_take (i:=24) (oi:=⟨some 106,.call { callee:=.invoke (.tmp 105) "coppice/tree.number",args:=#[],argTypes:=#[] },3, "build.go:122",#[⟨23,.data⟩,⟨21,.chain⟩,⟨21,.guard⟩],some (21,true)⟩) (v:=undef) rfl (by kernel_rfl) (by kernel_rfl) (by kernel_rfl) (fun _ _ _ h=>h) (Or.inr ⟨by rfl,rfl⟩) (by assumption) ?_;simp only [Act.put,List.setIfInBounds_toArray,List.set_cons_zero,List.set_cons_succ];refine wpAnyH_take (i:=25) (oi:=⟨some 107,.binOp .eql 3 (.tmp 106) (.const (.int .i64 0)) 3,4, "build.go:122",#[⟨24,.data⟩,⟨21,.guard⟩],some (21,true)⟩) (v:=undef) rfl (by kernel_rfl) (by kernel_rfl) (by kernel_rfl) (fun _ _ _ h=>h) (Or.inr ⟨by rfl,rfl⟩) (by assumption) ?_;simp only [Act.put,List.setIfInBounds_toArray,List.set_cons_zero,List.set_cons_succ];refine wpAnyH_take (i:=26) (oi:=⟨some 108,.pick (.tmp 103) (.tmp 107) (.const (.bool false)),4, "build.go:122",#[⟨21,.data⟩,⟨25,.data⟩,⟨17,.guard⟩],some (17,false)⟩) (v:=undef) rfl (by kernel_rfl) (by kernel_rfl) (by kernel_rfl) (fun _ _ _ h=>h) (Or.inr ⟨by rfl,rfl⟩) (by assumption) ?_;simp only [Act.put,List.setIfInBounds_toArray,List.set_cons_zero,List.set_cons_succ];refine wpAnyH_take (i:=27) (oi:=⟨some 109,.pick (.tmp 99) (.const (.bool true)) (.tmp 108),4, "build.go:122",#[⟨17,.data⟩,⟨26,.data⟩],none⟩) (v:=?_) rfl (by kernel_rfl) (by kernel_rfl) (by kernel_rfl) (fun _ _ _ h=>h) (Or.inl ⟨by rfl,?_⟩) (by assumption) ?_
   rotate_left
   ·intro w hSw;(try dsimp only at hSw);go_simp;(try with_reducible rfl)
   simp only [Act.put,List.setIfInBounds_toArray,List.set_cons_zero,List.set_cons_succ];refine wpAnyH_done (by kernel_rfl) ?_ _;refine NoPanic.normal ?_;exact HK.out _ _ _ _ _ _ _ _ _ _ _ _ _ _ _ _ _ _ _ _ _ _ _ _ _ _ _ _ _ HP.out G4.out
 ·have g1:(kat != kz)=true:=by simp [h1]
  have HP:Hid (BcQ true (kat=kz/\l1=nlv/\(no≠0->nq≠0))):=BcQ.no fun h=>h1 h.1
  clear h1;have T0:=hZq (KP.out _ GD.out);refine wp_region_noPanic ?_;refine wp_region_held_drew (S:=(fun w'=>w'.cell? ⟨X,0,none⟩=some (.iface 133 (.pointer (some ⟨b1,0,none⟩)))/\w'.cell? ⟨X,1,none⟩=some (.int .i64 kat)/\w'.cell? ⟨D,0,none⟩=some (.int .i64 no)/\w'.cell? ⟨D,1,none⟩=some (.int .i64 nlv)/\w'.cell? ⟨D,5,none⟩=some (.slice (some ⟨g,off,none⟩) kn kc)/\w'.cell? ⟨g,off+i,none⟩=some (.int .i64 kz))) (by kernel_rfl) ?_ (fun hHeld=>?_)
  ·exact T0.out
  generalize wr.drew=wd at *;refine wpAnyH_take (i:=0) (oi:=⟨some 82,.fieldAddr 118 (.tmp 12) 1,0, "build.go:122",#[],none⟩) (v:=?_) rfl (by kernel_rfl) (by kernel_rfl) (by kernel_rfl) (fun _ _ _ h=>h) (Or.inl ⟨by rfl,?_⟩) (by assumption) ?_
  rotate_left
  ·intro w hSw;(try dsimp only at hSw);go_simp;(try with_reducible rfl)
  simp only [Act.put,List.setIfInBounds_toArray,List.set_cons_zero,List.set_cons_succ];refine wpAnyH_take (i:=1) (oi:=⟨some 83,.load 3 (.tmp 82),3, "build.go:122",#[⟨0,.data⟩],none⟩) (v:=?_) rfl (by kernel_rfl) (by kernel_rfl) (by kernel_rfl) (fun _ _ _ h=>h) (Or.inl ⟨by rfl,?_⟩) (by assumption) ?_
  rotate_left
  ·intro w hSw;(try dsimp only at hSw);go_simp;(try with_reducible rfl)
  simp only [Act.put,List.setIfInBounds_toArray,List.set_cons_zero,List.set_cons_succ];refine wpAnyH_take (i:=2) (oi:=⟨some 84,.fieldAddr 61 (.tmp 5) 5,0, "build.go:122",#[],none⟩) (v:=?_) rfl (by kernel_rfl) (by kernel_rfl) (by kernel_rfl) (fun _ _ _ h=>h) (Or.inl ⟨by rfl,?_⟩) (by assumption) ?_
  rotate_left
  ·intro w hSw;(try dsimp only at hSw);go_simp;(try with_reducible rfl)
  simp only [Act.put,List.setIfInBounds_toArray,List.set_cons_zero,List.set_cons_succ];refine wpAnyH_take (i:=3) (oi:=⟨some 85,.load 30 (.tmp 84),30, "build.go:122",#[⟨2,.data⟩],none⟩) (v:=?_) rfl (by kernel_rfl) (by kernel_rfl) (by kernel_rfl) (fun _ _ _ h=>h) (Or.inl ⟨by rfl,?_⟩) (by assumption) ?_
  rotate_left
  ·intro w hSw;(try dsimp only at hSw);go_simp;(try with_reducible rfl)
  simp only [Act.put,List.setIfInBounds_toArray,List.set_cons_zero,List.set_cons_succ];refine wpAnyH_take (i:=4) (oi:=⟨some 86,.move (.tmp 11),3, "build.go:122",#[],none⟩) (v:=?_) rfl (by kernel_rfl) (by kernel_rfl) (by kernel_rfl) (fun _ _ _ h=>h) (Or.inl ⟨by rfl,?_⟩) (by assumption) ?_
  rotate_left
  ·intro w hSw;(try dsimp only at hSw);go_simp;(try with_reducible rfl)
  simp only [Act.put,List.setIfInBounds_toArray,List.set_cons_zero,List.set_cons_succ];refine wpAnyH_take (i:=5) (oi:=⟨some 87,.indexAddr 30 (.tmp 85) (.tmp 86),0, "build.go:122",#[⟨3,.data⟩,⟨4,.data⟩],none⟩) (v:=?_) rfl (by kernel_rfl) (by kernel_rfl) (by kernel_rfl) (fun _ _ _ h=>h) (Or.inl ⟨by rfl,?_⟩) (by assumption) ?_
  rotate_left
  ·intro w hSw;(try dsimp only at hSw);go_simp;(try with_reducible rfl)
  simp only [Act.put,List.setIfInBounds_toArray,List.set_cons_zero,List.set_cons_succ];refine wpAnyH_take (i:=6) (oi:=⟨some 88,.load 3 (.tmp 87),3, "build.go:122",#[⟨5,.data⟩],none⟩) (v:=?_) rfl (by kernel_rfl) (by kernel_rfl) (by kernel_rfl) (fun _ _ _ h=>h) (Or.inl ⟨by rfl,?_⟩) (by assumption) ?_
  rotate_left
  ·intro w hSw;(try dsimp only at hSw);go_simp;(try with_reducible rfl)
  simp only [Act.put,List.setIfInBounds_toArray,List.set_cons_zero,List.set_cons_succ];refine wpAnyH_take (i:=7) (oi:=⟨some 89,.binOp .neq 3 (.tmp 83) (.tmp 88) 3,4, "build.go:122",#[⟨1,.data⟩,⟨6,.data⟩],none⟩) (v:=?_) rfl (by kernel_rfl) (by kernel_rfl) (by kernel_rfl) (fun _ _ _ h=>h) (Or.inl ⟨by rfl,?_⟩) (by assumption) ?_
  rotate_left
  ·intro w hSw;(try dsimp only at hSw);go_simp;(try with_reducible rfl)
  simp only [Act.put,List.setIfInBounds_toArray,List.set_cons_zero,List.set_cons_succ];refine wpAnyH_take (i:=8) (oi:=⟨some 90,.move (.tmp 89),4, "build.go:122",#[⟨7,.data⟩],none⟩) (v:=?_) rfl (by kernel_rfl) (by kernel_rfl) (by kernel_rfl) (fun _ _ _ h=>h) (Or.inl ⟨by rfl,?_⟩) (by assumption) ?_
  rotate_left
  ·intro w hSw;(try dsimp only at hSw);go_simp;(try with_reducible rfl)
  simp only [Act.put,List.setIfInBounds_toArray,List.set_cons_zero,List.set_cons_succ];refine wpAnyH_take (i:=9) (oi:=⟨some 91,.fieldAddr 118 (.tmp 12) 0,0, "build.go:122",#[⟨8,.guard⟩],some (8,false)⟩) (v:=undef) rfl (by kernel_rfl) (by kernel_rfl) (by kernel_rfl) (fun _ _ _ h=>h) (Or.inr ⟨by rfl,rfl⟩) (by assumption) ?_;simp only [Act.put,List.setIfInBounds_toArray,List.set_cons_zero,List.set_cons_succ];refine wpAnyH_take (i:=10) (oi:=⟨some 92,.load 116 (.tmp 91),116, "build.go:122",#[⟨9,.data⟩,⟨8,.guard⟩],some (8,false)⟩) (v:=undef) rfl (by kernel_rfl) (by kernel_rfl) (by kernel_rfl) (fun _ _ _ h=>h) (Or.inr ⟨by rfl,rfl⟩) (by assumption) ?_;simp only [Act.put,List.setIfInBounds_toArray,List.set_cons_zero,List.set_cons_succ];refine wpAnyH_take (i:=13) (oi:=⟨some 95,.fieldAddr 61 (.tmp 5) 1,0, "build.go:122",#[⟨8,.guard⟩],some (8,false)⟩) (v:=undef) rfl (by kernel_rfl) (by kernel_rfl) (by kernel_rfl) (fun _ _ _ h=>h) (Or.inr ⟨by rfl,rfl⟩) (by assumption) ?_;simp only [Act.put,List.setIfInBounds_toArray,List.set_cons_zero,List.set_cons_succ];refine wpAnyH_take (i:=14) (oi:=⟨some 96,.load 3 (.tmp 95),3, "build.go:122",#[⟨13,.data⟩,⟨8,.guard⟩],some (8,false)⟩) (v:=undef) rfl (by kernel_rfl) (by kernel_rfl) (by kernel_rfl) (fun _ _ _ h=>h) (Or.inr ⟨by rfl,rfl⟩) (by assumption) ?_;simp only [Act.put,List.setIfInBounds_toArray,List.set_cons_zero,List.set_cons_succ];refine wpAnyH_take (i:=11) (oi:=⟨some 93,.call { callee:=.invoke (.tmp 92) "coppice/tree.level",args:=#[],argTypes:=#[] },3, "build.go:122",#[⟨10,.data⟩,⟨8,.chain⟩,⟨8,.guard⟩],some (8,false)⟩) (v:=undef) rfl (by kernel_rfl) (by kernel_rfl) (by kernel_rfl) (fun _ _ _ h=>h) (Or.inr ⟨by rfl,rfl⟩) (by assumption) ?_;simp only [Act.put,List.setIfInBounds_toArray,List.set_cons_zero,List.set_cons_succ];refine wpAnyH_take (i:=12) (oi:=⟨some 94,.binOp .add 3 (.tmp 93) (.const (.int .i64 1)) 3,3, "build.go:122",#[⟨11,.data⟩,⟨8,.guard⟩],some (8,false)⟩) (v:=undef) rfl (by kernel_rfl) (by kernel_rfl) (by kernel_rfl) (fun _ _ _ h=>h) (Or.inr ⟨by rfl,rfl⟩) (by assumption) ?_;simp only [Act.put,List.setIfInBounds_toArray,List.set_cons_zero,List.set_cons_succ];refine wpAnyH_take (i:=15) (oi:=⟨some 97,.binOp .neq 3 (.tmp 94) (.tmp 96) 3,4, "build.go:122",#[⟨12,.data⟩,⟨14,.data⟩,⟨8,.guard⟩],some (8,false)⟩) (v:=undef) rfl (by kernel_rfl) (by kernel_rfl) (by kernel_rfl) (fun _ _ _ h=>h) (Or.inr ⟨by rfl,rfl⟩) (by assumption) ?_;simp only [Act.put,List.setIfInBounds_toArray,List.set_cons_zero,List.set_cons_succ];refine wpAnyH_take (i:=16) (oi:=⟨some 98,.pick (.tmp 90) (.const (.bool true)) (.tmp 97),4, "build.go:122",#[⟨8,.data⟩,⟨15,.data⟩],none⟩) (v:=?_) rfl (by kernel_rfl) (by kernel_rfl) (by kernel_rfl) (fun _ _ _ h=>h) (Or.inl ⟨by rfl,?_⟩) (by assumption) ?_
  rotate_left
  ·intro w hSw;(try dsimp only at hSw);go_simp;(try with_reducible rfl)
  simp only [Act.put,List.setIfInBounds_toArray,List.set_cons_zero,List.set_cons_succ];refine wpAnyH_take (i:=17) (oi:=⟨some 99,.move (.tmp 98),4, "build.go:122",#[⟨16,.data⟩,⟨11,.chain⟩],none⟩) (v:=?_) rfl (by kernel_rfl) (by kernel_rfl) (by kernel_rfl) (fun _ _ _ h=>h) (Or.inl ⟨by rfl,?_⟩) (by assumption) ?_
  rotate_left
  ·intro w hSw;(try dsimp only at hSw);go_simp;(try with_reducible rfl)
  simp only [Act.put,List.setIfInBounds_toArray,List.set_cons_zero,List.set_cons_succ];refine wpAnyH_take (i:=18) (oi:=⟨some 100,.fieldAddr 61 (.tmp 5) 0,0, "build.go:122",#[⟨17,.guard⟩],some (17,false)⟩) (v:=undef) rfl (by kernel_rfl) (by kernel_rfl) (by kernel_rfl) (fun _ _ _ h=>h) (Or.inr ⟨by rfl,rfl⟩) (by assumption) ?_;simp only [Act.put,List.setIfInBounds_toArray,List.set_cons_zero,List.set_cons_succ];refine wpAnyH_take (i:=19) (oi:=⟨some 101,.load 3 (.tmp 100),3, "build.go:122",#[⟨18,.data⟩,⟨17,.guard⟩],some (17,false)⟩) (v:=undef) rfl (by kernel_rfl) (by kernel_rfl) (by kernel_rfl) (fun _ _ _ h=>h) (Or.inr ⟨by rfl,rfl⟩) (by assumption) ?_;simp only [Act.put,List.setIfInBounds_toArray,List.set_cons_zero,List.set_cons_succ];refine wpAnyH_take (i:=20) (oi:=⟨some 102,.binOp .neq 3 (.tmp 101) (.const (.int .i64 0)) 3,4, "build.go:122",#[⟨19,.data⟩,⟨17,.guard⟩],some (17,false)⟩) (v:=undef) rfl (by kernel_rfl) (by kernel_rfl) (by kernel_rfl) (fun _ _ _ h=>h) (Or.inr ⟨by rfl,rfl⟩) (by assumption) ?_;simp only [Act.put,List.setIfInBounds_toArray,List.set_cons_zero,List.set_cons_succ];refine wpAnyH_take (i:=21) (oi:=⟨some 103,.move (.tmp 102),4, "build.go:122",#[⟨20,.data⟩,⟨17,.chain⟩,⟨17,.guard⟩],some (17,false)⟩) (v:=undef) rfl (by kernel_rfl) (by kernel_rfl) (by kernel_rfl) (fun _ _ _ h=>h) (Or.inr ⟨by rfl,rfl⟩) (by assumption) ?_;simp only [Act.put,List.setIfInBounds_toArray,List.set_cons_zero,List.set_cons_succ];refine wpAnyH_take (i:=22) (oi:=⟨some 104,.fieldAddr 118 (.tmp 12) 0,0, "build.go:122",#[⟨21,.guard⟩],some (21,true)⟩) (v:=undef) rfl (by kernel_rfl) (by kernel_rfl) (by kernel_rfl) (fun _ _ _ h=>h) (Or.inr ⟨by rfl,rfl⟩) (by assumption) ?_;simp only [Act.put,List.setIfInBounds_toArray,List.set_cons_zero,List.set_cons_succ];refine wpAnyH_take (i:=23) (oi:=⟨some 105,.load 116 (.tmp 104),116, "build.go:122",#[⟨22,.data⟩,⟨21,.guard⟩],some (21,true)⟩) (v:=undef) rfl (by kernel_rfl) (by kernel_rfl) (by kernel_rfl) (fun _ _ _ h=>h) (Or.inr ⟨by rfl,rfl⟩) (by assumption) ?_;simp only [Act.put,List.setIfInBounds_toArray,List.set_cons_zero,List.set_cons_succ];refine wpAnyH_take (i:=24) (oi:=⟨some 106,.call { callee:=.invoke (.tmp 105) "coppice/tree.number",args:=#[],argTypes:=#[] },3, "build.go:122",#[⟨23,.data⟩,⟨21,.chain⟩,⟨21,.guard⟩],some (21,true)⟩) (v:=undef) rfl (by kernel_rfl) (by kernel_rfl) (by kernel_rfl) (fun _ _ _ h=>h) (Or.inr ⟨by rfl,rfl⟩) (by assumption) ?_;simp only [Act.put,List.setIfInBounds_toArray,List.set_cons_zero,List.set_cons_succ];refine wpAnyH_take (i:=25) (oi:=⟨some 107,.binOp .eql 3 (.tmp 106) (.const (.int .i64 0)) 3,4, "build.go:122",#[⟨24,.data⟩,⟨21,.guard⟩],some (21,true)⟩) (v:=undef) rfl (by kernel_rfl) (by kernel_rfl) (by kernel_rfl) (fun _ _ _ h=>h) (Or.inr ⟨by rfl,rfl⟩) (by assumption) ?_;simp only [Act.put,List.setIfInBounds_toArray,List.set_cons_zero,List.set_cons_succ];refine wpAnyH_take (i:=26) (oi:=⟨some 108,.pick (.tmp 103) (.tmp 107) (.const (.bool false)),4, "build.go:122",#[⟨21,.data⟩,⟨25,.data⟩,⟨17,.guard⟩],some (17,false)⟩) (v:=undef) rfl (by kernel_rfl) (by kernel_rfl) (by kernel_rfl) (fun _ _ _ h=>h) (Or.inr ⟨by rfl,rfl⟩) (by assumption) ?_;simp only [Act.put,List.setIfInBounds_toArray,List.set_cons_zero,List.set_cons_succ];refine wpAnyH_take (i:=27) (oi:=⟨some 109,.pick (.tmp 99) (.const (.bool true)) (.tmp 108),4, "build.go:122",#[⟨17,.data⟩,⟨26,.data⟩],none⟩) (v:=?_) rfl (by kernel_rfl) (by kernel_rfl) (by kernel_rfl) (fun _ _ _ h=>h) (Or.inl ⟨by rfl,?_⟩) (by assumption) ?_
  rotate_left
  ·intro w hSw;(try dsimp only at hSw);go_simp;(try with_reducible rfl)
  simp only [Act.put,List.setIfInBounds_toArray,List.set_cons_zero,List.set_cons_succ];refine wpAnyH_done (by kernel_rfl) ?_ _;refine NoPanic.normal ?_;exact HK.out _ _ _ _ _ _ _ _ _ _ _ _ _ _ _ _ _ _ _ _ _ _ _ _ _ _ _ _ _ HP.out GD.out
theorem ab_r9B {y0 y1 y2 y3 y4 y6 y7 y8 y9 y10 y13 y14 y15 y16 y17 y18 y19 y20 y21 y22 y23 y24 y25 y26 y27 y28 y29 y30 y31 y32 y33 y34 y35 y36 y37 y38 y39 y40 y41 y42 y43 y44 y45 y46 y47 y48 y49 y50 y51 y52 y53 y54 y55 y56 y57 y58 y59 y60 y61 y62 y63 y64 y65 y66 y67 y68 y69 y70 y71 y72 y73 y74 y75 y76 y77 y78 y79 y80 y81 y82 y83 y84 y85 y86 y87 y88 y89 y90 y91 y92 y93 y94 y95 y96 y97 y98 y99 y100 y101 y102 y103 y104 y105 y106 y107 y108 y109 y110 y111 y112 y113 y114 y115 y116 y117 y118 y119 y120 y121 y122 y123 y124 y125 y126 y127 y128 y129 y130 y131 y132 y133 y134 y135 y136 y137 y138 y139 y140 y141 y142 y143 y144 y145 y146 y147 y148 y149 y150 y151 y152 y153 y154 y155 y156 y157 y158 y159 y160 y161 y162 y163 y164 y165 y166 y167 y168 y169 y170 y171 y172 y173 y174 y175 y176 y177 y178 y179:Value}{D X b1 g off i kn kc:Nat}{no nlv kat kz lq nq:Int}{wr:World}{K:Exit->Act->World->Prop}
  (u0:wr.cell? ⟨X,0,none⟩=some (.iface 161 (.pointer (some ⟨b1,0,none⟩)))) (u1:wr.cell? ⟨X,1,none⟩=some (.int .i64 kat))
  (d0:wr.cell? ⟨D,0,none⟩=some (.int .i64 no)) (d1:wr.cell? ⟨D,1,none⟩=some (.int .i64 nlv)) (d5:wr.cell? ⟨D,5,none⟩=some (.slice (some ⟨g,off,none⟩) kn kc)) (hi:i<kn) (z0:wr.cell? ⟨g,off+i,none⟩=some (.int .i64 kz))
  (hl:0<=lq/\lq<=1000000) (hLV:∀ W:World,wr.grownBy W none->Calls Tryz.prog 185 #[.pointer (some ⟨b1,0,none⟩)] W fun en w'=>en=.returned (.int .i64 lq)/\W.grownBy w' none)
  (hNU:∀ W:World,wr.grownBy W none->Calls Tryz.prog 186 #[.pointer (some ⟨b1,0,none⟩)] W fun en w'=>en=.returned (.int .i64 nq)/\w'=W)
  (hK:∀ (v82 v83 v84 v85 v86 v87 v88 v89 v90 v91 v92 v93 v94 v95 v96 v97 v98 v99 v100 v101 v102 v103 v104 v105 v106 v107 v108:Value) (f:Bool) (wx:World),BcQ f (kat=kz/\lq+1=nlv/\(no≠0->nq≠0))->wr.grownBy wx none->K .normal ⟨List.toArray (y0::y1::y2::y3::y4::(.pointer (some ⟨D,0,none⟩))::y6::y7::y8::y9::y10::(.int .i64 (i:Nat))::(.pointer (some ⟨X,0,none⟩))::y13::y14::y15::y16::y17::y18::y19::y20::y21::y22::y23::y24::y25::y26::y27::y28::y29::y30::y31::y32::y33::y34::y35::y36::y37::y38::y39::y40::y41::y42::y43::y44::y45::y46::y47::y48::y49::y50::y51::y52::y53::y54::y55::y56::y57::y58::y59::y60::y61::y62::y63::y64::y65::y66::y67::y68::y69::y70::y71::y72::y73::y74::y75::y76::y77::y78::y79::y80::y81::v82::v83::v84::v85::v86::v87::v88::v89::v90::v91::v92::v93::v94::v95::v96::v97::v98::v99::v100::v101::v102::v103::v104::v105::v106::v107::v108::(.bool f)::y110::y111::y112::y113::y114::y115::y116::y117::y118::y119::y120::y121::y122::y123::y124::y125::y126::y127::y128::y129::y130::y131::y132::y133::y134::y135::y136::y137::y138::y139::y140::y141::y142::y143::y144::y145::y146::y147::y148::y149::y150::y151::y152::y153::y154::y155::y156::y157::y158::y159::y160::y161::y162::y163::y164::y165::y166::y167::y168::y169::y170::y171::y172::y173::y174::y175::y176::y177::y178::y179::[]),[]⟩ wx) :
  Code.wp Tryz.prog (Go.Code.region 9 #[⟨some 82,.fieldAddr 118 (.tmp 12) 1,0, "build.go:122",#[],none⟩,⟨some 83,.load 3 (.tmp 82),3, "build.go:122",#[⟨0,.data⟩],none⟩,⟨some 84,.fieldAddr 61 (.tmp 5) 5,0, "build.go:122",#[],none⟩,⟨some 85,.load 30 (.tmp 84),30, "build.go:122",#[⟨2,.data⟩],none⟩,⟨some 86,.move (.tmp 11),3, "build.go:122",#[],none⟩,⟨some 87,.indexAddr 30 (.tmp 85) (.tmp 86),0, "build.go:122",#[⟨3,.data⟩,⟨4,.data⟩],none⟩,⟨some 88,.load 3 (.tmp 87),3, "build.go:122",#[⟨5,.data⟩],none⟩,⟨some 89,.binOp .neq 3 (.tmp 83) (.tmp 88) 3,4, "build.go:122",#[⟨1,.data⟩,⟨6,.data⟩],none⟩,⟨some 90,.move (.tmp 89),4, "build.go:122",#[⟨7,.data⟩],none⟩,⟨some 91,.fieldAddr 118 (.tmp 12) 0,0, "build.go:122",#[⟨8,.guard⟩],some (8,false)⟩,⟨some 92,.load 116 (.tmp 91),116, "build.go:122",#[⟨9,.data⟩,⟨8,.guard⟩],some (8,false)⟩,⟨some 93,.call { callee:=.invoke (.tmp 92) "coppice/tree.level",args:=#[],argTypes:=#[] },3, "build.go:122",#[⟨10,.data⟩,⟨8,.chain⟩,⟨8,.guard⟩],some (8,false)⟩,⟨some 94,.binOp .add 3 (.tmp 93) (.const (.int .i64 1)) 3,3, "build.go:122",#[⟨11,.data⟩,⟨8,.guard⟩],some (8,false)⟩,⟨some 95,.fieldAddr 61 (.tmp 5) 1,0, "build.go:122",#[⟨8,.guard⟩],some (8,false)⟩,⟨some 96,.load 3 (.tmp 95),3, "build.go:122",#[⟨13,.data⟩,⟨8,.guard⟩],some (8,false)⟩,⟨some 97,.binOp .neq 3 (.tmp 94) (.tmp 96) 3,4, "build.go:122",#[⟨12,.data⟩,⟨14,.data⟩,⟨8,.guard⟩],some (8,false)⟩,⟨some 98,.pick (.tmp 90) (.const (.bool true)) (.tmp 97),4, "build.go:122",#[⟨8,.data⟩,⟨15,.data⟩],none⟩,⟨some 99,.move (.tmp 98),4, "build.go:122",#[⟨16,.data⟩,⟨11,.chain⟩],none⟩,⟨some 100,.fieldAddr 61 (.tmp 5) 0,0, "build.go:122",#[⟨17,.guard⟩],some (17,false)⟩,⟨some 101,.load 3 (.tmp 100),3, "build.go:122",#[⟨18,.data⟩,⟨17,.guard⟩],some (17,false)⟩,⟨some 102,.binOp .neq 3 (.tmp 101) (.const (.int .i64 0)) 3,4, "build.go:122",#[⟨19,.data⟩,⟨17,.guard⟩],some (17,false)⟩,⟨some 103,.move (.tmp 102),4, "build.go:122",#[⟨20,.data⟩,⟨17,.chain⟩,⟨17,.guard⟩],some (17,false)⟩,⟨some 104,.fieldAddr 118 (.tmp 12) 0,0, "build.go:122",#[⟨21,.guard⟩],some (21,true)⟩,⟨some 105,.load 116 (.tmp 104),116, "build.go:122",#[⟨22,.data⟩,⟨21,.guard⟩],some (21,true)⟩,⟨some 106,.call { callee:=.invoke (.tmp 105) "coppice/tree.number",args:=#[],argTypes:=#[] },3, "build.go:122",#[⟨23,.data⟩,⟨21,.chain⟩,⟨21,.guard⟩],some (21,true)⟩,⟨some 107,.binOp .eql 3 (.tmp 106) (.const (.int .i64 0)) 3,4, "build.go:122",#[⟨24,.data⟩,⟨21,.guard⟩],some (21,true)⟩,⟨some 108,.pick (.tmp 103) (.tmp 107) (.const (.bool false)),4, "build.go:122",#[⟨21,.data⟩,⟨25,.data⟩,⟨17,.guard⟩],some (17,false)⟩,⟨some 109,.pick (.tmp 99) (.const (.bool true)) (.tmp 108),4, "build.go:122",#[⟨17,.data⟩,⟨26,.data⟩],none⟩] true) K ⟨List.toArray (y0::y1::y2::y3::y4::(.pointer (some ⟨D,0,none⟩))::y6::y7::y8::y9::y10::(.int .i64 (i:Nat))::(.pointer (some ⟨X,0,none⟩))::y13::y14::y15::y16::y17::y18::y19::y20::y21::y22::y23::y24::y25::y26::y27::y28::y29::y30::y31::y32::y33::y34::y35::y36::y37::y38::y39::y40::y41::y42::y43::y44::y45::y46::y47::y48::y49::y50::y51::y52::y53::y54::y55::y56::y57::y58::y59::y60::y61::y62::y63::y64::y65::y66::y67::y68::y69::y70::y71::y72::y73::y74::y75::y76::y77::y78::y79::y80::y81::y82::y83::y84::y85::y86::y87::y88::y89::y90::y91::y92::y93::y94::y95::y96::y97::y98::y99::y100::y101::y102::y103::y104::y105::y106::y107::y108::y109::y110::y111::y112::y113::y114::y115::y116::y117::y118::y119::y120::y121::y122::y123::y124::y125::y126::y127::y128::y129::y130::y131::y132::y133::y134::y135::y136::y137::y138::y139::y140::y141::y142::y143::y144::y145::y146::y147::y148::y149::y150::y151::y152::y153::y154::y155::y156::y157::y158::y159::y160::y161::y162::y163::y164::y165::y166::y167::y168::y169::y170::y171::y172::y173::y174::y175::y176::y177::y178::y179::[]),[]⟩ wr:=by
 have HK:=hZq hK;have LV:=hZq hLV;have NU:=hZq hNU;have GD:=hZq (show wr.grownBy wr.drew none from (Qt.refl wr).drew.grown none);have T1:Hid (wr.cell? ⟨X,0,none⟩=some (.iface 161 (.pointer (some ⟨b1,0,none⟩)))/\wr.cell? ⟨X,1,none⟩=some (.int .i64 kat)/\wr.cell? ⟨D,0,none⟩=some (.int .i64 no)/\wr.cell? ⟨D,1,none⟩=some (.int .i64 nlv)/\wr.cell? ⟨D,5,none⟩=some (.slice (some ⟨g,off,none⟩) kn kc)/\wr.cell? ⟨g,off+i,none⟩=some (.int .i64 kz)):=⟨u0,u1,d0,d1,d5,z0⟩;have KP:Hid (∀ W:World,wr.grownBy W none->W.cell? ⟨X,0,none⟩=some (.iface 161 (.pointer (some ⟨b1,0,none⟩)))/\W.cell? ⟨X,1,none⟩=some (.int .i64 kat)/\W.cell? ⟨D,0,none⟩=some (.int .i64 no)/\W.cell? ⟨D,1,none⟩=some (.int .i64 nlv)/\W.cell? ⟨D,5,none⟩=some (.slice (some ⟨g,off,none⟩) kn kc)/\W.cell? ⟨g,off+i,none⟩=some (.int .i64 kz)):=fun W hg=>⟨hg.cell u0 (by simp),hg.cell u1 (by simp),hg.cell d0 (by simp),hg.cell d1 (by simp),hg.cell d5 (by simp),hg.cell z0 (by simp)⟩
 clear hK hLV hNU u0 u1 d0 d1 d5 z0;have i1:(i:Int)<(kn:Int):=by omega
 have i0:(0:Int)<=(i:Int):=by omega
 have hme:=mB_level;have hmn:=mB_number;obtain ⟨l1,hl1⟩:∃ l1,lq+1=l1:=⟨_,rfl⟩;have hw:IntKind.i64.wrap (lq+1)=l1:=by rw [hl1];exact wrap_id10 (by omega) (by omega)
 rw [hl1] at HK;clear hl hl1 hi
 by_cases h1:kat=kz
 ·have g1:(kat != kz)=false:=by simp [h1]
  by_cases h2:l1=nlv
  ·have g2:(l1 != nlv)=false:=by simp [h2]
   by_cases h3:no=0
   ·have g3:(no != 0)=false:=by simp [h3]
    have HP:Hid (BcQ false (kat=kz/\l1=nlv/\(no≠0->nq≠0))):=BcQ.yes ⟨h1,h2,fun e=>absurd h3 e⟩;clear h1 h2 h3;have T0:=hZq (KP.out _ GD.out);refine wp_region_noPanic ?_;refine wp_region_held_drew (S:=(fun w'=>w'.cell? ⟨X,0,none⟩=some (.iface 161 (.pointer (some ⟨b1,0,none⟩)))/\w'.cell? ⟨X,1,none⟩=some (.int .i64 kat)/\w'.cell? ⟨D,0,none⟩=some (.int .i64 no)/\w'.cell? ⟨D,1,none⟩=some (.int .i64 nlv)/\w'.cell? ⟨D,5,none⟩=some (.slice (some ⟨g,off,none⟩) kn kc)/\w'.cell? ⟨g,off+i,none⟩=some (.int .i64 kz))) (by kernel_rfl) ?_ (fun hHeld=>?_)
    ·exact T0.out
    generalize wr.drew=wd at *;refine wpAnyH_take (i:=0) (oi:=⟨some 82,.fieldAddr 118 (.tmp 12) 1,0, "build.go:122",#[],none⟩) (v:=?_) rfl (by kernel_rfl) (by kernel_rfl) (by kernel_rfl) (fun _ _ _ h=>h) (Or.inl ⟨by rfl,?_⟩) (by assumption) ?_
    rotate_left
    ·intro w hSw;(try dsimp only at hSw);go_simp;(try with_reducible rfl)
    simp only [Act.put,List.setIfInBounds_toArray,List.set_cons_zero,List.set_cons_succ];refine wpAnyH_take (i:=1) (oi:=⟨some 83,.load 3 (.tmp 82),3, "build.go:122",#[⟨0,.data⟩],none⟩) (v:=?_) rfl (by kernel_rfl) (by kernel_rfl) (by kernel_rfl) (fun _ _ _ h=>h) (Or.inl ⟨by rfl,?_⟩) (by assumption) ?_
    rotate_left
    ·intro w hSw;(try dsimp only at hSw);go_simp;(try with_reducible rfl)
    simp only [Act.put,List.setIfInBounds_toArray,List.set_cons_zero,List.set_cons_succ];refine wpAnyH_take (i:=2) (oi:=⟨some 84,.fieldAddr 61 (.tmp 5) 5,0, "build.go:122",#[],none⟩) (v:=?_) rfl (by kernel_rfl) (by kernel_rfl) (by kernel_rfl) (fun _ _ _ h=>h) (Or.inl ⟨by rfl,?_⟩) (by assumption) ?_
    rotate_left
    ·intro w hSw;(try dsimp only at hSw);go_simp;(try with_reducible rfl)
    simp only [Act.put,List.setIfInBounds_toArray,List.set_cons_zero,List.set_cons_succ];refine wpAnyH_take (i:=3) (oi:=⟨some 85,.load 30 (.tmp 84),30, "build.go:122",#[⟨2,.data⟩],none⟩) (v:=?_) rfl (by kernel_rfl) (by kernel_rfl) (by kernel_rfl) (fun _ _ _ h=>h) (Or.inl ⟨by rfl,?_⟩) (by assumption) ?_
    rotate_left
    ·intro w hSw;(try dsimp only at hSw);go_simp;(try with_reducible rfl)
    simp only [Act.put,List.setIfInBounds_toArray,List.set_cons_zero,List.set_cons_succ];refine wpAnyH_take (i:=4) (oi:=⟨some 86,.move (.tmp 11),3, "build.go:122",#[],none⟩) (v:=?_) rfl (by kernel_rfl) (by kernel_rfl) (by kernel_rfl) (fun _ _ _ h=>h) (Or.inl ⟨by rfl,?_⟩) (by assumption) ?_
    rotate_left
    ·intro w hSw;(try dsimp only at hSw);go_simp;(try with_reducible rfl)
    simp only [Act.put,List.setIfInBounds_toArray,List.set_cons_zero,List.set_cons_succ];refine wpAnyH_take (i:=5) (oi:=⟨some 87,.indexAddr 30 (.tmp 85) (.tmp 86),0, "build.go:122",#[⟨3,.data⟩,⟨4,.data⟩],none⟩) (v:=?_) rfl (by kernel_rfl) (by kernel_rfl) (by kernel_rfl) (fun _ _ _ h=>h) (Or.inl ⟨by rfl,?_⟩) (by assumption) ?_
    rotate_left
    ·intro w hSw;(try dsimp only at hSw);go_simp;(try with_reducible rfl)
    simp only [Act.put,List.setIfInBounds_toArray,List.set_cons_zero,List.set_cons_succ];refine wpAnyH_take (i:=6) (oi:=⟨some 88,.load 3 (.tmp 87),3, "build.go:122",#[⟨5,.data⟩],none⟩) (v:=?_) rfl (by kernel_rfl) (by kernel_rfl) (by kernel_rfl) (fun _ _ _ h=>h) (Or.inl ⟨by rfl,?_⟩) (by assumption) ?_
    rotate_left
    ·intro w hSw;(try dsimp only at hSw);go_simp;(try with_reducible rfl)
    simp only [Act.put,List.setIfInBounds_toArray,List.set_cons_zero,List.set_cons_succ];refine wpAnyH_take (i:=7) (oi:=⟨some 89,.binOp .neq 3 (.tmp 83) (.tmp 88) 3,4, "build.go:122",#[⟨1,.data⟩,⟨6,.data⟩],none⟩) (v:=?_) rfl (by kernel_rfl) (by kernel_rfl) (by kernel_rfl) (fun _ _ _ h=>h) (Or.inl ⟨by rfl,?_⟩) (by assumption) ?_
    rotate_left
    ·intro w hSw;(try dsimp only at hSw);go_simp;(try with_reducible rfl)
    simp only [Act.put,List.setIfInBounds_toArray,List.set_cons_zero,List.set_cons_succ];refine wpAnyH_take (i:=8) (oi:=⟨some 90,.move (.tmp 89),4, "build.go:122",#[⟨7,.data⟩],none⟩) (v:=?_) rfl (by kernel_rfl) (by kernel_rfl) (by kernel_rfl) (fun _ _ _ h=>h) (Or.inl ⟨by rfl,?_⟩) (by assumption) ?_
    rotate_left
    ·intro w hSw;(try dsimp only at hSw);go_simp;(try with_reducible rfl)
    simp only [Act.put,List.setIfInBounds_toArray,List.set_cons_zero,List.set_cons_succ];refine wpAnyH_take (i:=9) (oi:=⟨some 91,.fieldAddr 118 (.tmp 12) 0,0, "build.go:122",#[⟨8,.guard⟩],some (8,false)⟩) (v:=?_) rfl (by kernel_rfl) (by kernel_rfl) (by kernel_rfl) (fun _ _ _ h=>h) (Or.inl ⟨by rfl,?_⟩) (by assumption) ?_
    rotate_left
    ·intro w hSw;(try dsimp only at hSw);go_simp;(try with_reducible rfl)
    simp only [Act.put,List.setIfInBounds_toArray,List.set_cons_zero,List.set_cons_succ];refine wpAnyH_take (i:=10) (oi:=⟨some 92,.load 116 (.tmp 91),116, "build.go:122",#[⟨9,.data⟩,⟨8,.guard⟩],some (8,false)⟩) (v:=?_) rfl (by kernel_rfl) (by kernel_rfl) (by kernel_rfl) (fun _ _ _ h=>h) (Or.inl ⟨by rfl,?_⟩) (by assumption) ?_
    rotate_left
    ·intro w hSw;(try dsimp only at hSw);go_simp;(try with_reducible rfl)
    simp only [Act.put,List.setIfInBounds_toArray,List.set_cons_zero,List.set_cons_succ];refine wpAnyH_take (i:=13) (oi:=⟨some 95,.fieldAddr 61 (.tmp 5) 1,0, "build.go:122",#[⟨8,.guard⟩],some (8,false)⟩) (v:=?_) rfl (by kernel_rfl) (by kernel_rfl) (by kernel_rfl) (fun _ _ _ h=>h) (Or.inl ⟨by rfl,?_⟩) (by assumption) ?_
    rotate_left
    ·intro w hSw;(try dsimp only at hSw);go_simp;(try with_reducible rfl)
    simp only [Act.put,List.setIfInBounds_toArray,List.set_cons_zero,List.set_cons_succ];refine wpAnyH_take (i:=14) (oi:=⟨some 96,.load 3 (.tmp 95),3, "build.go:122",#[⟨13,.data⟩,⟨8,.guard⟩],some (8,false)⟩) (v:=?_) rfl (by kernel_rfl) (by kernel_rfl) (by kernel_rfl) (fun _ _ _ h=>h) (Or.inl ⟨by rfl,?_⟩) (by assumption) ?_
    rotate_left
    ·intro w hSw;(try dsimp only at hSw);go_simp;(try with_reducible rfl)
    simp only [Act.put,List.setIfInBounds_toArray,List.set_cons_zero,List.set_cons_succ];refine wpAnyH_ready (rs:=[11]) (by kernel_rfl) (by simp) ?_;refine AllReadyH.cons (o:=⟨some 93,.call { callee:=.invoke (.tmp 92) "coppice/tree.level",args:=#[],argTypes:=#[] },3, "build.go:122",#[⟨10,.data⟩,⟨8,.chain⟩,⟨8,.guard⟩],some (8,false)⟩) rfl (fun K2 hK2=>?_) AllReadyH.nil
    go_simp
    go_at_call 185
    refine (LV.out _ GD.out).mono ?_;rintro en w4 ⟨rfl,hg4⟩;have G4:=hZq (gZq GD.out hg4);have T4:=hZq (KP.out _ G4.out);clear hg4;refine hK2.out _ _ (T4.out) (fun hHeld=>?_);clear hK2 K2;try simp only [Act.put,List.setIfInBounds_toArray,List.set_cons_zero,List.set_cons_succ]
    refine wpAnyH_take (i:=12) (oi:=⟨some 94,.binOp .add 3 (.tmp 93) (.const (.int .i64 1)) 3,3, "build.go:122",#[⟨11,.data⟩,⟨8,.guard⟩],some (8,false)⟩) (v:=?_) rfl (by kernel_rfl) (by kernel_rfl) (by kernel_rfl) (fun _ _ _ h=>h) (Or.inl ⟨by rfl,?_⟩) (by assumption) ?_
    rotate_left
    ·intro w hSw;(try dsimp only at hSw);go_simp;(try with_reducible rfl)
    simp only [Act.put,List.setIfInBounds_toArray,List.set_cons_zero,List.set_cons_succ];refine wpAnyH_take (i:=15) (oi:=⟨some 97,.binOp .neq 3 (.tmp 94) (.tmp 96) 3,4, "build.go:122",#[⟨12,.data⟩,⟨14,.data⟩,⟨8,.guard⟩],some (8,false)⟩) (v:=?_) rfl (by kernel_rfl) (by kernel_rfl) (by kernel_rfl) (fun _ _ _ h=>h) (Or.inl ⟨by rfl,?_⟩) (by assumption) ?_
    rotate_left
    ·intro w hSw;(try dsimp only at hSw);go_simp;(try with_reducible rfl)
    simp only [Act.put,List.setIfInBounds_toArray,List.set_cons_zero,List.set_cons_succ];refine wpAnyH_take (i:=16) (oi:=⟨some 98,.pick (.tmp 90) (.const (.bool true)) (.tmp 97),4, "build.go:122",#[⟨8,.data⟩,⟨15,.data⟩],none⟩) (v:=?_) rfl (by kernel_rfl) (by kernel_rfl) (by kernel_rfl) (fun _ _ _ h=>h) (Or.inl ⟨by rfl,?_⟩) (by assumption) ?_
    rotate_left
    ·intro w hSw;(try dsimp only at hSw);go_simp;(try with_reducible rfl)
    simp only [Act.put,List.setIfInBounds_toArray,List.set_cons_zero,List.set_cons_succ];refine wpAnyH_take (i:=17) (oi:=⟨some 99,.move (.tmp 98),4, "build.go:122",#[⟨16,.data⟩,⟨11,.chain⟩],none⟩) (v:=?_) rfl (by kernel_rfl) (by kernel_rfl) (by kernel_rfl) (fun _ _ _ h=>h) (Or.inl ⟨by rfl,?_⟩) (by assumption) ?_
    rotate_left
    ·intro w hSw;(try dsimp only at hSw);go_simp;(try with_reducible rfl)
    simp only [Act.put,List.setIfInBounds_toArray,List.set_cons_zero,List.set_cons_succ];refine wpAnyH_take (i:=18) (oi:=⟨some 100,.fieldAddr 61 (.tmp 5) 0,0, "build.go:122",#[⟨17,.guard⟩],some (17,false)⟩) (v:=?_) rfl (by kernel_rfl) (by kernel_rfl) (by kernel_rfl) (fun _ _ _ h=>h) (Or.inl ⟨by rfl,?_⟩) (by assumption) ?_
    rotate_left
    ·intro w hSw;(try dsimp only at hSw);go_simp;(try with_reducible rfl)
    simp only [Act.put,List.setIfInBounds_toArray,List.set_cons_zero,List.set_cons_succ];refine wpAnyH_take (i:=19) (oi:=⟨some 101,.load 3 (.tmp 100),3, "build.go:122",#[⟨18,.data⟩,⟨17,.guard⟩],some (17,false)⟩) (v:=?_) rfl (by kernel_rfl) (by kernel_rfl) (by kernel_rfl) (fun _ _ _ h=>h) (Or.inl ⟨by rfl,?_⟩) (by assumption) ?_
    rotate_left
    ·intro w hSw;(try dsimp only at hSw);go_simp;(try with_reducible rfl)
    simp only [Act.put,List.setIfInBounds_toArray,List.set_cons_zero,List.set_cons_succ];refine wpAnyH_take (i:=20) (oi:=⟨some 102,.binOp .neq 3 (.tmp 101) (.const (.int .i64 0)) 3,4, "build.go:122",#[⟨19,.data⟩,⟨17,.guard⟩],some (17,false)⟩) (v:=?_) rfl (by kernel_rfl) (by kernel_rfl) (by kernel_rfl) (fun _ _ _ h=>h) (Or.inl ⟨by rfl,?_⟩) (by assumption) ?_
    rotate_left
    ·intro w hSw;(try dsimp only at hSw);go_simp;(try with_reducible rfl)
    simp only [Act.put,List.setIfInBounds_toArray,List.set_cons_zero,List.set_cons_succ];refine wpAnyH_take (i:=21) (oi:=⟨some 103,.move (.tmp 102),4, "build.go:122",#[⟨20,.data⟩,⟨17,.chain⟩,⟨17,.guard⟩],some (17,false)⟩) (v:=?_) rfl (by kernel_rfl) (by kernel_rfl) (by kernel_rfl) (fun _ _ _ h=>h) (Or.inl ⟨by rfl,?_⟩) (by assumption) ?_
    rotate_left
    ·intro w hSw;(try dsimp only at hSw);go_simp;(try with_reducible rfl)
    simp only [Act.put,List.setIfInBounds_toArray,List.set_cons_zero,List.set_cons_succ];refine wpAnyH_take (i:=22) (oi:=⟨some 104,.fieldAddr 118 (.tmp 12) 0,0, "build.go:122",#[⟨21,.guard⟩],some (21,true)⟩) (v:=undef) rfl (by kernel_rfl) (by kernel_rfl) (by kernel_rfl) (fun _ _ _ h=>h) (Or.inr ⟨by rfl,rfl⟩) (by assumption) ?_;simp only [Act.put,List.setIfInBounds_toArray,List.set_cons_zero,List.set_cons_succ];refine wpAnyH_take (i:=23) (oi:=⟨some 105,.load 116 (.tmp 104),116, "build.go:122",#[⟨22,.data⟩,⟨21,.guard⟩],some (21,true)⟩) (v:=undef) rfl (by kernel_rfl) (by kernel_rfl) (by kernel_rfl) (fun _ _ _ h=>h) (Or.inr ⟨by rfl,rfl⟩) (by assumption) ?_;simp only [Act.put,List.setIfInBounds_toArray,List.set_cons_zero,List.set_cons_succ];refine wpAnyH_take (i:=24) (oi:=⟨some 106,.call { callee:=.invoke (.tmp 105) "coppice/tree.number",args:=#[],argTypes:=#[] },3, "build.go:122",#[⟨23,.data⟩,⟨21,.chain⟩,⟨21,.guard⟩],some (21,true)⟩) (v:=undef) rfl (by kernel_rfl) (by kernel_rfl) (by kernel_rfl) (fun _ _ _ h=>h) (Or.inr ⟨by rfl,rfl⟩) (by assumption) ?_;simp only [Act.put,List.setIfInBounds_toArray,List.set_cons_zero,List.set_cons_succ];refine wpAnyH_take (i:=25) (oi:=⟨some 107,.binOp .eql 3 (.tmp 106) (.const (.int .i64 0)) 3,4, "build.go:122",#[⟨24,.data⟩,⟨21,.guard⟩],some (21,true)⟩) (v:=undef) rfl (by kernel_rfl) (by kernel_rfl) (by kernel_rfl) (fun _ _ _ h=>h) (Or.inr ⟨by rfl,rfl⟩) (by assumption) ?_;simp only [Act.put,List.setIfInBounds_toArray,List.set_cons_zero,List.set_cons_succ];refine wpAnyH_take (i:=26) (oi:=⟨some 108,.pick (.tmp 103) (.tmp 107) (.const (.bool false)),4, "build.go:122",#[⟨21,.data⟩,⟨25,.data⟩,⟨17,.guard⟩],some (17,false)⟩) (v:=?_) rfl (by kernel_rfl) (by kernel_rfl) (by kernel_rfl) (fun _ _ _ h=>h) (Or.inl ⟨by rfl,?_⟩) (by assumption) ?_
    rotate_left
    ·intro w hSw;(try dsimp only at hSw);go_simp;(try with_reducible rfl)
    simp only [Act.put,List.setIfInBounds_toArray,List.set_cons_zero,List.set_cons_succ];refine wpAnyH_take (i:=27) (oi:=⟨some 109,.pick (.tmp 99) (.const (.bool true)) (.tmp 108),4, "build.go:122",#[⟨17,.data⟩,⟨26,.data⟩],none⟩) (v:=?_) rfl (by kernel_rfl) (by kernel_rfl) (by kernel_rfl) (fun _ _ _ h=>h) (Or.inl ⟨by rfl,?_⟩) (by assumption) ?_
    rotate_left
    ·intro w hSw;(try dsimp only at hSw);go_simp;(try with_reducible rfl)
    simp only [Act.put,List.setIfInBounds_toArray,List.set_cons_zero,List.set_cons_succ];refine wpAnyH_done (by kernel_rfl) ?_ _;refine NoPanic.normal ?_;exact HK.out _ _ _ _ _ _ _ _ _ _ _ _ _ _ _ _ _ _ _ _ _ _ _ _ _ _ _ _ _ HP.out G4.out
   ·have g3:(no != 0)=true:=by simp [h3]
    by_cases h4:nq=0
    ·have g4:(nq==0)=true:=by simp [h4]
     have HP:Hid (BcQ true (kat=kz/\l1=nlv/\(no≠0->nq≠0))):=BcQ.no fun h=>h.2.2 h3 h4
     clear h1 h2 h3 h4;have T0:=hZq (KP.out _ GD.out);refine wp_region_noPanic ?_;refine wp_region_held_drew (S:=(fun w'=>w'.cell? ⟨X,0,none⟩=some (.iface 161 (.pointer (some ⟨b1,0,none⟩)))/\w'.cell? ⟨X,1,none⟩=some (.int .i64 kat)/\w'.cell? ⟨D,0,none⟩=some (.int .i64 no)/\w'.cell? ⟨D,1,none⟩=some (.int .i64 nlv)/\w'.cell? ⟨D,5,none⟩=some (.slice (some ⟨g,off,none⟩) kn kc)/\w'.cell? ⟨g,off+i,none⟩=some (.int .i64 kz))) (by kernel_rfl) ?_ (fun hHeld=>?_)
     ·exact T0.out
     generalize wr.drew=wd at *;refine wpAnyH_take (i:=0) (oi:=⟨some 82,.fieldAddr 118 (.tmp 12) 1,0, "build.go:122",#[],none⟩) (v:=?_) rfl (by kernel_rfl) (by kernel_rfl) (by kernel_rfl) (fun _ _ _ h=>h) (Or.inl ⟨by rfl,?_⟩) (by assumption) ?_
     rotate_left
     ·intro w hSw;(try dsimp only at hSw);go_simp;(try with_reducible rfl)
     simp only [Act.put,List.setIfInBounds_toArray,List.set_cons_zero,List.set_cons_succ];refine wpAnyH_take (i:=1) (oi:=⟨some 83,.load 3 (.tmp 82),3, "build.go:122",#[⟨0,.data⟩],none⟩) (v:=?_) rfl (by kernel_rfl) (by kernel_rfl) (by kernel_rfl) (fun _ _ _ h=>h) (Or.inl ⟨by rfl,?_⟩) (by assumption) ?_
     rotate_left
     ·intro w hSw;(try dsimp only at hSw);go_simp;(try with_reducible rfl)
     simp only [Act.put,List.setIfInBounds_toArray,List.set_cons_zero,List.set_cons_succ];refine wpAnyH_take (i:=2) (oi:=⟨some 84,.fieldAddr 61 (.tmp 5) 5,0, "build.go:122",#[],none⟩) (v:=?_) rfl (by kernel_rfl) (by kernel_rfl) (by kernel_rfl) (fun _ _ _ h=>h) (Or.inl ⟨by rfl,?_⟩) (by assumption) ?_
     rotate_left
     ·intro w hSw;(try dsimp only at hSw);go_simp;(try with_reducible rfl)
     simp only [Act.put,List.setIfInBounds_toArray,List.set_cons_zero,List.set_cons_succ];refine wpAnyH_take (i:=3) (oi:=⟨some 85,.load 30 (.tmp 84),30, "build.go:122",#[⟨2,.data⟩],none⟩) (v:=?_) rfl (by kernel_rfl) (by kernel_rfl) (by kernel_rfl) (fun _ _ _ h=>h) (Or.inl ⟨by rfl,?_⟩) (by assumption) ?_
     rotate_left
     ·intro w hSw;(try dsimp only at hSw);go_simp;(try with_reducible rfl)
     simp only [Act.put,List.setIfInBounds_toArray,List.set_cons_zero,List.set_cons_succ];refine wpAnyH_take (i:=4) (oi:=⟨some 86,.move (.tmp 11),3, "build.go:122",#[],none⟩) (v:=?_) rfl (by kernel_rfl) (by kernel_rfl) (by kernel_rfl) (fun _ _ _ h=>h) (Or.inl ⟨by rfl,?_⟩) (by assumption) ?_
     rotate_left
     ·intro w hSw;(try dsimp only at hSw);go_simp;(try with_reducible rfl)
     simp only [Act.put,List.setIfInBounds_toArray,List.set_cons_zero,List.set_cons_succ];refine wpAnyH_take (i:=5) (oi:=⟨some 87,.indexAddr 30 (.tmp 85) (.tmp 86),0, "build.go:122",#[⟨3,.data⟩,⟨4,.data⟩],none⟩) (v:=?_) rfl (by kernel_rfl) (by kernel_rfl) (by kernel_rfl) (fun _ _ _ h=>h) (Or.inl ⟨by rfl,?_⟩) (by assumption) ?_
     rotate_left
     ·intro w hSw;(try dsimp only at hSw);go_simp;(try with_reducible rfl)
     simp only [Act.put,List.setIfInBounds_toArray,List.set_cons_zero,List.set_cons_succ];refine wpAnyH_take (i:=6) (oi:=⟨some 88,.load 3 (.tmp 87),3, "build.go:122",#[⟨5,.data⟩],none⟩) (v:=?_) rfl (by kernel_rfl) (by kernel_rfl) (by kernel_rfl) (fun _ _ _ h=>h) (Or.inl ⟨by rfl,?_⟩) (by assumption) ?_
     rotate_left
     ·intro w hSw;(try dsimp only at hSw);go_simp;(try with_reducible rfl)
     simp only [Act.put,List.setIfInBounds_toArray,List.set_cons_zero,List.set_cons_succ];refine wpAnyH_take (i:=7) (oi:=⟨some 89,.binOp .neq 3 (.tmp 83) (.tmp 88) 3,4, "build.go:122",#[⟨1,.data⟩,⟨6,.data⟩],none⟩) (v:=?_) rfl (by kernel_rfl) (by kernel_rfl) (by kernel_rfl) (fun _ _ _ h=>h) (Or.inl ⟨by rfl,?_⟩) (by assumption) ?_
     rotate_left
     ·intro w hSw;(try dsimp only at hSw);go_simp;(try with_reducible rfl)
     simp only [Act.put,List.setIfInBounds_toArray,List.set_cons_zero,List.set_cons_succ];refine wpAnyH_take (i:=8) (oi:=⟨some 90,.move (.tmp 89),4, "build.go:122",#[⟨7,.data⟩],none⟩) (v:=?_) rfl (by kernel_rfl) (by kernel_rfl) (by kernel_rfl) (fun _ _ _ h=>h) (Or.inl ⟨by rfl,?_⟩) (by assumption) ?_
     rotate_left
     ·intro w hSw;(try dsimp only at hSw);go_simp;(try with_reducible rfl)
     simp only [Act.put,List.setIfInBounds_toArray,List.set_cons_zero,List.set_cons_succ];refine wpAnyH_take (i:=9) (oi:=⟨some 91,.fieldAddr 118 (.tmp 12) 0,0, "build.go:122",#[⟨8,.guard⟩],some (8,false)⟩) (v:=?_) rfl (by kernel_rfl) (by kernel_rfl) (by kernel_rfl) (fun _ _ _ h=>h) (Or.inl ⟨by rfl,?_⟩) (by assumption) ?_
     rotate_left
     ·intro w hSw;(try dsimp only at hSw);go_simp;(try with_reducible rfl)
     simp only [Act.put,List.setIfInBounds_toArray,List.set_cons_zero,List.set_cons_succ];refine wpAnyH_take (i:=10) (oi:=⟨some 92,.load 116 (.tmp 91),116, "build.go:122",#[⟨9,.data⟩,⟨8,.guard⟩],some (8,false)⟩) (v:=?_) rfl (by kernel_rfl) (by kernel_rfl) (by kernel_rfl) (fun _ _ _ h=>h) (Or.inl ⟨by rfl,?_⟩) (by assumption) ?_
     rotate_left
     ·intro w hSw;(try dsimp only at hSw);go_simp;(try with_reducible rfl)
     simp only [Act.put,List.setIfInBounds_toArray,List.set_cons_zero,List.set_cons_succ];refine wpAnyH_take (i:=13) (oi:=⟨some 95,.fieldAddr 61 (.tmp 5) 1,0, "build.go:122",#[⟨8,.guard⟩],some (8,false)⟩) (v:=?_) rfl (by kernel_rfl) (by kernel_rfl) (by kernel_rfl) (fun _ _ _ h=>h) (Or.inl ⟨by rfl,?_⟩) (by assumption) ?_
     rotate_left
     ·intro w hSw;(try dsimp only at hSw);go_simp;(try with_reducible rfl)
     simp only [Act.put,List.setIfInBounds_toArray,List.set_cons_zero,List.set_cons_succ];refine wpAnyH_take (i:=14) (oi:=⟨some 96,.load 3 (.tmp 95),3, "build.go:122",#[⟨13,.data⟩,⟨8,.guard⟩],some (8,false)⟩) (v:=?_) rfl (by kernel_rfl) (by kernel_rfl) (by kernel_rfl) (fun _ _ _ h=>h) (Or.inl ⟨by rfl,?_⟩) (by assumption) ?_
     rotate_left
     ·intro w hSw;(try dsimp only at hSw);go_simp;(try with_reducible rfl)
     simp only [Act.put,List.setIfInBounds_toArray,List.set_cons_zero,List.set_cons_succ];refine wpAnyH_ready (rs:=[11]) (by kernel_rfl) (by simp) ?_;refine AllReadyH.cons (o:=⟨some 93,.call { callee:=.invoke (.tmp 92) "coppice/tree.level",args:=#[],argTypes:=#[] },3, "build.go:122",#[⟨10,.data⟩,⟨8,.chain⟩,⟨8,.guard⟩],some (8,false)⟩) rfl (fun K2 hK2=>?_) AllReadyH.nil
     go_simp
     go_at_call 185
     refine (LV.out _ GD.out).mono ?_;rintro en w4 ⟨rfl,hg4⟩;have G4:=hZq (gZq GD.out hg4);have T4:=hZq (KP.out _ G4.out);clear hg4;refine hK2.out _ _ (T4.out) (fun hHeld=>?_);clear hK2 K2;try simp only [Act.put,List.setIfInBounds_toArray,List.set_cons_zero,List.set_cons_succ]
     refine wpAnyH_take (i:=12) (oi:=⟨some 94,.binOp .add 3 (.tmp 93) (.const (.int .i64 1)) 3,3, "build.go:122",#[⟨11,.data⟩,⟨8,.guard⟩],some (8,false)⟩) (v:=?_) rfl (by kernel_rfl) (by kernel_rfl) (by kernel_rfl) (fun _ _ _ h=>h) (Or.inl ⟨by rfl,?_⟩) (by assumption) ?_
     rotate_left
     ·intro w hSw;(try dsimp only at hSw);go_simp;(try with_reducible rfl)
     simp only [Act.put,List.setIfInBounds_toArray,List.set_cons_zero,List.set_cons_succ];refine wpAnyH_take (i:=15) (oi:=⟨some 97,.binOp .neq 3 (.tmp 94) (.tmp 96) 3,4, "build.go:122",#[⟨12,.data⟩,⟨14,.data⟩,⟨8,.guard⟩],some (8,false)⟩) (v:=?_) rfl (by kernel_rfl) (by kernel_rfl) (by kernel_rfl) (fun _ _ _ h=>h) (Or.inl ⟨by rfl,?_⟩) (by assumption) ?_
     rotate_left
     ·intro w hSw;(try dsimp only at hSw);go_simp;(try with_reducible rfl)
     simp only [Act.put,List.setIfInBounds_toArray,List.set_cons_zero,List.set_cons_succ];refine wpAnyH_take (i:=16) (oi:=⟨some 98,.pick (.tmp 90) (.const (.bool true)) (.tmp 97),4, "build.go:122",#[⟨8,.data⟩,⟨15,.data⟩],none⟩) (v:=?_) rfl (by kernel_rfl) (by kernel_rfl) (by kernel_rfl) (fun _ _ _ h=>h) (Or.inl ⟨by rfl,?_⟩) (by assumption) ?_
     rotate_left
     ·intro w hSw;(try dsimp only at hSw);go_simp;(try with_reducible rfl)
     simp only [Act.put,List.setIfInBounds_toArray,List.set_cons_zero,List.set_cons_succ];refine wpAnyH_take (i:=17) (oi:=⟨some 99,.move (.tmp 98),4, "build.go:122",#[⟨16,.data⟩,⟨11,.chain⟩],none⟩) (v:=?_) rfl (by kernel_rfl) (by kernel_rfl) (by kernel_rfl) (fun _ _ _ h=>h) (Or.inl ⟨by rfl,?_⟩) (by assumption) ?_
     rotate_left
     ·intro w hSw;(try dsimp only at hSw);go_simp;(try with_reducible rfl)
     simp only [Act.put,List.setIfInBounds_toArray,List.set_cons_zero,List.set_cons_succ];refine wpAnyH_take (i:=18) (oi:=⟨some 100,.fieldAddr 61 (.tmp 5) 0,0, "build.go:122",#[⟨17,.guard⟩],some (17,false)⟩) (v:=?_) rfl (by kernel_rfl) (by kernel_rfl) (by kernel_rfl) (fun _ _ _ h=>h) (Or.inl ⟨by rfl,?_⟩) (by assumption) ?_
     rotate_left
     ·intro w hSw;(try dsimp only at hSw);go_simp;(try with_reducible rfl)
     simp only [Act.put,List.setIfInBounds_toArray,List.set_cons_zero,List.set_cons_succ];refine wpAnyH_take (i:=19) (oi:=⟨some 101,.load 3 (.tmp 100),3, "build.go:122",#[⟨18,.data⟩,⟨17,.guard⟩],some (17,false)⟩) (v:=?_) rfl (by kernel_rfl) (by kernel_rfl) (by kernel_rfl) (fun _ _ _ h=>h) (Or.inl ⟨by rfl,?_⟩) (by assumption) ?_
     rotate_left
     ·intro w hSw;(try dsimp only at hSw);go_simp;(try with_reducible rfl)
     simp only [Act.put,List.setIfInBounds_toArray,List.set_cons_zero,List.set_cons_succ];refine wpAnyH_take (i:=20) (oi:=⟨some 102,.binOp .neq 3 (.tmp 101) (.const (.int .i64 0)) 3,4, "build.go:122",#[⟨19,.data⟩,⟨17,.guard⟩],some (17,false)⟩) (v:=?_) rfl (by kernel_rfl) (by kernel_rfl) (by kernel_rfl) (fun _ _ _ h=>h) (Or.inl ⟨by rfl,?_⟩) (by assumption) ?_
     rotate_left
     ·intro w hSw;(try dsimp only at hSw);go_simp;(try with_reducible rfl)
     simp only [Act.put,List.setIfInBounds_toArray,List.set_cons_zero,List.set_cons_succ];refine wpAnyH_take (i:=21) (oi:=⟨some 103,.move (.tmp 102),4, "build.go:122",#[⟨20,.data⟩,⟨17,.chain⟩,⟨17,.guard⟩],some (17,false)⟩) (v:=?_) rfl (by kernel_rfl) (by kernel_rfl) (by kernel_rfl) (fun _ _ _ h=>h) (Or.inl ⟨by rfl,?_⟩) (by assumption) ?_
     rotate_left
     ·intro w hSw;(try dsimp only at hSw);go_simp;(try with_reducible rfl)
     simp only [Act.put,List.setIfInBounds_toArray,List.set_cons_zero,List.set_cons_succ];refine wpAnyH_take (i:=22) (oi:=⟨some 104,.fieldAddr 118 (.tmp 12) 0,0, "build.go:122",#[⟨21,.guard⟩],some (21,true)⟩) (v:=?_) rfl (by kernel_rfl) (by kernel_rfl) (by kernel_rfl) (fun _ _ _ h=>h) (Or.inl ⟨by rfl,?_⟩) (by assumption) ?_
     rotate_left
     ·intro w hSw;(try dsimp only at hSw);go_simp;(try with_reducible rfl)
     simp only [Act.put,List.setIfInBounds_toArray,List.set_cons_zero,List.set_cons_succ];refine wpAnyH_take (i:=23) (oi:=⟨some 105,.load 116 (.tmp 104),116, "build.go:122",#[⟨22,.data⟩,⟨21,.guard⟩],some (21,true)⟩) (v:=?_) rfl (by kernel_rfl) (by kernel_rfl) (by kernel_rfl) (fun _ _ _ h=>h) (Or.inl ⟨by rfl,?_⟩) (by assumption) ?_
     rotate_left
     ·intro w hSw;(try dsimp only at hSw);go_simp;(try with_reducible rfl)
     simp only [Act.put,List.setIfInBounds_toArray,List.set_cons_zero,List.set_cons_succ];refine wpAnyH_ready (rs:=[24]) (by kernel_rfl) (by simp) ?_;refine AllReadyH.cons (o:=⟨some 106,.call { callee:=.invoke (.tmp 105) "coppice/tree.number",args:=#[],argTypes:=#[] },3, "build.go:122",#[⟨23,.data⟩,⟨21,.chain⟩,⟨21,.guard⟩],some (21,true)⟩) rfl (fun K2 hK2=>?_) AllReadyH.nil
     go_simp
     go_at_call 186
     refine (NU.out _ G4.out).mono ?_;rintro en w5 ⟨rfl,hw5⟩;rw [hw5];clear hw5;refine hK2.out _ _ (T4.out) (fun hHeld=>?_);clear hK2 K2;try simp only [Act.put,List.setIfInBounds_toArray,List.set_cons_zero,List.set_cons_succ]
     refine wpAnyH_take (i:=25) (oi:=⟨some 107,.binOp .eql 3 (.tmp 106) (.const (.int .i64 0)) 3,4, "build.go:122",#[⟨24,.data⟩,⟨21,.guard⟩],some (21,true)⟩) (v:=?_) rfl (by kernel_rfl) (by kernel_rfl) (by kernel_rfl) (fun _ _ _ h=>h) (Or.inl ⟨by rfl,?_⟩) (by assumption) ?_
     rotate_left
     ·intro w hSw;(try dsimp only at hSw);go_simp;(try with_reducible rfl)
     simp only [Act.put,List.setIfInBounds_toArray,List.set_cons_zero,List.set_cons_succ];refine wpAnyH_take (i:=26) (oi:=⟨some 108,.pick (.tmp 103) (.tmp 107) (.const (.bool false)),4, "build.go:122",#[⟨21,.data⟩,⟨25,.data⟩,⟨17,.guard⟩],some (17,false)⟩) (v:=?_) rfl (by kernel_rfl) (by kernel_rfl) (by kernel_rfl) (fun _ _ _ h=>h) (Or.inl ⟨by rfl,?_⟩) (by assumption) ?_
     rotate_left
     ·intro w hSw;(try dsimp only at hSw);go_simp;(try with_reducible rfl)
     simp only [Act.put,List.setIfInBounds_toArray,List.set_cons_zero,List.set_cons_succ];refine wpAnyH_take (i:=27) (oi:=⟨some 109,.pick (.tmp 99) (.const (.bool true)) (.tmp 108),4, "build.go:122",#[⟨17,.data⟩,⟨26,.data⟩],none⟩) (v:=?_) rfl (by kernel_rfl) (by kernel_rfl) (by kernel_rfl) (fun _ _ _ h=>h) (Or.inl ⟨by rfl,?_⟩) (by assumption) ?_
     rotate_left
     ·intro w hSw;(try dsimp only at hSw);go_simp;(try with_reducible rfl)
     simp only [Act.put,List.setIfInBounds_toArray,List.set_cons_zero,List.set_cons_succ];refine wpAnyH_done (by kernel_rfl) ?_ _;refine NoPanic.normal ?_;exact HK.out _ _ _ _ _ _ _ _ _ _ _ _ _ _ _ _ _ _ _ _ _ _ _ _ _ _ _ _ _ HP.out G4.out
    ·have g4:(nq==0)=false:=by simp [h4]
     have HP:Hid (BcQ false (kat=kz/\l1=nlv/\(no≠0->nq≠0))):=BcQ.yes ⟨h1,h2,fun _=>h4⟩;clear h1 h2 h3 h4;have T0:=hZq (KP.out _ GD.out);refine wp_region_noPanic ?_;refine wp_region_held_drew (S:=(fun w'=>w'.cell? ⟨X,0,none⟩=some (.iface 161 (.pointer (some ⟨b1,0,none⟩)))/\w'.cell? ⟨X,1,none⟩=some (.int .i64 kat)/\w'.cell? ⟨D,0,none⟩=some (.int .i64 no)/\w'.cell? ⟨D,1,none⟩=some (.int .i64 nlv)/\w'.cell? ⟨D,5,none⟩=some (.slice (some ⟨g,off,none⟩) kn kc)/\w'.cell? ⟨g,off+i,none⟩=some (.int .i64 kz))) (by kernel_rfl) ?_ (fun hHeld=>?_)
     ·exact T0.out
     generalize wr.drew=wd at *;refine wpAnyH_take (i:=0) (oi:=⟨some 82,.fieldAddr 118 (.tmp 12) 1,0, "build.go:122",#[],none⟩) (v:=?_) rfl (by kernel_rfl) (by kernel_rfl) (by kernel_rfl) (fun _ _ _ h=>h) (Or.inl ⟨by rfl,?_⟩) (by assumption) ?_
     rotate_left
     ·intro w hSw;(try dsimp only at hSw);go_simp;(try with_reducible rfl)
     simp only [Act.put,List.setIfInBounds_toArray,List.set_cons_zero,List.set_cons_succ];refine wpAnyH_take (i:=1) (oi:=⟨some 83,.load 3 (.tmp 82),3, "build.go:122",#[⟨0,.data⟩],none⟩) (v:=?_) rfl (by kernel_rfl) (by kernel_rfl) (by kernel_rfl) (fun _ _ _ h=>h) (Or.inl ⟨by rfl,?_⟩) (by assumption) ?_
     rotate_left
     ·intro w hSw;(try dsimp only at hSw);go_simp;(try with_reducible rfl)
     simp only [Act.put,List.setIfInBounds_toArray,List.set_cons_zero,List.set_cons_succ];refine wpAnyH_take (i:=2) (oi:=⟨some 84,.fieldAddr 61 (.tmp 5) 5,0, "build.go:122",#[],none⟩) (v:=?_) rfl (by kernel_rfl) (by kernel_rfl) (by kernel_rfl) (fun _ _ _ h=>h) (Or.inl ⟨by rfl,?_⟩) (by assumption) ?_
     rotate_left
     ·intro w hSw;(try dsimp only at hSw);go_simp;(try with_reducible rfl)
     simp only [Act.put,List.setIfInBounds_toArray,List.set_cons_zero,List.set_cons_succ];refine wpAnyH_take (i:=3) (oi:=⟨some 85,.load 30 (.tmp 84),30, "build.go:122",#[⟨2,.data⟩],none⟩) (v:=?_) rfl (by kernel_rfl) (by kernel_rfl) (by kernel_rfl) (fun _ _ _ h=>h) (Or.inl ⟨by rfl,?_⟩) (by assumption) ?_
     rotate_left
     ·intro w hSw;(try dsimp only at hSw);go_simp;(try with_reducible rfl)
     simp only [Act.put,List.setIfInBounds_toArray,List.set_cons_zero,List.set_cons_succ];refine wpAnyH_take (i:=4) (oi:=⟨some 86,.move (.tmp 11),3, "build.go:122",#[],none⟩) (v:=?_) rfl (by kernel_rfl) (by kernel_rfl) (by kernel_rfl) (fun _ _ _ h=>h) (Or.inl ⟨by rfl,?_⟩) (by assumption) ?_
     rotate_left
     ·intro w hSw;(try dsimp only at hSw);go_simp;(try with_reducible rfl)
     simp only [Act.put,List.setIfInBounds_toArray,List.set_cons_zero,List.set_cons_succ];refine wpAnyH_take (i:=5) (oi:=⟨some 87,.indexAddr 30 (.tmp 85) (.tmp 86),0, "build.go:122",#[⟨3,.data⟩,⟨4,.data⟩],none⟩) (v:=?_) rfl (by kernel_rfl) (by kernel_rfl) (by kernel_rfl) (fun _ _ _ h=>h) (Or.inl ⟨by rfl,?_⟩) (by assumption) ?_
     rotate_left
     ·intro w hSw;(try dsimp only at hSw);go_simp;(try with_reducible rfl)
     simp only [Act.put,List.setIfInBounds_toArray,List.set_cons_zero,List.set_cons_succ];refine wpAnyH_take (i:=6) (oi:=⟨some 88,.load 3 (.tmp 87),3, "build.go:122",#[⟨5,.data⟩],none⟩) (v:=?_) rfl (by kernel_rfl) (by kernel_rfl) (by kernel_rfl) (fun _ _ _ h=>h) (Or.inl ⟨by rfl,?_⟩) (by assumption) ?_
     rotate_left
     ·intro w hSw;(try dsimp only at hSw);go_simp;(try with_reducible rfl)
     simp only [Act.put,List.setIfInBounds_toArray,List.set_cons_zero,List.set_cons_succ];refine wpAnyH_take (i:=7) (oi:=⟨some 89,.binOp .neq 3 (.tmp 83) (.tmp 88) 3,4, "build.go:122",#[⟨1,.data⟩,⟨6,.data⟩],none⟩) (v:=?_) rfl (by kernel_rfl) (by kernel_rfl) (by kernel_rfl) (fun _ _ _ h=>h) (Or.inl ⟨by rfl,?_⟩) (by assumption) ?_
     rotate_left
     ·intro w hSw;(try dsimp only at hSw);go_simp;(try with_reducible rfl)
     simp only [Act.put,List.setIfInBounds_toArray,List.set_cons_zero,List.set_cons_succ];refine wpAnyH_take (i:=8) (oi:=⟨some 90,.move (.tmp 89),4, "build.go:122",#[⟨7,.data⟩],none⟩) (v:=?_) rfl (by kernel_rfl) (by kernel_rfl) (by kernel_rfl) (fun _ _ _ h=>h) (Or.inl ⟨by rfl,?_⟩) (by assumption) ?_
     rotate_left
     ·intro w hSw;(try dsimp only at hSw);go_simp;(try with_reducible rfl)
     simp only [Act.put,List.setIfInBounds_toArray,List.set_cons_zero,List.set_cons_succ];refine wpAnyH_take (i:=9) (oi:=⟨some 91,.fieldAddr 118 (.tmp 12) 0,0, "build.go:122",#[⟨8,.guard⟩],some (8,false)⟩) (v:=?_) rfl (by kernel_rfl) (by kernel_rfl) (by kernel_rfl) (fun _ _ _ h=>h) (Or.inl ⟨by rfl,?_⟩) (by assumption) ?_
     rotate_left
     ·intro w hSw;(try dsimp only at hSw);go_simp;(try with_reducible rfl)
     simp only [Act.put,List.setIfInBounds_toArray,List.set_cons_zero,List.set_cons_succ];refine wpAnyH_take (i:=10) (oi:=⟨some 92,.load 116 (.tmp 91),116, "build.go:122",#[⟨9,.data⟩,⟨8,.guard⟩],some (8,false)⟩) (v:=?_) rfl (by kernel_rfl) (by kernel_rfl) (by kernel_rfl) (fun _ _ _ h=>h) (Or.inl ⟨by rfl,?_⟩) (by assumption) ?_
     rotate_left
     ·intro w hSw;(try dsimp only at hSw);go_simp;(try with_reducible rfl)
     simp only [Act.put,List.setIfInBounds_toArray,List.set_cons_zero,List.set_cons_succ];refine wpAnyH_take (i:=13) (oi:=⟨some 95,.fieldAddr 61 (.tmp 5) 1,0, "build.go:122",#[⟨8,.guard⟩],some (8,false)⟩) (v:=?_) rfl (by kernel_rfl) (by kernel_rfl) (by kernel_rfl) (fun _ _ _ h=>h) (Or.inl ⟨by rfl,?_⟩) (by assumption) ?_
     rotate_left
     ·intro w hSw;(try dsimp only at hSw);go_simp;(try with_reducible rfl)
     simp only [Act.put,List.setIfInBounds_toArray,List.set_cons_zero,List.set_cons_succ];refine wpAnyH_take (i:=14) (oi:=⟨some 96,.load 3 (.tmp 95),3, "build.go:122",#[⟨13,.data⟩,⟨8,.guard⟩],some (8,false)⟩) (v:=?_) rfl (by kernel_rfl) (by kernel_rfl) (by kernel_rfl) (fun _ _ _ h=>h) (Or.inl ⟨by rfl,?_⟩) (by assumption) ?_
     rotate_left
     ·intro w hSw;(try dsimp only at hSw);go_simp;(try with_reducible rfl)
     simp only [Act.put,List.setIfInBounds_toArray,List.set_cons_zero,List.set_cons_succ];refine wpAnyH_ready (rs:=[11]) (by kernel_rfl) (by simp) ?_;refine AllReadyH.cons (o:=⟨some 93,.call { callee:=.invoke (.tmp 92) "coppice/tree.level",args:=#[],argTypes:=#[] },3, "build.go:122",#[⟨10,.data⟩,⟨8,.chain⟩,⟨8,.guard⟩],some (8,false)⟩) rfl (fun K2 hK2=>?_) AllReadyH.nil
     go_simp
     go_at_call 185
     refine (LV.out _ GD.out).mono ?_;rintro en w4 ⟨rfl,hg4⟩;have G4:=hZq (gZq GD.out hg4);have T4:=hZq (KP.out _ G4.out);clear hg4;refine hK2.out _ _ (T4.out) (fun hHeld=>?_);clear hK2 K2;try simp only [Act.put,List.setIfInBounds_toArray,List.set_cons_zero,List.set_cons_succ]
     refine wpAnyH_take (i:=12) (oi:=⟨some 94,.binOp .add 3 (.tmp 93) (.const (.int .i64 1)) 3,3, "build.go:122",#[⟨11,.data⟩,⟨8,.guard⟩],some (8,false)⟩) (v:=?_) rfl (by kernel_rfl) (by kernel_rfl) (by kernel_rfl) (fun _ _ _ h=>h) (Or.inl ⟨by rfl,?_⟩) (by assumption) ?_
     rotate_left
     ·intro w hSw;(try dsimp only at hSw);go_simp;(try with_reducible rfl)
     simp only [Act.put,List.setIfInBounds_toArray,List.set_cons_zero,List.set_cons_succ];refine wpAnyH_take (i:=15) (oi:=⟨some 97,.binOp .neq 3 (.tmp 94) (.tmp 96) 3,4, "build.go:122",#[⟨12,.data⟩,⟨14,.data⟩,⟨8,.guard⟩],some (8,false)⟩) (v:=?_) rfl (by kernel_rfl) (by kernel_rfl) (by kernel_rfl) (fun _ _ _ h=>h) (Or.inl ⟨by rfl,?_⟩) (by assumption) ?_
     rotate_left
     ·intro w hSw;(try dsimp only at hSw);go_simp;(try with_reducible rfl)
     simp only [Act.put,List.setIfInBounds_toArray,List.set_cons_zero,List.set_cons_succ];refine wpAnyH_take (i:=16) (oi:=⟨some 98,.pick (.tmp 90) (.const (.bool true)) (.tmp 97),4, "build.go:122",#[⟨8,.data⟩,⟨15,.data⟩],none⟩) (v:=?_) rfl (by kernel_rfl) (by kernel_rfl) (by kernel_rfl) (fun _ _ _ h=>h) (Or.inl ⟨by rfl,?_⟩) (by assumption) ?_
     rotate_left
     ·intro w hSw;(try dsimp only at hSw);go_simp;(try with_reducible rfl)
     simp only [Act.put,List.setIfInBounds_toArray,List.set_cons_zero,List.set_cons_succ];refine wpAnyH_take (i:=17) (oi:=⟨some 99,.move (.tmp 98),4, "build.go:122",#[⟨16,.data⟩,⟨11,.chain⟩],none⟩) (v:=?_) rfl (by kernel_rfl) (by kernel_rfl) (by kernel_rfl) (fun _ _ _ h=>h) (Or.inl ⟨by rfl,?_⟩) (by assumption) ?_
     rotate_left
     ·intro w hSw;(try dsimp only at hSw);go_simp;(try with_reducible rfl)
     simp only [Act.put,List.setIfInBounds_toArray,List.set_cons_zero,List.set_cons_succ];refine wpAnyH_take (i:=18) (oi:=⟨some 100,.fieldAddr 61 (.tmp 5) 0,0, "build.go:122",#[⟨17,.guard⟩],some (17,false)⟩) (v:=?_) rfl (by kernel_rfl) (by kernel_rfl) (by kernel_rfl) (fun _ _ _ h=>h) (Or.inl ⟨by rfl,?_⟩) (by assumption) ?_
     rotate_left
     ·intro w hSw;(try dsimp only at hSw);go_simp;(try with_reducible rfl)
     simp only [Act.put,List.setIfInBounds_toArray,List.set_cons_zero,List.set_cons_succ];refine wpAnyH_take (i:=19) (oi:=⟨some 101,.load 3 (.tmp 100),3, "build.go:122",#[⟨18,.data⟩,⟨17,.guard⟩],some (17,false)⟩) (v:=?_) rfl (by kernel_rfl) (by kernel_rfl) (by kernel_rfl) (fun _ _ _ h=>h) (Or.inl ⟨by rfl,?_⟩) (by assumption) ?_
     rotate_left
     ·intro w hSw;(try dsimp only at hSw);go_simp;(try with_reducible rfl)
     simp only [Act.put,List.setIfInBounds_toArray,List.set_cons_zero,List.set_cons_succ];refine wpAnyH_take (i:=20) (oi:=⟨some 102,.binOp .neq 3 (.tmp 101) (.const (.int .i64 0)) 3,4, "build.go:122",#[⟨19,.data⟩,⟨17,.guard⟩],some (17,false)⟩) (v:=?_) rfl (by kernel_rfl) (by kernel_rfl) (by kernel_rfl) (fun _ _ _ h=>h) (Or.inl ⟨by rfl,?_⟩) (by assumption) ?_
     rotate_left
     ·intro w hSw;(try dsimp only at hSw);go_simp;(try with_reducible rfl)
     simp only [Act.put,List.setIfInBounds_toArray,List.set_cons_zero,List.set_cons_succ];refine wpAnyH_take (i:=21) (oi:=⟨some 103,.move (.tmp 102),4, "build.go:122",#[⟨20,.data⟩,⟨17,.chain⟩,⟨17,.guard⟩],some (17,false)⟩) (v:=?_) rfl (by kernel_rfl) (by kernel_rfl) (by kernel_rfl) (fun _ _ _ h=>h) (Or.inl ⟨by rfl,?_⟩) (by assumption) ?_
     rotate_left
     ·intro w hSw;(try dsimp only at hSw);go_simp;(try with_reducible rfl)
     simp only [Act.put,List.setIfInBounds_toArray,List.set_cons_zero,List.set_cons_succ];refine wpAnyH_take (i:=22) (oi:=⟨some 104,.fieldAddr 118 (.tmp 12) 0,0, "build.go:122",#[⟨21,.guard⟩],some (21,true)⟩) (v:=?_) rfl (by kernel_rfl) (by kernel_rfl) (by kernel_rfl) (fun _ _ _ h=>h) (Or.inl ⟨by rfl,?_⟩) (by assumption) ?_
     rotate_left
     ·intro w hSw;(try dsimp only at hSw);go_simp;(try with_reducible rfl)
     simp only [Act.put,List.setIfInBounds_toArray,List.set_cons_zero,List.set_cons_succ];refine wpAnyH_take (i:=23) (oi:=⟨some 105,.load 116 (.tmp 104),116, "build.go:122",#[⟨22,.data⟩,⟨21,.guard⟩],some (21,true)⟩) (v:=?_) rfl (by kernel_rfl) (by kernel_rfl) (by kernel_rfl) (fun _ _ _ h=>h) (Or.inl ⟨by rfl,?_⟩) (by assumption) ?_
     rotate_left
     ·intro w hSw;(try dsimp only at hSw);go_simp;(try with_reducible rfl)
     simp only [Act.put,List.setIfInBounds_toArray,List.set_cons_zero,List.set_cons_succ];refine wpAnyH_ready (rs:=[24]) (by kernel_rfl) (by simp) ?_;refine AllReadyH.cons (o:=⟨some 106,.call { callee:=.invoke (.tmp 105) "coppice/tree.number",args:=#[],argTypes:=#[] },3, "build.go:122",#[⟨23,.data⟩,⟨21,.chain⟩,⟨21,.guard⟩],some (21,true)⟩) rfl (fun K2 hK2=>?_) AllReadyH.nil
     go_simp
     go_at_call 186
     refine (NU.out _ G4.out).mono ?_;rintro en w5 ⟨rfl,hw5⟩;rw [hw5];clear hw5;refine hK2.out _ _ (T4.out) (fun hHeld=>?_);clear hK2 K2;try simp only [Act.put,List.setIfInBounds_toArray,List.set_cons_zero,List.set_cons_succ]
     refine wpAnyH_take (i:=25) (oi:=⟨some 107,.binOp .eql 3 (.tmp 106) (.const (.int .i64 0)) 3,4, "build.go:122",#[⟨24,.data⟩,⟨21,.guard⟩],some (21,true)⟩) (v:=?_) rfl (by kernel_rfl) (by kernel_rfl) (by kernel_rfl) (fun _ _ _ h=>h) (Or.inl ⟨by rfl,?_⟩) (by assumption) ?_
     rotate_left
     ·intro w hSw;(try dsimp only at hSw);go_simp;(try with_reducible rfl)
     simp only [Act.put,List.setIfInBounds_toArray,List.set_cons_zero,List.set_cons_succ];refine wpAnyH_take (i:=26) (oi:=⟨some 108,.pick (.tmp 103) (.tmp 107) (.const (.bool false)),4, "build.go:122",#[⟨21,.data⟩,⟨25,.data⟩,⟨17,.guard⟩],some (17,false)⟩) (v:=?_) rfl (by kernel_rfl) (by kernel_rfl) (by kernel_rfl) (fun _ _ _ h=>h) (Or.inl ⟨by rfl,?_⟩) (by assumption) ?_
     rotate_left
     ·intro w hSw;(try dsimp only at hSw);go_simp;(try with_reducible rfl)
     simp only [Act.put,List.setIfInBounds_toArray,List.set_cons_zero,List.set_cons_succ];refine wpAnyH_take (i:=27) (oi:=⟨some 109,.pick (.tmp 99) (.const (.bool true)) (.tmp 108),4, "build.go:122",#[⟨17,.data⟩,⟨26,.data⟩],none⟩) (v:=?_) rfl (by kernel_rfl) (by kernel_rfl) (by kernel_rfl) (fun _ _ _ h=>h) (Or.inl ⟨by rfl,?_⟩) (by assumption) ?_
     rotate_left
     ·intro w hSw;(try dsimp only at hSw);go_simp;(try with_reducible rfl)
     simp only [Act.put,List.setIfInBounds_toArray,List.set_cons_zero,List.set_cons_succ];refine wpAnyH_done (by kernel_rfl) ?_ _;refine NoPanic.normal ?_;exact HK.out _ _ _ _ _ _ _ _ _ _ _ _ _ _ _ _ _ _ _ _ _ _ _ _ _ _ _ _ _ HP.out G4.out
  ·have g2:(l1 != nlv)=true:=by simp [h2]
   have HP:Hid (BcQ true (kat=kz/\l1=nlv/\(no≠0->nq≠0))):=BcQ.no fun h=>h2 h.2.1
   clear h1 h2;have T0:=hZq (KP.out _ GD.out);refine wp_region_noPanic ?_;refine wp_region_held_drew (S:=(fun w'=>w'.cell? ⟨X,0,none⟩=some (.iface 161 (.pointer (some ⟨b1,0,none⟩)))/\w'.cell? ⟨X,1,none⟩=some (.int .i64 kat)/\w'.cell? ⟨D,0,none⟩=some (.int .i64 no)/\w'.cell? ⟨D,1,none⟩=some (.int .i64 nlv)/\w'.cell? ⟨D,5,none⟩=some (.slice (some ⟨g,off,none⟩) kn kc)/\w'.cell? ⟨g,off+i,none⟩=some (.int .i64 kz))) (by kernel_rfl) ?_ (fun hHeld=>?_)
   ·exact T0.out
   generalize wr.drew=wd at *;refine wpAnyH_take (i:=0) (oi:=⟨some 82,.fieldAddr 118 (.tmp 12) 1,0, "build.go:122",#[],none⟩) (v:=?_) rfl (by kernel_rfl) (by kernel_rfl) (by kernel_rfl) (fun _ _ _ h=>h) (Or.inl ⟨by rfl,?_⟩) (by assumption) ?_
   rotate_left
   ·intro w hSw;(try dsimp only at hSw);go_simp;(try with_reducible rfl)
   simp only [Act.put,List.setIfInBounds_toArray,List.set_cons_zero,List.set_cons_succ];refine wpAnyH_take (i:=1) (oi:=⟨some 83,.load 3 (.tmp 82),3, "build.go:122",#[⟨0,.data⟩],none⟩) (v:=?_) rfl (by kernel_rfl) (by kernel_rfl) (by kernel_rfl) (fun _ _ _ h=>h) (Or.inl ⟨by rfl,?_⟩) (by assumption) ?_
   rotate_left
   ·intro w hSw;(try dsimp only at hSw);go_simp;(try with_reducible rfl)
   simp only [Act.put,List.setIfInBounds_toArray,List.set_cons_zero,List.set_cons_succ];refine wpAnyH_take (i:=2) (oi:=⟨some 84,.fieldAddr 61 (.tmp 5) 5,0, "build.go:122",#[],none⟩) (v:=?_) rfl (by kernel_rfl) (by kernel_rfl) (by kernel_rfl) (fun _ _ _ h=>h) (Or.inl ⟨by rfl,?_⟩) (by assumption) ?_
   rotate_left
   ·intro w hSw;(try dsimp only at hSw);go_simp;(try with_reducible rfl)
   simp only [Act.put,List.setIfInBounds_toArray,List.set_cons_zero,List.set_cons_succ];refine wpAnyH_take (i:=3) (oi:=⟨some 85,.load 30 (.tmp 84),30, "build.go:122",#[⟨2,.data⟩],none⟩) (v:=?_) rfl (by kernel_rfl) (by kernel_rfl) (by kernel_rfl) (fun _ _ _ h=>h) (Or.inl ⟨by rfl,?_⟩) (by assumption) ?_
   rotate_left
   ·intro w hSw;(try dsimp only at hSw);go_simp;(try with_reducible rfl)
   simp only [Act.put,List.setIfInBounds_toArray,List.set_cons_zero,List.set_cons_succ];refine wpAnyH_take (i:=4) (oi:=⟨some 86,.move (.tmp 11),3, "build.go:122",#[],none⟩) (v:=?_) rfl (by kernel_rfl) (by kernel_rfl) (by kernel_rfl) (fun _ _ _ h=>h) (Or.inl ⟨by rfl,?_⟩) (by assumption) ?_
   rotate_left
   ·intro w hSw;(try dsimp only at hSw);go_simp;(try with_reducible rfl)
   simp only [Act.put,List.setIfInBounds_toArray,List.set_cons_zero,List.set_cons_succ];refine wpAnyH_take (i:=5) (oi:=⟨some 87,.indexAddr 30 (.tmp 85) (.tmp 86),0, "build.go:122",#[⟨3,.data⟩,⟨4,.data⟩],none⟩) (v:=?_) rfl (by kernel_rfl) (by kernel_rfl) (by kernel_rfl) (fun _ _ _ h=>h) (Or.inl ⟨by rfl,?_⟩) (by assumption) ?_
   rotate_left
   ·intro w hSw;(try dsimp only at hSw);go_simp;(try with_reducible rfl)
   simp only [Act.put,List.setIfInBounds_toArray,List.set_cons_zero,List.set_cons_succ];refine wpAnyH_take (i:=6) (oi:=⟨some 88,.load 3 (.tmp 87),3, "build.go:122",#[⟨5,.data⟩],none⟩) (v:=?_) rfl (by kernel_rfl) (by kernel_rfl) (by kernel_rfl) (fun _ _ _ h=>h) (Or.inl ⟨by rfl,?_⟩) (by assumption) ?_
   rotate_left
   ·intro w hSw;(try dsimp only at hSw);go_simp;(try with_reducible rfl)
   simp only [Act.put,List.setIfInBounds_toArray,List.set_cons_zero,List.set_cons_succ];refine wpAnyH_take (i:=7) (oi:=⟨some 89,.binOp .neq 3 (.tmp 83) (.tmp 88) 3,4, "build.go:122",#[⟨1,.data⟩,⟨6,.data⟩],none⟩) (v:=?_) rfl (by kernel_rfl) (by kernel_rfl) (by kernel_rfl) (fun _ _ _ h=>h) (Or.inl ⟨by rfl,?_⟩) (by assumption) ?_
   rotate_left
   ·intro w hSw;(try dsimp only at hSw);go_simp;(try with_reducible rfl)
   simp only [Act.put,List.setIfInBounds_toArray,List.set_cons_zero,List.set_cons_succ];refine wpAnyH_take (i:=8) (oi:=⟨some 90,.move (.tmp 89),4, "build.go:122",#[⟨7,.data⟩],none⟩) (v:=?_) rfl (by kernel_rfl) (by kernel_rfl) (by kernel_rfl) (fun _ _ _ h=>h) (Or.inl ⟨by rfl,?_⟩) (by assumption) ?_
   rotate_left
   ·intro w hSw;(try dsimp only at hSw);go_simp;(try with_reducible rfl)
   simp only [Act.put,List.setIfInBounds_toArray,List.set_cons_zero,List.set_cons_succ];refine wpAnyH_take (i:=9) (oi:=⟨some 91,.fieldAddr 118 (.tmp 12) 0,0, "build.go:122",#[⟨8,.guard⟩],some (8,false)⟩) (v:=?_) rfl (by kernel_rfl) (by kernel_rfl) (by kernel_rfl) (fun _ _ _ h=>h) (Or.inl ⟨by rfl,?_⟩) (by assumption) ?_
   rotate_left
   ·intro w hSw;(try dsimp only at hSw);go_simp;(try with_reducible rfl)
   simp only [Act.put,List.setIfInBounds_toArray,List.set_cons_zero,List.set_cons_succ];refine wpAnyH_take (i:=10) (oi:=⟨some 92,.load 116 (.tmp 91),116, "build.go:122",#[⟨9,.data⟩,⟨8,.guard⟩],some (8,false)⟩) (v:=?_) rfl (by kernel_rfl) (by kernel_rfl) (by kernel_rfl) (fun _ _ _ h=>h) (Or.inl ⟨by rfl,?_⟩) (by assumption) ?_
   rotate_left
   ·intro w hSw;(try dsimp only at hSw);go_simp;(try with_reducible rfl)
   simp only [Act.put,List.setIfInBounds_toArray,List.set_cons_zero,List.set_cons_succ];refine wpAnyH_take (i:=13) (oi:=⟨some 95,.fieldAddr 61 (.tmp 5) 1,0, "build.go:122",#[⟨8,.guard⟩],some (8,false)⟩) (v:=?_) rfl (by kernel_rfl) (by kernel_rfl) (by kernel_rfl) (fun _ _ _ h=>h) (Or.inl ⟨by rfl,?_⟩) (by assumption) ?_
   rotate_left
   ·intro w hSw;(try dsimp only at hSw);go_simp;(try with_reducible rfl)
   simp only [Act.put,List.setIfInBounds_toArray,List.set_cons_zero,List.set_cons_succ];refine wpAnyH_take (i:=14) (oi:=⟨some 96,.load 3 (.tmp 95),3, "build.go:122",#[⟨13,.data⟩,⟨8,.guard⟩],some (8,false)⟩) (v:=?_) rfl (by kernel_rfl) (by kernel_rfl) (by kernel_rfl) (fun _ _ _ h=>h) (Or.inl ⟨by rfl,?_⟩) (by assumption) ?_
   rotate_left
   ·intro w hSw;(try dsimp only at hSw);go_simp;(try with_reducible rfl)
   simp only [Act.put,List.setIfInBounds_toArray,List.set_cons_zero,List.set_cons_succ];refine wpAnyH_ready (rs:=[11]) (by kernel_rfl) (by simp) ?_;refine AllReadyH.cons (o:=⟨some 93,.call { callee:=.invoke (.tmp 92) "coppice/tree.level",args:=#[],argTypes:=#[] },3, "build.go:122",#[⟨10,.data⟩,⟨8,.chain⟩,⟨8,.guard⟩],some (8,false)⟩) rfl (fun K2 hK2=>?_) AllReadyH.nil
   go_simp
   go_at_call 185
   refine (LV.out _ GD.out).mono ?_;rintro en w4 ⟨rfl,hg4⟩;have G4:=hZq (gZq GD.out hg4);have T4:=hZq (KP.out _ G4.out);clear hg4;refine hK2.out _ _ (T4.out) (fun hHeld=>?_);clear hK2 K2;try simp only [Act.put,List.setIfInBounds_toArray,List.set_cons_zero,List.set_cons_succ]
   refine wpAnyH_take (i:=12) (oi:=⟨some 94,.binOp .add 3 (.tmp 93) (.const (.int .i64 1)) 3,3, "build.go:122",#[⟨11,.data⟩,⟨8,.guard⟩],some (8,false)⟩) (v:=?_) rfl (by kernel_rfl) (by kernel_rfl) (by kernel_rfl) (fun _ _ _ h=>h) (Or.inl ⟨by rfl,?_⟩) (by assumption) ?_
   rotate_left
   ·intro w hSw;(try dsimp only at hSw);go_simp;(try with_reducible rfl)
   simp only [Act.put,List.setIfInBounds_toArray,List.set_cons_zero,List.set_cons_succ];refine wpAnyH_take (i:=15) (oi:=⟨some 97,.binOp .neq 3 (.tmp 94) (.tmp 96) 3,4, "build.go:122",#[⟨12,.data⟩,⟨14,.data⟩,⟨8,.guard⟩],some (8,false)⟩) (v:=?_) rfl (by kernel_rfl) (by kernel_rfl) (by kernel_rfl) (fun _ _ _ h=>h) (Or.inl ⟨by rfl,?_⟩) (by assumption) ?_
   rotate_left
   ·intro w hSw;(try dsimp only at hSw);go_simp;(try with_reducible rfl)
   simp only [Act.put,List.setIfInBounds_toArray,List.set_cons_zero,List.set_cons_succ];refine wpAnyH_take (i:=16) (oi:=⟨some 98,.pick (.tmp 90) (.const (.bool true)) (.tmp 97),4, "build.go:122",#[⟨8,.data⟩,⟨15,.data⟩],none⟩) (v:=?_) rfl (by kernel_rfl) (by kernel_rfl) (by kernel_rfl) (fun _ _ _ h=>h) (Or.inl ⟨by rfl,?_⟩) (by assumption) ?_
   rotate_left
   ·intro w hSw;(try dsimp only at hSw);go_simp;(try with_reducible rfl)
   simp only [Act.put,List.setIfInBounds_toArray,List.set_cons_zero,List.set_cons_succ];refine wpAnyH_take (i:=17) (oi:=⟨some 99,.move (.tmp 98),4, "build.go:122",#[⟨16,.data⟩,⟨11,.chain⟩],none⟩) (v:=?_) rfl (by kernel_rfl) (by kernel_rfl) (by kernel_rfl) (fun _ _ _ h=>h) (Or.inl ⟨by rfl,?_⟩) (by assumption) ?_
   rotate_left
   ·intro w hSw;(try dsimp only at hSw);go_simp;(try with_reducible rfl)
   simp only [Act.put,List.setIfInBounds_toArray,List.set_cons_zero,List.set_cons_succ];refine wpAnyH_take (i:=18) (oi:=⟨some 100,.fieldAddr 61 (.tmp 5) 0,0, "build.go:122",#[⟨17,.guard⟩],some (17,false)⟩) (v:=undef) rfl (by kernel_rfl) (by kernel_rfl) (by kernel_rfl) (fun _ _ _ h=>h) (Or.inr ⟨by rfl,rfl⟩) (by assumption) ?_;simp only [Act.put,List.setIfInBounds_toArray,List.set_cons_zero,List.set_cons_succ];refine wpAnyH_take (i:=19) (oi:=⟨some 101,.load 3 (.tmp 100),3, "build.go:122",#[⟨18,.data⟩,⟨17,.guard⟩],some (17,false)⟩) (v:=undef) rfl (by kernel_rfl) (by kernel_rfl) (by kernel_rfl) (fun _ _ _ h=>h) (Or.inr ⟨by rfl,rfl⟩) (by assumption) ?_;simp only [Act.put,List.setIfInBounds_toArray,List.set_cons_zero,List.set_cons_succ];refine wpAnyH_take (i:=20) (oi:=⟨some 102,.binOp .neq 3 (.tmp 101) (.const (.int .i64 0)) 3,4, "build.go:122",#[⟨19,.data⟩,⟨17,.guard⟩],some (17,false)⟩) (v:=undef) rfl (by kernel_rfl) (by kernel_rfl) (by kernel_rfl) (fun _ _ _ h=>h) (Or.inr ⟨by rfl,rfl⟩) (by assumption) ?_;simp only [Act.put,List.setIfInBounds_toArray,List.set_cons_zero,List.set_cons_succ];refine wpAnyH_take (i:=21) (oi:=⟨some 103,.move (.tmp 102),4, "build.go:122",#[⟨20,.data⟩,⟨17,.chain⟩,⟨17,.guard⟩],some (17,false)⟩) (v:=undef) rfl (by kernel_rfl) (by kernel_rfl) (by kernel_rfl) (fun _ _ _ h=>h) (Or.inr ⟨by rfl,rfl⟩) (by assumption) ?_;simp only [Act.put,List.setIfInBounds_toArray,List.set_cons_zero,List.set_cons_succ];refine wpAnyH_take (i:=22) (oi:=⟨some 104,.fieldAddr 118 (.tmp 12) 0,0, "build.go:122",#[⟨21,.guard⟩],some (21,true)⟩) (v:=undef) rfl (by kernel_rfl) (by kernel_rfl) (by kernel_rfl) (fun _ _ _ h=>h) (Or.inr ⟨by rfl,rfl⟩) (by assumption) ?_;simp only [Act.put,List.setIfInBounds_toArray,List.set_cons_zero,List.set_cons_succ];refine wpAnyH_take (i:=23) (oi:=⟨some 105,.load 116 (.tmp 104),116, "build.go:122",#[⟨22,.data⟩,⟨21,.guard⟩],some (21,true)⟩) (v:=undef) rfl (by kernel_rfl) (by kernel_rfl) (by kernel_rfl) (fun _ _ _ h=>h) (Or.inr ⟨by rfl,rfl⟩) (by assumption) ?_;simp only [Act.put,List.setIfInBounds_toArray,List.set_cons_zero,List.set_cons_succ];refine wpAnyH_take (i:=24) (oi:=⟨some 106,.call { callee:=.invoke (.tmp 105) "coppice/tree.number",args:=#[],argTypes:=#[] },3, "build.go:122",#[⟨23,.data⟩,⟨21,.chain⟩,⟨21,.guard⟩],some (21,true)⟩) (v:=undef) rfl (by kernel_rfl) (by kernel_rfl) (by kernel_rfl) (fun _ _ _ h=>h) (Or.inr ⟨by rfl,rfl⟩) (by assumption) ?_;simp only [Act.put,List.setIfInBounds_toArray,List.set_cons_zero,List.set_cons_succ];refine wpAnyH_take (i:=25) (oi:=⟨some 107,.binOp .eql 3 (.tmp 106) (.const (.int .i64 0)) 3,4, "build.go:122",#[⟨24,.data⟩,⟨21,.guard⟩],some (21,true)⟩) (v:=undef) rfl (by kernel_rfl) (by kernel_rfl) (by kernel_rfl) (fun _ _ _ h=>h) (Or.inr ⟨by rfl,rfl⟩) (by assumption) ?_;simp only [Act.put,List.setIfInBounds_toArray,List.set_cons_zero,List.set_cons_succ];refine wpAnyH_take (i:=26) (oi:=⟨some 108,.pick (.tmp 103) (.tmp 107) (.const (.bool false)),4, "build.go:122",#[⟨21,.data⟩,⟨25,.data⟩,⟨17,.guard⟩],some (17,false)⟩) (v:=undef) rfl (by kernel_rfl) (by kernel_rfl) (by kernel_rfl) (fun _ _ _ h=>h) (Or.inr ⟨by rfl,rfl⟩) (by assumption) ?_;simp only [Act.put,List.setIfInBounds_toArray,List.set_cons_zero,List.set_cons_succ];refine wpAnyH_take (i:=27) (oi:=⟨some 109,.pick (.tmp 99) (.const (.bool true)) (.tmp 108),4, "build.go:122",#[⟨17,.data⟩,⟨26,.data⟩],none⟩) (v:=?_) rfl (by kernel_rfl) (by kernel_rfl) (by kernel_rfl) (fun _ _ _ h=>h) (Or.inl ⟨by rfl,?_⟩) (by assumption) ?_
   rotate_left
   ·intro w hSw;(try dsimp only at hSw);go_simp;(try with_reducible rfl)
   simp only [Act.put,List.setIfInBounds_toArray,List.set_cons_zero,List.set_cons_succ];refine wpAnyH_done (by kernel_rfl) ?_ _;refine NoPanic.normal ?_;exact HK.out _ _ _ _ _ _ _ _ _ _ _ _ _ _ _ _ _ _ _ _ _ _ _ _ _ _ _ _ _ HP.out G4.out
 ·have g1:(kat != kz)=true:=by simp [h1]
  have HP:Hid (BcQ true (kat=kz/\l1=nlv/\(no≠0->nq≠0))):=BcQ.no fun h=>h1 h.1
  clear h1;have T0:=hZq (KP.out _ GD.out);refine wp_region_noPanic ?_;refine wp_region_held_drew (S:=(fun w'=>w'.cell? ⟨X,0,none⟩=some (.iface 161 (.pointer (some ⟨b1,0,none⟩)))/\w'.cell? ⟨X,1,none⟩=some (.int .i64 kat)/\w'.cell? ⟨D,0,none⟩=some (.int .i64 no)/\w'.cell? ⟨D,1,none⟩=some (.int .i64 nlv)/\w'.cell? ⟨D,5,none⟩=some (.slice (some ⟨g,off,none⟩) kn kc)/\w'.cell? ⟨g,off+i,none⟩=some (.int .i64 kz))) (by kernel_rfl) ?_ (fun hHeld=>?_)
  ·exact T0.out
  generalize wr.drew=wd at *;refine wpAnyH_take (i:=0) (oi:=⟨some 82,.fieldAddr 118 (.tmp 12) 1,0, "build.go:122",#[],none⟩) (v:=?_) rfl (by kernel_rfl) (by kernel_rfl) (by kernel_rfl) (fun _ _ _ h=>h) (Or.inl ⟨by rfl,?_⟩) (by assumption) ?_
  rotate_left
  ·intro w hSw;(try dsimp only at hSw);go_simp;(try with_reducible rfl)
  simp only [Act.put,List.setIfInBounds_toArray,List.set_cons_zero,List.set_cons_succ];refine wpAnyH_take (i:=1) (oi:=⟨some 83,.load 3 (.tmp 82),3, "build.go:122",#[⟨0,.data⟩],none⟩) (v:=?_) rfl (by kernel_rfl) (by kernel_rfl) (by kernel_rfl) (fun _ _ _ h=>h) (Or.inl ⟨by rfl,?_⟩) (by assumption) ?_
  rotate_left
  ·intro w hSw;(try dsimp only at hSw);go_simp;(try with_reducible rfl)
  simp only [Act.put,List.setIfInBounds_toArray,List.set_cons_zero,List.set_cons_succ];refine wpAnyH_take (i:=2) (oi:=⟨some 84,.fieldAddr 61 (.tmp 5) 5,0, "build.go:122",#[],none⟩) (v:=?_) rfl (by kernel_rfl) (by kernel_rfl) (by kernel_rfl) (fun _ _ _ h=>h) (Or.inl ⟨by rfl,?_⟩) (by assumption) ?_
  rotate_left
  ·intro w hSw;(try dsimp only at hSw);go_simp;(try with_reducible rfl)
  simp only [Act.put,List.setIfInBounds_toArray,List.set_cons_zero,List.set_cons_succ];refine wpAnyH_take (i:=3) (oi:=⟨some 85,.load 30 (.tmp 84),30, "build.go:122",#[⟨2,.data⟩],none⟩) (v:=?_) rfl (by kernel_rfl) (by kernel_rfl) (by kernel_rfl) (fun _ _ _ h=>h) (Or.inl ⟨by rfl,?_⟩) (by assumption) ?_
  rotate_left
  ·intro w hSw;(try dsimp only at hSw);go_simp;(try with_reducible rfl)
  simp only [Act.put,List.setIfInBounds_toArray,List.set_cons_zero,List.set_cons_succ];refine wpAnyH_take (i:=4) (oi:=⟨some 86,.move (.tmp 11),3, "build.go:122",#[],none⟩) (v:=?_) rfl (by kernel_rfl) (by kernel_rfl) (by kernel_rfl) (fun _ _ _ h=>h) (Or.inl ⟨by rfl,?_⟩) (by assumption) ?_
  rotate_left
  ·intro w hSw;(try dsimp only at hSw);go_simp;(try with_reducible rfl)
  simp only [Act.put,List.setIfInBounds_toArray,List.set_cons_zero,List.set_cons_succ];refine wpAnyH_take (i:=5) (oi:=⟨some 87,.indexAddr 30 (.tmp 85) (.tmp 86),0, "build.go:122",#[⟨3,.data⟩,⟨4,.data⟩],none⟩) (v:=?_) rfl (by kernel_rfl) (by kernel_rfl) (by kernel_rfl) (fun _ _ _ h=>h) (Or.inl ⟨by rfl,?_⟩) (by assumption) ?_
  rotate_left
  ·intro w hSw;(try dsimp only at hSw);go_simp;(try with_reducible rfl)
  simp only [Act.put,List.setIfInBounds_toArray,List.set_cons_zero,List.set_cons_succ];refine wpAnyH_take (i:=6) (oi:=⟨some 88,.load 3 (.tmp 87),3, "build.go:122",#[⟨5,.data⟩],none⟩) (v:=?_) rfl (by kernel_rfl) (by kernel_rfl) (by kernel_rfl) (fun _ _ _ h=>h) (Or.inl ⟨by rfl,?_⟩) (by assumption) ?_
  rotate_left
  ·intro w hSw;(try dsimp only at hSw);go_simp;(try with_reducible rfl)
  simp only [Act.put,List.setIfInBounds_toArray,List.set_cons_zero,List.set_cons_succ];refine wpAnyH_take (i:=7) (oi:=⟨some 89,.binOp .neq 3 (.tmp 83) (.tmp 88) 3,4, "build.go:122",#[⟨1,.data⟩,⟨6,.data⟩],none⟩) (v:=?_) rfl (by kernel_rfl) (by kernel_rfl) (by kernel_rfl) (fun _ _ _ h=>h) (Or.inl ⟨by rfl,?_⟩) (by assumption) ?_
  rotate_left
  ·intro w hSw;(try dsimp only at hSw);go_simp;(try with_reducible rfl)
  simp only [Act.put,List.setIfInBounds_toArray,List.set_cons_zero,List.set_cons_succ];refine wpAnyH_take (i:=8) (oi:=⟨some 90,.move (.tmp 89),4, "build.go:122",#[⟨7,.data⟩],none⟩) (v:=?_) rfl (by kernel_rfl) (by kernel_rfl) (by kernel_rfl) (fun _ _ _ h=>h) (Or.inl ⟨by rfl,?_⟩) (by assumption) ?_
  rotate_left
  ·intro w hSw;(try dsimp only at hSw);go_simp;(try with_reducible rfl)
  simp only [Act.put,List.setIfInBounds_toArray,List.set_cons_zero,List.set_cons_succ];refine wpAnyH_take (i:=9) (oi:=⟨some 91,.fieldAddr 118 (.tmp 12) 0,0, "build.go:122",#[⟨8,.guard⟩],some (8,false)⟩) (v:=undef) rfl (by kernel_rfl) (by kernel_rfl) (by kernel_rfl) (fun _ _ _ h=>h) (Or.inr ⟨by rfl,rfl⟩) (by assumption) ?_;simp only [Act.put,List.setIfInBounds_toArray,List.set_cons_zero,List.set_cons_succ];refine wpAnyH_take (i:=10) (oi:=⟨some 92,.load 116 (.tmp 91),116, "build.go:122",#[⟨9,.data⟩,⟨8,.guard⟩],some (8,false)⟩) (v:=undef) rfl (by kernel_rfl) (by kernel_rfl) (by kernel_rfl) (fun _ _ _ h=>h) (Or.inr ⟨by rfl,rfl⟩) (by assumption) ?_;simp only [Act.put,List.setIfInBounds_toArray,List.set_cons_zero,List.set_cons_succ];refine wpAnyH_take (i:=13) (oi:=⟨some 95,.fieldAddr 61 (.tmp 5) 1,0, "build.go:122",#[⟨8,.guard⟩],some (8,false)⟩) (v:=undef) rfl (by kernel_rfl) (by kernel_rfl) (by kernel_rfl) (fun _ _ _ h=>h) (Or.inr ⟨by rfl,rfl⟩) (by assumption) ?_;simp only [Act.put,List.setIfInBounds_toArray,List.set_cons_zero,List.set_cons_succ];refine wpAnyH_take (i:=14) (oi:=⟨some 96,.load 3 (.tmp 95),3, "build.go:122",#[⟨13,.data⟩,⟨8,.guard⟩],some (8,false)⟩) (v:=undef) rfl (by kernel_rfl) (by kernel_rfl) (by kernel_rfl) (fun _ _ _ h=>h) (Or.inr ⟨by rfl,rfl⟩) (by assumption) ?_;simp only [Act.put,List.setIfInBounds_toArray,List.set_cons_zero,List.set_cons_succ];refine wpAnyH_take (i:=11) (oi:=⟨some 93,.call { callee:=.invoke (.tmp 92) "coppice/tree.level",args:=#[],argTypes:=#[] },3, "build.go:122",#[⟨10,.data⟩,⟨8,.chain⟩,⟨8,.guard⟩],some (8,false)⟩) (v:=undef) rfl (by kernel_rfl) (by kernel_rfl) (by kernel_rfl) (fun _ _ _ h=>h) (Or.inr ⟨by rfl,rfl⟩) (by assumption) ?_;simp only [Act.put,List.setIfInBounds_toArray,List.set_cons_zero,List.set_cons_succ];refine wpAnyH_take (i:=12) (oi:=⟨some 94,.binOp .add 3 (.tmp 93) (.const (.int .i64 1)) 3,3, "build.go:122",#[⟨11,.data⟩,⟨8,.guard⟩],some (8,false)⟩) (v:=undef) rfl (by kernel_rfl) (by kernel_rfl) (by kernel_rfl) (fun _ _ _ h=>h) (Or.inr ⟨by rfl,rfl⟩) (by assumption) ?_;simp only [Act.put,List.setIfInBounds_toArray,List.set_cons_zero,List.set_cons_succ];refine wpAnyH_take (i:=15) (oi:=⟨some 97,.binOp .neq 3 (.tmp 94) (.tmp 96) 3,4, "build.go:122",#[⟨12,.data⟩,⟨14,.data⟩,⟨8,.guard⟩],some (8,false)⟩) (v:=undef) rfl (by kernel_rfl) (by kernel_rfl) (by kernel_rfl) (fun _ _ _ h=>h) (Or.inr ⟨by rfl,rfl⟩) (by assumption) ?_;simp only [Act.put,List.setIfInBounds_toArray,List.set_cons_zero,List.set_cons_succ];refine wpAnyH_take (i:=16) (oi:=⟨some 98,.pick (.tmp 90) (.const (.bool true)) (.tmp 97),4, "build.go:122",#[⟨8,.data⟩,⟨15,.data⟩],none⟩) (v:=?_) rfl (by kernel_rfl) (by kernel_rfl) (by kernel_rfl) (fun _ _ _ h=>h) (Or.inl ⟨by rfl,?_⟩) (by assumption) ?_
  rotate_left
  ·intro w hSw;(try dsimp only at hSw);go_simp;(try with_reducible rfl)
  simp only [Act.put,List.setIfInBounds_toArray,List.set_cons_zero,List.set_cons_succ];refine wpAnyH_take (i:=17) (oi:=⟨some 99,.move (.tmp 98),4, "build.go:122",#[⟨16,.data⟩,⟨11,.chain⟩],none⟩) (v:=?_) rfl (by kernel_rfl) (by kernel_rfl) (by kernel_rfl) (fun _ _ _ h=>h) (Or.inl ⟨by rfl,?_⟩) (by assumption) ?_
  rotate_left
  ·intro w hSw;(try dsimp only at hSw);go_simp;(try with_reducible rfl)
  simp only [Act.put,List.setIfInBounds_toArray,List.set_cons_zero,List.set_cons_succ];refine wpAnyH_take (i:=18) (oi:=⟨some 100,.fieldAddr 61 (.tmp 5) 0,0, "build.go:122",#[⟨17,.guard⟩],some (17,false)⟩) (v:=undef) rfl (by kernel_rfl) (by kernel_rfl) (by kernel_rfl) (fun _ _ _ h=>h) (Or.inr ⟨by rfl,rfl⟩) (by assumption) ?_;simp only [Act.put,List.setIfInBounds_toArray,List.set_cons_zero,List.set_cons_succ];refine wpAnyH_take (i:=19) (oi:=⟨some 101,.load 3 (.tmp 100),3, "build.go:122",#[⟨18,.data⟩,⟨17,.guard⟩],some (17,false)⟩) (v:=undef) rfl (by kernel_rfl) (by kernel_rfl) (by kernel_rfl) (fun _ _ _ h=>h) (Or.inr ⟨by rfl,rfl⟩) (by assumption) ?_;simp only [Act.put,List.setIfInBounds_toArray,List.set_cons_zero,List.set_cons_succ];refine wpAnyH_take (i:=20) (oi:=⟨some 102,.binOp .neq 3 (.tmp 101) (.const (.int .i64 0)) 3,4, "build.go:122",#[⟨19,.data⟩,⟨17,.guard⟩],some (17,false)⟩) (v:=undef) rfl (by kernel_rfl) (by kernel_rfl) (by kernel_rfl) (fun _ _ _ h=>h) (Or.inr ⟨by rfl,rfl⟩) (by assumption) ?_;simp only [Act.put,List.setIfInBounds_toArray,List.set_cons_zero,List.set_cons_succ];refine wpAnyH_take (i:=21) (oi:=⟨some 103,.move (.tmp 102),4, "build.go:122",#[⟨20,.data⟩,⟨17,.chain⟩,⟨17,.guard⟩],some (17,false)⟩) (v:=undef) rfl (by kernel_rfl) (by kernel_rfl) (by kernel_rfl) (fun _ _ _ h=>h) (Or.inr ⟨by rfl,rfl⟩) (by assumption) ?_;simp only [Act.put,List.setIfInBounds_toArray,List.set_cons_zero,List.set_cons_succ];refine wpAnyH_take (i:=22) (oi:=⟨some 104,.fieldAddr 118 (.tmp 12) 0,0, "build.go:122",#[⟨21,.guard⟩],some (21,true)⟩) (v:=undef) rfl (by kernel_rfl) (by kernel_rfl) (by kernel_rfl) (fun _ _ _ h=>h) (Or.inr ⟨by rfl,rfl⟩) (by assumption) ?_;simp only [Act.put,List.setIfInBounds_toArray,List.set_cons_zero,List.set_cons_succ];refine wpAnyH_take (i:=23) (oi:=⟨some 105,.load 116 (.tmp 104),116, "build.go:122",#[⟨22,.data⟩,⟨21,.guard⟩],some (21,true)⟩) (v:=undef) rfl (by kernel_rfl) (by kernel_rfl) (by kernel_rfl) (fun _ _ _ h=>h) (Or.inr ⟨by rfl,rfl⟩) (by assumption) ?_;simp only [Act.put,List.setIfInBounds_toArray,List.set_cons_zero,List.set_cons_succ];refine wpAnyH_take (i:=24) (oi:=⟨some 106,.call { callee:=.invoke (.tmp 105) "coppice/tree.number",args:=#[],argTypes:=#[] },3, "build.go:122",#[⟨23,.data⟩,⟨21,.chain⟩,⟨21,.guard⟩],some (21,true)⟩) (v:=undef) rfl (by kernel_rfl) (by kernel_rfl) (by kernel_rfl) (fun _ _ _ h=>h) (Or.inr ⟨by rfl,rfl⟩) (by assumption) ?_;simp only [Act.put,List.setIfInBounds_toArray,List.set_cons_zero,List.set_cons_succ];refine wpAnyH_take (i:=25) (oi:=⟨some 107,.binOp .eql 3 (.tmp 106) (.const (.int .i64 0)) 3,4, "build.go:122",#[⟨24,.data⟩,⟨21,.guard⟩],some (21,true)⟩) (v:=undef) rfl (by kernel_rfl) (by kernel_rfl) (by kernel_rfl) (fun _ _ _ h=>h) (Or.inr ⟨by rfl,rfl⟩) (by assumption) ?_;simp only [Act.put,List.setIfInBounds_toArray,List.set_cons_zero,List.set_cons_succ];refine wpAnyH_take (i:=26) (oi:=⟨some 108,.pick (.tmp 103) (.tmp 107) (.const (.bool false)),4, "build.go:122",#[⟨21,.data⟩,⟨25,.data⟩,⟨17,.guard⟩],some (17,false)⟩) (v:=undef) rfl (by kernel_rfl) (by kernel_rfl) (by kernel_rfl) (fun _ _ _ h=>h) (Or.inr ⟨by rfl,rfl⟩) (by assumption) ?_;simp only [Act.put,List.setIfInBounds_toArray,List.set_cons_zero,List.set_cons_succ];refine wpAnyH_take (i:=27) (oi:=⟨some 109,.pick (.tmp 99) (.const (.bool true)) (.tmp 108),4, "build.go:122",#[⟨17,.data⟩,⟨26,.data⟩],none⟩) (v:=?_) rfl (by kernel_rfl) (by kernel_rfl) (by kernel_rfl) (fun _ _ _ h=>h) (Or.inl ⟨by rfl,?_⟩) (by assumption) ?_
  rotate_left
  ·intro w hSw;(try dsimp only at hSw);go_simp;(try with_reducible rfl)
  simp only [Act.put,List.setIfInBounds_toArray,List.set_cons_zero,List.set_cons_succ];refine wpAnyH_done (by kernel_rfl) ?_ _;refine NoPanic.normal ?_;exact HK.out _ _ _ _ _ _ _ _ _ _ _ _ _ _ _ _ _ _ _ _ _ _ _ _ _ _ _ _ _ HP.out GD.out
end Go.Proofs.YteaahinjcfjngaaGreat
