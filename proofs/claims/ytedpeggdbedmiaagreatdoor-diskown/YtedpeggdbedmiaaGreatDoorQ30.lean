import Derived.Test.YtedpeggdbedmiaaGreatDoorQ29
import Derived.Test.YtedpeggdbedmiaaGreatDoorQ28
import Derived.Deep.DeepCutAuto
import Derived.Deep.CutRange
import Derived.Deep.CutBlock
import Derived.Deep.QuietTactic
import Derived.Test.YtedpeggdbedmiaaGreatDoorQ20
namespace Go.Proofs.YtedpeggdbedmiaaGreatDoor
open Go.RowKit Go.MuLone
theorem cell_one12 (w : World) (a : Value) (t : TypeId) : ∀ j u, [a][j]? = some u → (w.alloc (.cells #[a] t)).cell? ((⟨w.heap.size, 0, none⟩ : Addr).add j) = some u := by
 intro j u hu
 rw [Addr.add_lit, Nat.zero_add, cell_of_row _ w.heap.size j _ _ (0, 0) (heap_alloc_new w _)]
 simpa using hu
set_option maxHeartbeats 16000000 in
set_option maxRecDepth 8000 in
theorem own0 {y0 y1 y2 y3 y4 y7 y8 y9 y10 y11 y12 y13 y14 y15 y16 y17 y18 y19 y20 y21 y22 y23 y24 y25 y26 y27 y28 y29 y30 y31 y32 y33 y34 y35 y36 y37 y38 y39 y40 y41 y42 y43 y44 y45 y46 y47 y48 y49 y50 y51 y52 y53 y54 y55 y56 y57 y58 y59 y60 y61 y62 y63 y64 y65 y66 y67 y68 y69 y70 y71 y72 y73 y74 y75 y76 y77 y78 y79 y80 y81 y82 y83 y84 y85 y86 y87 y88 y89 y90 y91 y92 y93 y94 y95 y96 y97 y98 y99 y100 y101 y102 y103 y104 y105 y106 y107 y108 y109 y110 y111 y112 y113 y114 y115 y116 y117 y118 y119 y120 y121 y122 y123 y124 y125 y126 y127 y128 y129 : Value} {w wc : World} {B : Nat} {Fs : Nat → Nat → Prop} (h1 : D1 w wc B (.slice none 0 0) [] Fs) {K : Act → World → Prop} {Q' : Exit → Act → World → Prop}
  (hK : ∀ (v2 v5 v6 v7 v23 v24 v25 v26 v27 v28 v29 v30 v31 v32 v33 : Value) (wx : World), (∃ bs Fs, bs.length = 8 ∧ D1 w wx B v5 bs Fs) → K ⟨#[y0, y1, v2, y3, y4, v5, v6, v7, y8, y9, y10, y11, y12, y13, y14, y15, y16, y17, y18, y19, y20, y21, y22, v23, v24, v25, v26, v27, v28, v29, v30, v31, v32, v33, y34, y35, y36, y37, y38, y39, y40, y41, y42, y43, y44, y45, y46, y47, y48, y49, y50, y51, y52, y53, y54, y55, y56, y57, y58, y59, y60, y61, y62, y63, y64, y65, y66, y67, y68, y69, y70, y71, y72, y73, y74, y75, y76, y77, y78, y79, y80, y81, y82, y83, y84, y85, y86, y87, y88, y89, y90, y91, y92, y93, y94, y95, y96, y97, y98, y99, y100, y101, y102, y103, y104, y105, y106, y107, y108, y109, y110, y111, y112, y113, y114, y115, y116, y117, y118, y119, y120, y121, y122, y123, y124, y125, y126, y127, y128, y129], []⟩ wx) :
  Code.wp Tryz.prog (Go.Code.block 0 (((Go.Code.region 5 #[{ dst := some 23, op := Go.Op.move (Go.Operand.tmp 6), type := 3, pos := "law.go:355", after := #[], guard := none }, { dst := some 24, op := Go.Op.binOp Go.BinOp.lss 3 (Go.Operand.tmp 23) (Go.Operand.const (Go.Value.int Go.IntKind.i64 8)) 3, type := 4, pos := "law.go:355", after := #[{ on := 0, ground := Go.Ground.data }], guard := none }] false).seq (Go.Code.cond (Go.Operand.tmp 24) Go.Code.skip (Go.Code.exit 0))).seq ((Go.Code.block 1 ((Go.Code.region 7 #[{ dst := some 27, op := Go.Op.call { callee := Go.Callee.value (Go.Operand.func 5), args := #[Go.Operand.const (Go.Value.int Go.IntKind.i64 20)], argTypes := #[3] }, type := 41, pos := "law.go:356", after := #[], guard := none }, { dst := some 7, op := Go.Op.assign (Go.Operand.tmp 27), type := 41, pos := "law.go:356", after := #[{ on := 0, ground := Go.Ground.data }, { on := 0, ground := Go.Ground.chain }, { on := 0, ground := Go.Ground.phase }], guard := none }] false).seq (((Go.Code.region 8 #[{ dst := some 28, op := Go.Op.move (Go.Operand.tmp 7), type := 41, pos := "law.go:357", after := #[], guard := none }, { dst := some 29, op := Go.Op.binOp Go.BinOp.eql 41 (Go.Operand.tmp 28) (Go.Operand.const (Go.Value.pointer none)) 41, type := 4, pos := "law.go:357", after := #[{ on := 0, ground := Go.Ground.data }], guard := none }] false).seq (Go.Code.cond (Go.Operand.tmp 29) ((Go.Code.region 9 #[{ dst := some 2, op := Go.Op.assign (Go.Operand.const (Go.Value.bool false)), type := 4, pos := "law.go:358", after := #[], guard := none }] false).seq Go.Code.ret) Go.Code.skip)).seq (Go.Code.region 10 #[{ dst := some 30, op := Go.Op.move (Go.Operand.tmp 5), type := 40, pos := "law.go:360", after := #[], guard := none }, { dst := some 31, op := Go.Op.move (Go.Operand.tmp 7), type := 41, pos := "law.go:360", after := #[], guard := none }, { dst := some 32, op := Go.Op.buildSlice 40 1 #[(0, Go.Operand.tmp 31)], type := 40, pos := "law.go:360", after := #[{ on := 1, ground := Go.Ground.data }], guard := none }, { dst := some 33, op := Go.Op.call { callee := Go.Callee.builtin Go.Builtin.append, args := #[Go.Operand.tmp 30, Go.Operand.tmp 32], argTypes := #[40, 40] }, type := 40, pos := "law.go:360", after := #[{ on := 0, ground := Go.Ground.data }, { on := 2, ground := Go.Ground.data }], guard := none }, { dst := some 5, op := Go.Op.assign (Go.Operand.tmp 33), type := 40, pos := "law.go:360", after := #[{ on := 3, ground := Go.Ground.data }, { on := 3, ground := Go.Ground.chain }, { on := 0, ground := Go.Ground.phase }, { on := 1, ground := Go.Ground.phase }, { on := 2, ground := Go.Ground.phase }, { on := 3, ground := Go.Ground.phase }], guard := none }] false)))).seq (Go.Code.region 6 #[{ dst := some 25, op := Go.Op.move (Go.Operand.tmp 6), type := 3, pos := "law.go:355", after := #[], guard := none }, { dst := some 26, op := Go.Op.binOp Go.BinOp.add 3 (Go.Operand.tmp 25) (Go.Operand.const (Go.Value.int Go.IntKind.i64 1)) 3, type := 3, pos := "law.go:355", after := #[{ on := 0, ground := Go.Ground.data }], guard := none }, { dst := some 6, op := Go.Op.assign (Go.Operand.tmp 26), type := 3, pos := "law.go:355", after := #[{ on := 1, ground := Go.Ground.data }, { on := 0, ground := Go.Ground.phase }, { on := 1, ground := Go.Ground.phase }], guard := none }] false))).loop) (Exit.then K Q') ⟨#[y0, y1, y2, y3, y4, .slice none 0 0, .int .i64 0, y7, y8, y9, y10, y11, y12, y13, y14, y15, y16, y17, y18, y19, y20, y21, y22, y23, y24, y25, y26, y27, y28, y29, y30, y31, y32, y33, y34, y35, y36, y37, y38, y39, y40, y41, y42, y43, y44, y45, y46, y47, y48, y49, y50, y51, y52, y53, y54, y55, y56, y57, y58, y59, y60, y61, y62, y63, y64, y65, y66, y67, y68, y69, y70, y71, y72, y73, y74, y75, y76, y77, y78, y79, y80, y81, y82, y83, y84, y85, y86, y87, y88, y89, y90, y91, y92, y93, y94, y95, y96, y97, y98, y99, y100, y101, y102, y103, y104, y105, y106, y107, y108, y109, y110, y111, y112, y113, y114, y115, y116, y117, y118, y119, y120, y121, y122, y123, y124, y125, y126, y127, y128, y129], []⟩ wc := by
 have HK := hid_intro hK
 clear hK
 dsimp only
 obtain ⟨i0, hi, hz0, hz1, hz2⟩ := info_parts info_diskp
 go_wp2_with fail
 go_loopg [5, 6] 8 (fun gh sv si wr => ∃ (k : Nat) (bs : List Nat) (Fs : Nat → Nat → Prop), gh = 8 - k ∧ k ≤ 8 ∧ si = .int .i64 (k : Int) ∧ bs.length = k ∧ D1 w wr B sv bs Fs)
 case atStart => exact ⟨0, [], _, rfl, Nat.zero_le _, rfl, rfl, h1⟩
 case round =>
  obtain ⟨k, bs, Fs, hgh, hk, rfl, hbl, hD⟩ := hrel
  have HD := hid_intro hD
  have HBL := hid_intro hbl
  obtain ⟨ov, oc, ev⟩ : ∃ ao cap, u5 = .slice ao bs.length cap := by
   rcases hD.vo.2 with ⟨e, e0⟩ | ⟨g, cap, cur, e, _⟩
   ·exact ⟨none, 0, by rw [e, e0]⟩
   ·exact ⟨_, _, e⟩
  subst ev
  clear hD hbl
  by_cases hlt : k < 8
  ·have hlt' : (k : Int) < 8 := by omega
   go_wp2_with fail
   refine (dz_new 20 wr (by omega) (by omega)).mono ?_
   rintro e w1 ⟨b, rfl, hg1, hz1'⟩
   have G1 := hid_intro hg1
   have Z1 := hid_intro hz1'
   have OA := hid_intro ((HD.out.vo.kept hg1 (Classical.em _)).alloc (.cells #[.pointer (some ⟨b, 0, none⟩)] 41))
   have SA : Hid (w.heap.size ≤ (w1.alloc (.cells #[.pointer (some ⟨b, 0, none⟩)] 41)).heap.size) := by have h5 := HD.out.gr.size; have h6 := hg1.size; show _ ≤ _; simp; omega
   clear hg1 hz1'
   go_wp2_with (at_builtin; refine wpList_append_own_at _ rfl _ _ 40 rfl w.heap.size 41 i0 (.pointer none) 1 8 Tryz.underlying40 hi hz0 hz1 hz2 rfl (by decide) (.slice ov bs.length oc) bs.length (bs.map fun b : Nat => .pointer (some ⟨b, 0, none⟩)) rfl OA.out ⟨w1.heap.size, 0, none⟩ 1 1 [.pointer (some ⟨b, 0, none⟩)] rfl rfl (cell_one12 _ _ _) (by intro u hu; simp at hu; subst hu; rfl) (by have := HBL.out; unfold maxLen; omega) (by have := HBL.out; omega) SA.out ?_)
   intro v' w' ho' hg' hnil loc
   have D2 := hid_intro (HD.out.add G1.out Z1.out (fun k e => e) (World.grownBy_alloc w1 (.cells #[.pointer (some ⟨b, 0, none⟩)] 41) none) hg' ho' (by simpa using loc))
   clear ho' hg' hnil loc
   go_wp2
   go_roundg (8 - (k + 1))
   case measure => omega
   case rel => exact ⟨k + 1, bs ++ [b], _, rfl, by omega, by go_num, by rw [List.length_append, HBL.out]; rfl, D2.out⟩
  ·have hlt' : ¬ (k : Int) < 8 := by omega
   go_wp2_with fail
   refine HK.out _ _ _ _ _ _ _ _ _ _ _ _ _ _ _ _ ?_
   exact ⟨bs, Fs, by have := HBL.out; omega, HD.out⟩
end Go.Proofs.YtedpeggdbedmiaaGreatDoor
namespace Go.Proofs.YtedpeggdbedmiaaGreatDoor
open Go.RowKit Go.MuLone
set_option maxHeartbeats 16000000 in
set_option maxRecDepth 8000 in
theorem own15 {y1 y2 y3 y4 y5 y6 y7 y10 y11 y12 y13 y14 y15 y16 y17 y18 y19 y20 y21 y22 y23 y24 y25 y26 y27 y28 y29 y30 y31 y32 y33 y34 y35 y36 y37 y38 y39 y40 y41 y42 y43 y44 y45 y46 y47 y48 y49 y50 y51 y52 y53 y54 y55 y56 y57 y58 y59 y60 y61 y62 y63 y64 y65 y66 y67 y68 y69 y70 y71 y72 y73 y74 y75 y76 y77 y78 y79 y80 y81 y82 y83 y84 y85 y86 y87 y88 y89 y90 y91 y92 y93 y94 y95 y96 y97 y98 y99 y100 y101 y102 y103 y104 y105 y106 y107 y108 y109 y110 y111 y112 y113 y114 y115 y116 y117 y118 y119 y120 y121 y122 y123 y124 y125 y126 y127 y128 y129 : Value} {a off n cap k b : Nat} {wc : World} {no x : Int} {Post : World → Prop} (hl1 : (k : Int) < (n : Int)) (cn : wc.cell? ⟨a, off + k * 2, none⟩ = some (.int .i64 no)) (cx : wc.cell? ⟨a, off + k * 2 + 1, none⟩ = some (.int .u8 x)) (HW : Hid (∀ W, wc.grownBy W none → Rw W wc.heap.size (fp x) → Calls Tryz.prog 6 #[.pointer (some ⟨b, 0, none⟩), .int .i64 no, .slice (some ⟨wc.heap.size, 0, none⟩) 4096 4096] W fun e w' => ∃ r, e = .returned (.int .i64 r) ∧ Post w')) {K : Act → World → Prop} {Q' : Exit → Act → World → Prop}
  (hK : ∀ (v50 v51 v52 v53 v54 v55 v56 v57 v58 v59 v60 v61 v62 : Value) (wx : World), (Post wx) → K ⟨#[.slice (some ⟨a, off, none⟩) n cap, y1, y2, y3, y4, y5, y6, y7, .int .i64 (k : Int), .pointer (some ⟨b, 0, none⟩), y10, y11, y12, y13, y14, y15, y16, y17, y18, y19, y20, y21, y22, y23, y24, y25, y26, y27, y28, y29, y30, y31, y32, y33, y34, y35, y36, y37, y38, y39, y40, y41, y42, y43, y44, y45, y46, y47, y48, y49, v50, v51, v52, v53, v54, v55, v56, v57, v58, v59, v60, v61, v62, y63, y64, y65, y66, y67, y68, y69, y70, y71, y72, y73, y74, y75, y76, y77, y78, y79, y80, y81, y82, y83, y84, y85, y86, y87, y88, y89, y90, y91, y92, y93, y94, y95, y96, y97, y98, y99, y100, y101, y102, y103, y104, y105, y106, y107, y108, y109, y110, y111, y112, y113, y114, y115, y116, y117, y118, y119, y120, y121, y122, y123, y124, y125, y126, y127, y128, y129], []⟩ wx) :
  Code.wp Tryz.prog (Go.Code.region 15 #[{ dst := some 50, op := Go.Op.move (Go.Operand.tmp 9), type := 41, pos := "law.go:364", after := #[], guard := none }, { dst := some 51, op := Go.Op.move (Go.Operand.tmp 0), type := 22, pos := "law.go:364", after := #[], guard := none }, { dst := some 52, op := Go.Op.move (Go.Operand.tmp 8), type := 3, pos := "law.go:364", after := #[], guard := none }, { dst := some 53, op := Go.Op.indexAddr 22 (Go.Operand.tmp 51) (Go.Operand.tmp 52), type := 0, pos := "law.go:364", after := #[{ on := 1, ground := Go.Ground.data }, { on := 2, ground := Go.Ground.data }], guard := none }, { dst := some 54, op := Go.Op.fieldAddr 46 (Go.Operand.tmp 53) 0, type := 0, pos := "law.go:364", after := #[{ on := 3, ground := Go.Ground.data }], guard := none }, { dst := some 55, op := Go.Op.load 3 (Go.Operand.tmp 54), type := 3, pos := "law.go:364", after := #[{ on := 4, ground := Go.Ground.data }], guard := none }, { dst := some 56, op := Go.Op.move (Go.Operand.tmp 0), type := 22, pos := "law.go:364", after := #[], guard := none }, { dst := some 57, op := Go.Op.move (Go.Operand.tmp 8), type := 3, pos := "law.go:364", after := #[], guard := none }, { dst := some 58, op := Go.Op.indexAddr 22 (Go.Operand.tmp 56) (Go.Operand.tmp 57), type := 0, pos := "law.go:364", after := #[{ on := 6, ground := Go.Ground.data }, { on := 7, ground := Go.Ground.data }], guard := none }, { dst := some 59, op := Go.Op.fieldAddr 46 (Go.Operand.tmp 58) 1, type := 0, pos := "law.go:364", after := #[{ on := 8, ground := Go.Ground.data }], guard := none }, { dst := some 60, op := Go.Op.load 5 (Go.Operand.tmp 59), type := 5, pos := "law.go:364", after := #[{ on := 9, ground := Go.Ground.data }], guard := none }, { dst := some 61, op := Go.Op.call { callee := Go.Callee.value (Go.Operand.func 7), args := #[Go.Operand.tmp 60], argTypes := #[5] }, type := 47, pos := "law.go:364", after := #[{ on := 10, ground := Go.Ground.data }], guard := none }, { dst := some 62, op := Go.Op.call { callee := Go.Callee.value (Go.Operand.func 6), args := #[Go.Operand.tmp 50, Go.Operand.tmp 55, Go.Operand.tmp 61], argTypes := #[41, 3, 47] }, type := 43, pos := "law.go:364", after := #[{ on := 0, ground := Go.Ground.data }, { on := 5, ground := Go.Ground.data }, { on := 11, ground := Go.Ground.data }, { on := 11, ground := Go.Ground.chain }], guard := none }] true) (Exit.then K Q') ⟨#[.slice (some ⟨a, off, none⟩) n cap, y1, y2, y3, y4, y5, y6, y7, .int .i64 (k : Int), .pointer (some ⟨b, 0, none⟩), y10, y11, y12, y13, y14, y15, y16, y17, y18, y19, y20, y21, y22, y23, y24, y25, y26, y27, y28, y29, y30, y31, y32, y33, y34, y35, y36, y37, y38, y39, y40, y41, y42, y43, y44, y45, y46, y47, y48, y49, y50, y51, y52, y53, y54, y55, y56, y57, y58, y59, y60, y61, y62, y63, y64, y65, y66, y67, y68, y69, y70, y71, y72, y73, y74, y75, y76, y77, y78, y79, y80, y81, y82, y83, y84, y85, y86, y87, y88, y89, y90, y91, y92, y93, y94, y95, y96, y97, y98, y99, y100, y101, y102, y103, y104, y105, y106, y107, y108, y109, y110, y111, y112, y113, y114, y115, y116, y117, y118, y119, y120, y121, y122, y123, y124, y125, y126, y127, y128, y129], []⟩ wc := by
 have HK := hid_intro hK
 clear hK
 refine wp_region_noPanic ?_
 go_region_with (first
  | (go_at_call 7; refine (full_any x _).mono ?_; rintro e w4 ⟨rfl, hr4, hg4⟩; have G4 := hid_intro (grown_trans ((Qt.refl wc).drew.grown none) hg4); have R4 := hid_intro (show Rw w4 wc.heap.size (fp x) from hr4); have cn4 := G4.out.cell cn (by simp); clear hr4 hg4)
  | (go_at_call 6; refine (HW.out _ G4.out R4.out).mono ?_; rintro e w5 ⟨r5, rfl, hz5⟩))
 all_goals
  refine NoPanic.normal ?_
  go_wp2_with fail
  refine HK.out _ _ _ _ _ _ _ _ _ _ _ _ _ _ ?_
  exact hz5
set_option maxHeartbeats 16000000 in
set_option maxRecDepth 8000 in
theorem own69 {y0 y1 y2 y3 y5 y6 y7 y8 y10 y11 y12 y13 y14 y15 y16 y17 y18 y19 y20 y21 y22 y23 y24 y25 y26 y27 y28 y29 y30 y31 y32 y33 y34 y35 y36 y37 y38 y39 y40 y41 y42 y43 y44 y45 y46 y47 y48 y49 y50 y51 y52 y53 y54 y55 y56 y57 y58 y59 y60 y61 y62 y63 y64 y65 y66 y67 y68 y70 y71 y72 y73 y74 y75 y76 y77 y78 y79 y80 y81 y82 y83 y84 y85 y86 y87 y88 y89 y90 y91 y92 y93 y94 y95 y96 y97 y98 y99 y100 y101 y102 y103 y104 y105 y106 y107 y108 y109 y110 y111 y112 y113 y114 y115 y116 y117 y118 y119 y120 y121 y122 y123 y124 y125 y126 y127 y128 y129 : Value} {w wc : World} {B base b i t c : Nat} {vd : Value} {bs : List Nat} {q : Bool} (hb : bs[i]? = some b) (ht : t ≤ 500) (hc : c ≤ 50000) (hX : Dx w wc B base vd bs t c) {K : Act → World → Prop} {Q' : Exit → Act → World → Prop}
  (hK : ∀ (v10 v11 v12 v13 v70 v71 v72 v73 v74 v75 v76 v77 v78 v79 v80 v81 v82 v83 v84 v85 v86 v87 v88 v89 v90 v91 v92 v93 : Value) (wx : World), (Dx w wx B base vd bs (t + 2) (c + t + 10)) → K ⟨#[y0, y1, y2, y3, .pointer (some ⟨B, 0, none⟩), y5, y6, y7, y8, .pointer (some ⟨b, 0, none⟩), v10, v11, v12, v13, y14, y15, y16, y17, y18, y19, y20, y21, y22, y23, y24, y25, y26, y27, y28, y29, y30, y31, y32, y33, y34, y35, y36, y37, y38, y39, y40, y41, y42, y43, y44, y45, y46, y47, y48, y49, y50, y51, y52, y53, y54, y55, y56, y57, y58, y59, y60, y61, y62, y63, y64, y65, y66, y67, y68, .bool q, v70, v71, v72, v73, v74, v75, v76, v77, v78, v79, v80, v81, v82, v83, v84, v85, v86, v87, v88, v89, v90, v91, v92, v93, y94, y95, y96, y97, y98, y99, y100, y101, y102, y103, y104, y105, y106, y107, y108, y109, y110, y111, y112, y113, y114, y115, y116, y117, y118, y119, y120, y121, y122, y123, y124, y125, y126, y127, y128, y129], []⟩ wx) :
  Code.wp Tryz.prog (Go.Code.cond (Go.Operand.tmp 69) ((Go.Code.region 19 #[{ dst := some 71, op := Go.Op.move (Go.Operand.tmp 9), type := 41, pos := "law.go:369", after := #[], guard := none }, { dst := some 72, op := Go.Op.call { callee := Go.Callee.value (Go.Operand.func 9), args := #[Go.Operand.tmp 71, Go.Operand.const (Go.Value.int Go.IntKind.i64 0)], argTypes := #[41, 3] }, type := 50, pos := "law.go:369", after := #[{ on := 0, ground := Go.Ground.data }], guard := none }, { dst := some 70, op := Go.Op.move (Go.Operand.tmp 72), type := 50, pos := "law.go:369", after := #[{ on := 1, ground := Go.Ground.data }], guard := none }, { dst := some 73, op := Go.Op.extract (Go.Operand.tmp 70) 0, type := 47, pos := "law.go:369", after := #[{ on := 2, ground := Go.Ground.data }], guard := none }, { dst := some 74, op := Go.Op.extract (Go.Operand.tmp 70) 1, type := 43, pos := "law.go:369", after := #[{ on := 2, ground := Go.Ground.data }, { on := 5, ground := Go.Ground.gcOnly Go.Departure.lateStores }], guard := none }, { dst := some 10, op := Go.Op.assign (Go.Operand.tmp 73), type := 47, pos := "law.go:369", after := #[{ on := 3, ground := Go.Ground.data }, { on := 1, ground := Go.Ground.chain }, { on := 0, ground := Go.Ground.phase }, { on := 1, ground := Go.Ground.phase }, { on := 2, ground := Go.Ground.phase }, { on := 3, ground := Go.Ground.phase }, { on := 4, ground := Go.Ground.textOnly Go.Departure.lateStores }], guard := none }, { dst := some 11, op := Go.Op.assign (Go.Operand.tmp 74), type := 43, pos := "law.go:369", after := #[{ on := 4, ground := Go.Ground.data }, { on := 5, ground := Go.Ground.chain }, { on := 0, ground := Go.Ground.phase }, { on := 1, ground := Go.Ground.phase }, { on := 2, ground := Go.Ground.phase }, { on := 3, ground := Go.Ground.phase }, { on := 4, ground := Go.Ground.phase }, { on := 5, ground := Go.Ground.phase }], guard := none }] false).seq ((Go.Code.region 20 #[{ dst := some 76, op := Go.Op.move (Go.Operand.tmp 9), type := 41, pos := "law.go:370", after := #[], guard := none }, { dst := some 77, op := Go.Op.call { callee := Go.Callee.value (Go.Operand.func 9), args := #[Go.Operand.tmp 76, Go.Operand.const (Go.Value.int Go.IntKind.i64 0)], argTypes := #[41, 3] }, type := 50, pos := "law.go:370", after := #[{ on := 0, ground := Go.Ground.data }], guard := none }, { dst := some 75, op := Go.Op.move (Go.Operand.tmp 77), type := 50, pos := "law.go:370", after := #[{ on := 1, ground := Go.Ground.data }], guard := none }, { dst := some 78, op := Go.Op.extract (Go.Operand.tmp 75) 0, type := 47, pos := "law.go:370", after := #[{ on := 2, ground := Go.Ground.data }], guard := none }, { dst := some 79, op := Go.Op.extract (Go.Operand.tmp 75) 1, type := 43, pos := "law.go:370", after := #[{ on := 2, ground := Go.Ground.data }, { on := 5, ground := Go.Ground.gcOnly Go.Departure.lateStores }], guard := none }, { dst := some 12, op := Go.Op.assign (Go.Operand.tmp 78), type := 47, pos := "law.go:370", after := #[{ on := 3, ground := Go.Ground.data }, { on := 1, ground := Go.Ground.chain }, { on := 0, ground := Go.Ground.phase }, { on := 1, ground := Go.Ground.phase }, { on := 2, ground := Go.Ground.phase }, { on := 3, ground := Go.Ground.phase }, { on := 4, ground := Go.Ground.textOnly Go.Departure.lateStores }], guard := none }, { dst := some 13, op := Go.Op.assign (Go.Operand.tmp 79), type := 43, pos := "law.go:370", after := #[{ on := 4, ground := Go.Ground.data }, { on := 5, ground := Go.Ground.chain }, { on := 0, ground := Go.Ground.phase }, { on := 1, ground := Go.Ground.phase }, { on := 2, ground := Go.Ground.phase }, { on := 3, ground := Go.Ground.phase }, { on := 4, ground := Go.Ground.phase }, { on := 5, ground := Go.Ground.phase }], guard := none }] false).seq ((Go.Code.region 21 #[{ dst := some 80, op := Go.Op.move (Go.Operand.tmp 4), type := 24, pos := "law.go:371", after := #[], guard := none }, { dst := some 81, op := Go.Op.move (Go.Operand.tmp 10), type := 47, pos := "law.go:371", after := #[], guard := none }, { dst := some 82, op := Go.Op.call { callee := Go.Callee.value (Go.Operand.func 10), args := #[Go.Operand.tmp 80, Go.Operand.tmp 81], argTypes := #[24, 47] }, type := 0, pos := "law.go:371", after := #[{ on := 0, ground := Go.Ground.data }, { on := 1, ground := Go.Ground.data }], guard := none }] false).seq ((Go.Code.region 22 #[{ dst := some 83, op := Go.Op.move (Go.Operand.tmp 4), type := 24, pos := "law.go:372", after := #[], guard := none }, { dst := some 84, op := Go.Op.move (Go.Operand.tmp 12), type := 47, pos := "law.go:372", after := #[], guard := none }, { dst := some 85, op := Go.Op.call { callee := Go.Callee.value (Go.Operand.func 10), args := #[Go.Operand.tmp 83, Go.Operand.tmp 84], argTypes := #[24, 47] }, type := 0, pos := "law.go:372", after := #[{ on := 0, ground := Go.Ground.data }, { on := 1, ground := Go.Ground.data }], guard := none }] false).seq ((Go.Code.region 23 #[{ dst := some 86, op := Go.Op.move (Go.Operand.tmp 4), type := 24, pos := "law.go:373", after := #[], guard := none }, { dst := some 87, op := Go.Op.move (Go.Operand.tmp 9), type := 41, pos := "law.go:373", after := #[], guard := none }, { dst := some 88, op := Go.Op.call { callee := Go.Callee.value (Go.Operand.func 12), args := #[Go.Operand.tmp 87], argTypes := #[41] }, type := 54, pos := "law.go:373", after := #[{ on := 1, ground := Go.Ground.data }], guard := none }, { dst := some 89, op := Go.Op.call { callee := Go.Callee.value (Go.Operand.func 11), args := #[Go.Operand.tmp 86, Go.Operand.tmp 88], argTypes := #[24, 54] }, type := 0, pos := "law.go:373", after := #[{ on := 0, ground := Go.Ground.data }, { on := 2, ground := Go.Ground.data }, { on := 2, ground := Go.Ground.chain }], guard := none }] false).seq (Go.Code.region 24 #[{ dst := some 90, op := Go.Op.move (Go.Operand.tmp 4), type := 24, pos := "law.go:374", after := #[], guard := none }, { dst := some 91, op := Go.Op.move (Go.Operand.tmp 9), type := 41, pos := "law.go:374", after := #[], guard := none }, { dst := some 92, op := Go.Op.call { callee := Go.Callee.value (Go.Operand.func 13), args := #[Go.Operand.tmp 91], argTypes := #[41] }, type := 47, pos := "law.go:374", after := #[{ on := 1, ground := Go.Ground.data }], guard := none }, { dst := some 93, op := Go.Op.call { callee := Go.Callee.value (Go.Operand.func 10), args := #[Go.Operand.tmp 90, Go.Operand.tmp 92], argTypes := #[24, 47] }, type := 0, pos := "law.go:374", after := #[{ on := 0, ground := Go.Ground.data }, { on := 2, ground := Go.Ground.data }, { on := 2, ground := Go.Ground.chain }], guard := none }] false)))))) Go.Code.skip) (Exit.then K Q') ⟨#[y0, y1, y2, y3, .pointer (some ⟨B, 0, none⟩), y5, y6, y7, y8, .pointer (some ⟨b, 0, none⟩), y10, y11, y12, y13, y14, y15, y16, y17, y18, y19, y20, y21, y22, y23, y24, y25, y26, y27, y28, y29, y30, y31, y32, y33, y34, y35, y36, y37, y38, y39, y40, y41, y42, y43, y44, y45, y46, y47, y48, y49, y50, y51, y52, y53, y54, y55, y56, y57, y58, y59, y60, y61, y62, y63, y64, y65, y66, y67, y68, .bool q, y70, y71, y72, y73, y74, y75, y76, y77, y78, y79, y80, y81, y82, y83, y84, y85, y86, y87, y88, y89, y90, y91, y92, y93, y94, y95, y96, y97, y98, y99, y100, y101, y102, y103, y104, y105, y106, y107, y108, y109, y110, y111, y112, y113, y114, y115, y116, y117, y118, y119, y120, y121, y122, y123, y124, y125, y126, y127, y128, y129], []⟩ wc := by
 have HK := hid_intro hK
 clear hK
 obtain ⟨cs, L, ys, Fs, ss, hD, hc0, hc9⟩ := hX
 cases q with
 | false =>
  have HD := hid_intro hD
  clear hD
  go_wp2_with fail
  refine HK.out _ _ _ _ _ _ _ _ _ _ _ _ _ _ _ _ _ _ _ _ _ _ _ _ _ _ _ _ _ ?_
  exact ⟨cs, L, ys, Fs, ss, HD.out.wide (by omega), by omega, by omega⟩
 | true =>
  have HD := hid_intro hD
  clear hD
  by_cases hp : 0 < (ss i).pages
  ·go_wp2_with fail
   refine (dn_read HD.out hb (by omega) hp).mono ?_
   rintro e w1 ⟨g1, z1, cs1, ss1, rfl, hk1, hd1, hr1, hg1, hl1, hp1, hf1⟩
   have D1' := hid_intro hd1
   have R1 := hid_intro hr1
   have F1 := hid_intro (hf1 g1 hg1)
   have LT := hid_intro (fun s hs => HD.out.kst.lt (show 0 < 13 by omega) hs : ∀ s ∈ L 0, s.g < wc.heap.size)
   have g1l := hr1.lt
   clear hd1 hr1 hf1 hk1
   go_wp2_with fail
   refine (dn_read D1'.out hb (by omega) hp1).mono ?_
   rintro e w2 ⟨g2, z2, cs2, ss2, rfl, hk2, hd2, hr2, hg2, hl2, hp2, hf2⟩
   have D2 := hid_intro hd2
   have K12 := hk2.block g1 g1l F1.out
   have R1a := hid_intro (rdy_ow (Rw.ow12 (show Rw w2 g1 z1 from K12.1.trans R1.out) hl1) hl1 (by omega) K12.2)
   have R2a := hid_intro (rdy_ow (hr2.ow12 hl2) hl2 (by omega) (hf2 g2 hg2))
   clear hd2 hr2 hf2 hk2 K12
   go_wp2_with fail
   refine (dn_bytes D2.out R1a.out (fun s hs => .inr (by have := LT.out s hs; omega)) (by omega)).mono ?_
   rintro e w3 ⟨rfl, cs3, ys3, hf3, hd3⟩
   have D3 := hid_intro hd3
   have R2b := hid_intro (And.intro (R2a.out.1.kee hf3.toKee) (R2a.out.2.kee hf3.toKee))
   clear hd3 hf3
   go_wp2_with fail
   refine (dn_bytes D3.out R2b.out (fun s hs => ?_) (by rw [lsn_same, List.length_append]; show _ + 1 ≤ _; omega)).mono ?_
   ·rw [lsn_same] at hs
    rcases List.mem_append.1 hs with e | e
    ·exact .inr (by have := LT.out s e; omega)
    ·have e' : s = bl1 g1 4096 4096 := by simpa using e
     subst e'
     exact .inr (by show g1 ≠ g2; omega)
   rintro e w4 ⟨rfl, cs4, ys4, hf4, hd4⟩
   obtain ⟨L4, hL4⟩ : ∃ L4, L4 = lsn (lsn L 0 [bl1 g1 4096 4096]) 0 [bl1 g2 4096 4096] := ⟨_, rfl⟩
   rw [← hL4] at hd4
   have D4 := hid_intro hd4
   have h40 : (L4 0).length ≤ c + 2 := by rw [hL4, lsn_same, lsn_same]; simp; omega
   have h49 : (L4 9).length ≤ c := by rw [hL4, lsn_far _ _ (by omega), lsn_far _ _ (by omega)]; omega
   clear hd4 hf4 D3 D2 D1' HD R1 F1 LT R1a R2a R2b hL4
   go_wp2_with fail
   refine (dn_pending D4.out hb (by omega)).mono ?_
   rintro e w5 ⟨g5, ql, cs5, rfl, hwl, hql, hke, hd5, hfr⟩
   have D5 := hid_intro hd5
   have W5 := hid_intro hwl
   have F5 := hid_intro hfr
   have LT4 := hid_intro (fun j hj s hs => (.inr (D4.out.kst.lt hj hs) : s.C = 0 ∨ s.g < w4.heap.size) : ∀ j, j < 13 → ∀ s ∈ L4 j, s.C = 0 ∨ s.g < w4.heap.size)
   clear hd5 hwl hfr hke
   go_wp2_with fail
   refine (dn_writes D5.out W5.out (fun d h1 _ => F5.out d h1) LT4.out (by omega) (by omega) (by omega)).mono ?_
   rintro e w6 ⟨rfl, cs6, L6, ys6, hf6, hd6, hl0, hl9⟩
   have D6 := hid_intro hd6
   clear hd6 hf6 D5 W5 F5 LT4
   go_wp2_with fail
   refine (dn_durable D6.out hb).mono ?_
   rintro e w7 ⟨g7, n7, C7, cs7, rfl, ho7, hn7, hm7, hg7, _, hd7, hfr7, _⟩
   have D7 := hid_intro hd7
   have R7 := hid_intro (rdy_ow ho7 hn7 (by omega) (hfr7 g7 hg7))
   have A7 := hid_intro (fun s hs => (.inr (by have := D6.out.kst.lt (show 0 < 13 by omega) hs; omega) : s.C = 0 ∨ s.g ≠ g7) : ∀ s ∈ L6 0, s.C = 0 ∨ s.g ≠ g7)
   clear hd7 ho7 hn7 hfr7 D6
   go_wp2_with fail
   refine (dn_bytes D7.out R7.out A7.out (by omega)).mono ?_
   rintro e w8 ⟨rfl, cs8, ys8, _, hd8⟩
   have D8 := hid_intro hd8
   clear hd8 D7 R7 A7
   go_wp2_with fail
   refine HK.out _ _ _ _ _ _ _ _ _ _ _ _ _ _ _ _ _ _ _ _ _ _ _ _ _ _ _ _ _ ?_
   exact ⟨cs8, _, ys8, _, _, D8.out.wide (by omega), by rw [lsn_same, List.length_append]; show _ + 1 ≤ _; omega, by rw [lsn_far _ _ (by omega)]; omega⟩
  ·have hp0 : (ss i).pages = 0 := by omega
   go_wp2_with fail
   refine (dn_read_no HD.out hb hp0).mono ?_
   rintro e w1 ⟨cs1, rfl, hd1⟩
   have D1' := hid_intro hd1
   clear hd1
   go_wp2_with fail
   refine (dn_read_no D1'.out hb hp0).mono ?_
   rintro e w2 ⟨cs2, rfl, hd2⟩
   have D2 := hid_intro hd2
   clear hd2
   go_wp2_with fail
   refine (dn_nil D2.out (by omega)).mono ?_
   rintro e w3 ⟨rfl, cs3, ys3, s3, _, hs3, hd3⟩
   have D3 := hid_intro hd3
   clear hd3
   go_wp2_with fail
   refine (dn_nil D3.out (by rw [lsn_same, List.length_append]; show _ + 1 ≤ _; omega)).mono ?_
   rintro e w4 ⟨rfl, cs4, ys4, s4, _, hs4, hd4⟩
   obtain ⟨L4, hL4⟩ : ∃ L4, L4 = lsn (lsn L 0 [s3]) 0 [s4] := ⟨_, rfl⟩
   rw [← hL4] at hd4
   have D4 := hid_intro (hd4.wide (show t ≤ t + 1 + 1 by omega))
   have h40 : (L4 0).length ≤ c + 2 := by rw [hL4, lsn_same, lsn_same]; simp; omega
   have h49 : (L4 9).length ≤ c := by rw [hL4, lsn_far _ _ (by omega), lsn_far _ _ (by omega)]; omega
   clear hd4 D3 D2 D1' HD hL4
   go_wp2_with fail
   refine (dn_pending D4.out hb (by omega)).mono ?_
   rintro e w5 ⟨g5, ql, cs5, rfl, hwl, hql, hke, hd5, hfr⟩
   have D5 := hid_intro hd5
   have W5 := hid_intro hwl
   have F5 := hid_intro hfr
   have LT4 := hid_intro (fun j hj s hs => (.inr (D4.out.kst.lt hj hs) : s.C = 0 ∨ s.g < w4.heap.size) : ∀ j, j < 13 → ∀ s ∈ L4 j, s.C = 0 ∨ s.g < w4.heap.size)
   clear hd5 hwl hfr hke
   go_wp2_with fail
   refine (dn_writes D5.out W5.out (fun d h1 _ => F5.out d h1) LT4.out (by omega) (by omega) (by omega)).mono ?_
   rintro e w6 ⟨rfl, cs6, L6, ys6, hf6, hd6, hl0, hl9⟩
   have D6 := hid_intro hd6
   clear hd6 hf6 D5 W5 F5 LT4
   go_wp2_with fail
   refine (dn_durable D6.out hb).mono ?_
   rintro e w7 ⟨g7, n7, C7, cs7, rfl, ho7, hn7, hm7, hg7, _, hd7, hfr7, _⟩
   have D7 := hid_intro hd7
   have R7 := hid_intro (rdy_ow ho7 hn7 (by omega) (hfr7 g7 hg7))
   have A7 := hid_intro (fun s hs => (.inr (by have := D6.out.kst.lt (show 0 < 13 by omega) hs; omega) : s.C = 0 ∨ s.g ≠ g7) : ∀ s ∈ L6 0, s.C = 0 ∨ s.g ≠ g7)
   clear hd7 ho7 hn7 hfr7 D6
   go_wp2_with fail
   refine (dn_bytes D7.out R7.out A7.out (by omega)).mono ?_
   rintro e w8 ⟨rfl, cs8, ys8, _, hd8⟩
   have D8 := hid_intro hd8
   clear hd8 D7 R7 A7
   go_wp2_with fail
   refine HK.out _ _ _ _ _ _ _ _ _ _ _ _ _ _ _ _ _ _ _ _ _ _ _ _ _ _ _ _ _ ?_
   exact ⟨cs8, _, ys8, _, _, D8.out.wide (by omega), by rw [lsn_same, List.length_append]; show _ + 1 ≤ _; omega, by rw [lsn_far _ _ (by omega)]; omega⟩
end Go.Proofs.YtedpeggdbedmiaaGreatDoor
namespace Go.Proofs.YtedpeggdbedmiaaGreatDoor
open Go.RowKit Go.MuLone
theorem wp_thenD {P : Program} {s : Code} {Q : Exit → Act → World → Prop} {a : Act} {w : World} (h : s.wp P (Exit.then (fun a w => Q .normal a w) Q) a w) : s.wp P Q a w := by
 refine wp_mono h ?_
 intro e a' w' hq
 cases e with
 | normal => exact hq
 | exit id => exact hq
 | goto l => exact hq
 | ret => exact hq
 | panic ch => exact hq
 | outgrown => exact hq
set_option maxHeartbeats 16000000 in
set_option maxRecDepth 8000 in
theorem own3 {y1 y2 y3 y6 y7 y9 y10 y11 y12 y13 y14 y15 y16 y17 y18 y19 y20 y21 y22 y23 y24 y25 y26 y27 y28 y29 y30 y31 y32 y33 y34 y35 y36 y37 y38 y39 y40 y41 y42 y43 y44 y45 y46 y47 y48 y49 y50 y51 y52 y53 y54 y55 y56 y57 y58 y59 y60 y61 y62 y63 y64 y65 y66 y67 y68 y69 y70 y71 y72 y73 y74 y75 y76 y77 y78 y79 y80 y81 y82 y83 y84 y85 y86 y87 y88 y89 y90 y91 y92 y93 y94 y95 y96 y97 y98 y99 y100 y101 y102 y103 y104 y105 y106 y107 y108 y109 y110 y111 y112 y113 y114 y115 y116 y117 y118 y119 y120 y121 y122 y123 y124 y125 y126 y127 y128 y129 : Value} {w wc : World} {ao : Option Addr} {n cap k B base t c : Nat} {vd : Value} {bs : List Nat} (hp : Pus w ao n) (hk : k < n) (hk30 : k < 30) (ht : t ≤ 400) (hc : c ≤ 50000) (hX : Dx w wc B base vd bs t c) {K : Act → World → Prop} {Q' : Exit → Act → World → Prop}
  (hK : ∀ (v9 v10 v11 v12 v13 v44 v45 v46 v47 v48 v49 v50 v51 v52 v53 v54 v55 v56 v57 v58 v59 v60 v61 v62 v63 v64 v65 v66 v67 v68 v69 v70 v71 v72 v73 v74 v75 v76 v77 v78 v79 v80 v81 v82 v83 v84 v85 v86 v87 v88 v89 v90 v91 v92 v93 : Value) (wx : World), (Dx w wx B base vd bs (t + 4) (c + (t + 2) + 10)) → K ⟨#[.slice ao n cap, y1, y2, y3, .pointer (some ⟨B, 0, none⟩), vd, y6, y7, .int .i64 (k : Int), v9, v10, v11, v12, v13, y14, y15, y16, y17, y18, y19, y20, y21, y22, y23, y24, y25, y26, y27, y28, y29, y30, y31, y32, y33, y34, y35, y36, y37, y38, y39, y40, y41, y42, y43, v44, v45, v46, v47, v48, v49, v50, v51, v52, v53, v54, v55, v56, v57, v58, v59, v60, v61, v62, v63, v64, v65, v66, v67, v68, v69, v70, v71, v72, v73, v74, v75, v76, v77, v78, v79, v80, v81, v82, v83, v84, v85, v86, v87, v88, v89, v90, v91, v92, v93, y94, y95, y96, y97, y98, y99, y100, y101, y102, y103, y104, y105, y106, y107, y108, y109, y110, y111, y112, y113, y114, y115, y116, y117, y118, y119, y120, y121, y122, y123, y124, y125, y126, y127, y128, y129], []⟩ wx) :
  Code.wp Tryz.prog (Go.Code.block 3 ((Go.Code.region 14 #[{ dst := some 44, op := Go.Op.move (Go.Operand.tmp 5), type := 40, pos := "law.go:363", after := #[], guard := none }, { dst := some 45, op := Go.Op.move (Go.Operand.tmp 8), type := 3, pos := "law.go:363", after := #[], guard := none }, { dst := some 46, op := Go.Op.binOp Go.BinOp.mul 3 (Go.Operand.const (Go.Value.int Go.IntKind.i64 3)) (Go.Operand.tmp 45) 3, type := 3, pos := "law.go:363", after := #[{ on := 1, ground := Go.Ground.data }], guard := none }, { dst := some 47, op := Go.Op.binOp Go.BinOp.rem 3 (Go.Operand.tmp 46) (Go.Operand.const (Go.Value.int Go.IntKind.i64 8)) 3, type := 3, pos := "law.go:363", after := #[{ on := 2, ground := Go.Ground.data }], guard := none }, { dst := some 48, op := Go.Op.indexAddr 40 (Go.Operand.tmp 44) (Go.Operand.tmp 47), type := 0, pos := "law.go:363", after := #[{ on := 0, ground := Go.Ground.data }, { on := 3, ground := Go.Ground.data }], guard := none }, { dst := some 49, op := Go.Op.load 41 (Go.Operand.tmp 48), type := 41, pos := "law.go:363", after := #[{ on := 4, ground := Go.Ground.data }], guard := none }, { dst := some 9, op := Go.Op.assign (Go.Operand.tmp 49), type := 41, pos := "law.go:363", after := #[{ on := 5, ground := Go.Ground.data }, { on := 0, ground := Go.Ground.phase }, { on := 1, ground := Go.Ground.phase }, { on := 2, ground := Go.Ground.phase }, { on := 3, ground := Go.Ground.phase }, { on := 4, ground := Go.Ground.phase }, { on := 5, ground := Go.Ground.phase }], guard := none }] false).seq ((Go.Code.region 15 #[{ dst := some 50, op := Go.Op.move (Go.Operand.tmp 9), type := 41, pos := "law.go:364", after := #[], guard := none }, { dst := some 51, op := Go.Op.move (Go.Operand.tmp 0), type := 22, pos := "law.go:364", after := #[], guard := none }, { dst := some 52, op := Go.Op.move (Go.Operand.tmp 8), type := 3, pos := "law.go:364", after := #[], guard := none }, { dst := some 53, op := Go.Op.indexAddr 22 (Go.Operand.tmp 51) (Go.Operand.tmp 52), type := 0, pos := "law.go:364", after := #[{ on := 1, ground := Go.Ground.data }, { on := 2, ground := Go.Ground.data }], guard := none }, { dst := some 54, op := Go.Op.fieldAddr 46 (Go.Operand.tmp 53) 0, type := 0, pos := "law.go:364", after := #[{ on := 3, ground := Go.Ground.data }], guard := none }, { dst := some 55, op := Go.Op.load 3 (Go.Operand.tmp 54), type := 3, pos := "law.go:364", after := #[{ on := 4, ground := Go.Ground.data }], guard := none }, { dst := some 56, op := Go.Op.move (Go.Operand.tmp 0), type := 22, pos := "law.go:364", after := #[], guard := none }, { dst := some 57, op := Go.Op.move (Go.Operand.tmp 8), type := 3, pos := "law.go:364", after := #[], guard := none }, { dst := some 58, op := Go.Op.indexAddr 22 (Go.Operand.tmp 56) (Go.Operand.tmp 57), type := 0, pos := "law.go:364", after := #[{ on := 6, ground := Go.Ground.data }, { on := 7, ground := Go.Ground.data }], guard := none }, { dst := some 59, op := Go.Op.fieldAddr 46 (Go.Operand.tmp 58) 1, type := 0, pos := "law.go:364", after := #[{ on := 8, ground := Go.Ground.data }], guard := none }, { dst := some 60, op := Go.Op.load 5 (Go.Operand.tmp 59), type := 5, pos := "law.go:364", after := #[{ on := 9, ground := Go.Ground.data }], guard := none }, { dst := some 61, op := Go.Op.call { callee := Go.Callee.value (Go.Operand.func 7), args := #[Go.Operand.tmp 60], argTypes := #[5] }, type := 47, pos := "law.go:364", after := #[{ on := 10, ground := Go.Ground.data }], guard := none }, { dst := some 62, op := Go.Op.call { callee := Go.Callee.value (Go.Operand.func 6), args := #[Go.Operand.tmp 50, Go.Operand.tmp 55, Go.Operand.tmp 61], argTypes := #[41, 3, 47] }, type := 43, pos := "law.go:364", after := #[{ on := 0, ground := Go.Ground.data }, { on := 5, ground := Go.Ground.data }, { on := 11, ground := Go.Ground.data }, { on := 11, ground := Go.Ground.chain }], guard := none }] true).seq (((Go.Code.region 16 #[{ dst := some 63, op := Go.Op.move (Go.Operand.tmp 8), type := 3, pos := "law.go:365", after := #[], guard := none }, { dst := some 64, op := Go.Op.binOp Go.BinOp.rem 3 (Go.Operand.tmp 63) (Go.Operand.const (Go.Value.int Go.IntKind.i64 5)) 3, type := 3, pos := "law.go:365", after := #[{ on := 0, ground := Go.Ground.data }], guard := none }, { dst := some 65, op := Go.Op.binOp Go.BinOp.eql 3 (Go.Operand.tmp 64) (Go.Operand.const (Go.Value.int Go.IntKind.i64 4)) 3, type := 4, pos := "law.go:365", after := #[{ on := 1, ground := Go.Ground.data }], guard := none }] false).seq (Go.Code.cond (Go.Operand.tmp 65) (Go.Code.region 17 #[{ dst := some 66, op := Go.Op.move (Go.Operand.tmp 9), type := 41, pos := "law.go:366", after := #[], guard := none }, { dst := some 67, op := Go.Op.call { callee := Go.Callee.value (Go.Operand.func 8), args := #[Go.Operand.tmp 66], argTypes := #[41] }, type := 43, pos := "law.go:366", after := #[{ on := 0, ground := Go.Ground.data }], guard := none }] false) Go.Code.skip)).seq ((Go.Code.region 18 #[{ dst := some 68, op := Go.Op.move (Go.Operand.tmp 8), type := 3, pos := "law.go:368", after := #[], guard := none }, { dst := some 69, op := Go.Op.binOp Go.BinOp.lss 3 (Go.Operand.tmp 68) (Go.Operand.const (Go.Value.int Go.IntKind.i64 6)) 3, type := 4, pos := "law.go:368", after := #[{ on := 0, ground := Go.Ground.data }], guard := none }] false).seq (Go.Code.cond (Go.Operand.tmp 69) ((Go.Code.region 19 #[{ dst := some 71, op := Go.Op.move (Go.Operand.tmp 9), type := 41, pos := "law.go:369", after := #[], guard := none }, { dst := some 72, op := Go.Op.call { callee := Go.Callee.value (Go.Operand.func 9), args := #[Go.Operand.tmp 71, Go.Operand.const (Go.Value.int Go.IntKind.i64 0)], argTypes := #[41, 3] }, type := 50, pos := "law.go:369", after := #[{ on := 0, ground := Go.Ground.data }], guard := none }, { dst := some 70, op := Go.Op.move (Go.Operand.tmp 72), type := 50, pos := "law.go:369", after := #[{ on := 1, ground := Go.Ground.data }], guard := none }, { dst := some 73, op := Go.Op.extract (Go.Operand.tmp 70) 0, type := 47, pos := "law.go:369", after := #[{ on := 2, ground := Go.Ground.data }], guard := none }, { dst := some 74, op := Go.Op.extract (Go.Operand.tmp 70) 1, type := 43, pos := "law.go:369", after := #[{ on := 2, ground := Go.Ground.data }, { on := 5, ground := Go.Ground.gcOnly Go.Departure.lateStores }], guard := none }, { dst := some 10, op := Go.Op.assign (Go.Operand.tmp 73), type := 47, pos := "law.go:369", after := #[{ on := 3, ground := Go.Ground.data }, { on := 1, ground := Go.Ground.chain }, { on := 0, ground := Go.Ground.phase }, { on := 1, ground := Go.Ground.phase }, { on := 2, ground := Go.Ground.phase }, { on := 3, ground := Go.Ground.phase }, { on := 4, ground := Go.Ground.textOnly Go.Departure.lateStores }], guard := none }, { dst := some 11, op := Go.Op.assign (Go.Operand.tmp 74), type := 43, pos := "law.go:369", after := #[{ on := 4, ground := Go.Ground.data }, { on := 5, ground := Go.Ground.chain }, { on := 0, ground := Go.Ground.phase }, { on := 1, ground := Go.Ground.phase }, { on := 2, ground := Go.Ground.phase }, { on := 3, ground := Go.Ground.phase }, { on := 4, ground := Go.Ground.phase }, { on := 5, ground := Go.Ground.phase }], guard := none }] false).seq ((Go.Code.region 20 #[{ dst := some 76, op := Go.Op.move (Go.Operand.tmp 9), type := 41, pos := "law.go:370", after := #[], guard := none }, { dst := some 77, op := Go.Op.call { callee := Go.Callee.value (Go.Operand.func 9), args := #[Go.Operand.tmp 76, Go.Operand.const (Go.Value.int Go.IntKind.i64 0)], argTypes := #[41, 3] }, type := 50, pos := "law.go:370", after := #[{ on := 0, ground := Go.Ground.data }], guard := none }, { dst := some 75, op := Go.Op.move (Go.Operand.tmp 77), type := 50, pos := "law.go:370", after := #[{ on := 1, ground := Go.Ground.data }], guard := none }, { dst := some 78, op := Go.Op.extract (Go.Operand.tmp 75) 0, type := 47, pos := "law.go:370", after := #[{ on := 2, ground := Go.Ground.data }], guard := none }, { dst := some 79, op := Go.Op.extract (Go.Operand.tmp 75) 1, type := 43, pos := "law.go:370", after := #[{ on := 2, ground := Go.Ground.data }, { on := 5, ground := Go.Ground.gcOnly Go.Departure.lateStores }], guard := none }, { dst := some 12, op := Go.Op.assign (Go.Operand.tmp 78), type := 47, pos := "law.go:370", after := #[{ on := 3, ground := Go.Ground.data }, { on := 1, ground := Go.Ground.chain }, { on := 0, ground := Go.Ground.phase }, { on := 1, ground := Go.Ground.phase }, { on := 2, ground := Go.Ground.phase }, { on := 3, ground := Go.Ground.phase }, { on := 4, ground := Go.Ground.textOnly Go.Departure.lateStores }], guard := none }, { dst := some 13, op := Go.Op.assign (Go.Operand.tmp 79), type := 43, pos := "law.go:370", after := #[{ on := 4, ground := Go.Ground.data }, { on := 5, ground := Go.Ground.chain }, { on := 0, ground := Go.Ground.phase }, { on := 1, ground := Go.Ground.phase }, { on := 2, ground := Go.Ground.phase }, { on := 3, ground := Go.Ground.phase }, { on := 4, ground := Go.Ground.phase }, { on := 5, ground := Go.Ground.phase }], guard := none }] false).seq ((Go.Code.region 21 #[{ dst := some 80, op := Go.Op.move (Go.Operand.tmp 4), type := 24, pos := "law.go:371", after := #[], guard := none }, { dst := some 81, op := Go.Op.move (Go.Operand.tmp 10), type := 47, pos := "law.go:371", after := #[], guard := none }, { dst := some 82, op := Go.Op.call { callee := Go.Callee.value (Go.Operand.func 10), args := #[Go.Operand.tmp 80, Go.Operand.tmp 81], argTypes := #[24, 47] }, type := 0, pos := "law.go:371", after := #[{ on := 0, ground := Go.Ground.data }, { on := 1, ground := Go.Ground.data }], guard := none }] false).seq ((Go.Code.region 22 #[{ dst := some 83, op := Go.Op.move (Go.Operand.tmp 4), type := 24, pos := "law.go:372", after := #[], guard := none }, { dst := some 84, op := Go.Op.move (Go.Operand.tmp 12), type := 47, pos := "law.go:372", after := #[], guard := none }, { dst := some 85, op := Go.Op.call { callee := Go.Callee.value (Go.Operand.func 10), args := #[Go.Operand.tmp 83, Go.Operand.tmp 84], argTypes := #[24, 47] }, type := 0, pos := "law.go:372", after := #[{ on := 0, ground := Go.Ground.data }, { on := 1, ground := Go.Ground.data }], guard := none }] false).seq ((Go.Code.region 23 #[{ dst := some 86, op := Go.Op.move (Go.Operand.tmp 4), type := 24, pos := "law.go:373", after := #[], guard := none }, { dst := some 87, op := Go.Op.move (Go.Operand.tmp 9), type := 41, pos := "law.go:373", after := #[], guard := none }, { dst := some 88, op := Go.Op.call { callee := Go.Callee.value (Go.Operand.func 12), args := #[Go.Operand.tmp 87], argTypes := #[41] }, type := 54, pos := "law.go:373", after := #[{ on := 1, ground := Go.Ground.data }], guard := none }, { dst := some 89, op := Go.Op.call { callee := Go.Callee.value (Go.Operand.func 11), args := #[Go.Operand.tmp 86, Go.Operand.tmp 88], argTypes := #[24, 54] }, type := 0, pos := "law.go:373", after := #[{ on := 0, ground := Go.Ground.data }, { on := 2, ground := Go.Ground.data }, { on := 2, ground := Go.Ground.chain }], guard := none }] false).seq (Go.Code.region 24 #[{ dst := some 90, op := Go.Op.move (Go.Operand.tmp 4), type := 24, pos := "law.go:374", after := #[], guard := none }, { dst := some 91, op := Go.Op.move (Go.Operand.tmp 9), type := 41, pos := "law.go:374", after := #[], guard := none }, { dst := some 92, op := Go.Op.call { callee := Go.Callee.value (Go.Operand.func 13), args := #[Go.Operand.tmp 91], argTypes := #[41] }, type := 47, pos := "law.go:374", after := #[{ on := 1, ground := Go.Ground.data }], guard := none }, { dst := some 93, op := Go.Op.call { callee := Go.Callee.value (Go.Operand.func 10), args := #[Go.Operand.tmp 90, Go.Operand.tmp 92], argTypes := #[24, 47] }, type := 0, pos := "law.go:374", after := #[{ on := 0, ground := Go.Ground.data }, { on := 2, ground := Go.Ground.data }, { on := 2, ground := Go.Ground.chain }], guard := none }] false)))))) Go.Code.skip)))))) (Exit.then K Q') ⟨#[.slice ao n cap, y1, y2, y3, .pointer (some ⟨B, 0, none⟩), vd, y6, y7, .int .i64 (k : Int), y9, y10, y11, y12, y13, y14, y15, y16, y17, y18, y19, y20, y21, y22, y23, y24, y25, y26, y27, y28, y29, y30, y31, y32, y33, y34, y35, y36, y37, y38, y39, y40, y41, y42, y43, y44, y45, y46, y47, y48, y49, y50, y51, y52, y53, y54, y55, y56, y57, y58, y59, y60, y61, y62, y63, y64, y65, y66, y67, y68, y69, y70, y71, y72, y73, y74, y75, y76, y77, y78, y79, y80, y81, y82, y83, y84, y85, y86, y87, y88, y89, y90, y91, y92, y93, y94, y95, y96, y97, y98, y99, y100, y101, y102, y103, y104, y105, y106, y107, y108, y109, y110, y111, y112, y113, y114, y115, y116, y117, y118, y119, y120, y121, y122, y123, y124, y125, y126, y127, y128, y129], []⟩ wc := by
 have HK := hid_intro hK
 clear hK
 dsimp only
 obtain ⟨cs, L, ys, Fs, ss, hD, hc0, hc9⟩ := hX
 obtain ⟨a, off, no, x, rfl, hbl, cn0, cx0, hno, hx0, hx1⟩ := hp.row k hk
 have hk' : (k : Int) < (n : Int) := by omega
 have cn := hD.gr.cell cn0 (by simp)
 have cx := hD.gr.cell cx0 (by simp)
 have hj : 3 * k % 8 < 8 := Nat.mod_lt _ (by omega)
 have hbl8 := hD.bl
 obtain ⟨b, hb⟩ : ∃ b, bs[3 * k % 8]? = some b := ⟨_, List.getElem?_eq_getElem (by omega)⟩
 obtain ⟨gv, cv, cur, hv, _, hgc, _⟩ := hD.vo.2.resolve_left (fun e => by have := e.2; omega)
 subst hv
 have cd : wc.cell? ⟨gv, 3 * k % 8, none⟩ = some (.pointer (some ⟨b, 0, none⟩)) := by
  rw [hD.vo.cellAt (3 * k % 8) (by omega), List.getElem?_map, hb]; rfl
 have m1 : (3 * (k : Int)).tmod 8 = ((3 * k % 8 : Nat) : Int) := by rw [Int.tmod_eq_emod_of_nonneg (by omega)]; omega
 have m2 : ((3 * k % 8 : Nat) : Int) < 8 := by omega
 have HD := hid_intro hD
 have HW : Hid (∀ W, wc.grownBy W none → Rw W wc.heap.size (fp x) → Calls Tryz.prog 6 #[.pointer (some ⟨b, 0, none⟩), .int .i64 no, .slice (some ⟨wc.heap.size, 0, none⟩) 4096 4096] W fun e w' => ∃ r, e = .returned (.int .i64 r) ∧ Dx w w' B base (.slice (some ⟨gv, 0, none⟩) 8 cv) bs (t + 1) c) :=
  fun W h1 h2 => (dn_write HD.out hb (by omega) no x ⟨hx0, hx1⟩ h1 h2).mono (fun e w' hq => by
   obtain ⟨r, cs', Fs', ss', e1, e2⟩ := hq
   exact ⟨r, e1, cs', L, ys, Fs', ss', e2, hc0, hc9⟩)
 clear hD hgc cn0 cx0 hp
 obtain ⟨j, hjd⟩ : ∃ j, j = 3 * k % 8 := ⟨_, rfl⟩
 rw [← hjd] at hb cd m1 m2 hj
 have HJ := hid_intro hjd
 clear hjd
 go_upto_region 15 with fail
 go_cut [9] from 44 to 93 (fun s9 wx => s9 = .pointer (some ⟨b, 0, none⟩) ∧ Dx w wx B base (.slice (some ⟨gv, 0, none⟩) 8 cv) bs (t + 1) c)
 case first =>
  rename_i J K' hJ hM
  refine own15 hk' cn cx HW ?_
  intro _ _ _ _ _ _ _ _ _ _ _ _ _ wx hrl
  refine hM _ _ ?_
  go_meet
  exact ⟨rfl, hrl⟩
 case rest =>
  obtain ⟨rfl, hX1⟩ := hcut
  have X1 := hid_intro hX1
  clear hX1 HW cn cx cd HD
  go_upto_region 16 with fail
  go_cut [65] from 44 to 93 (fun s65 wx => (∃ q, s65 = .bool q) ∧ wx = wc)
  case first =>
   go_wp2_with fail
   go_meet
   exact ⟨⟨_, rfl⟩, rfl⟩
  case rest =>
   obtain ⟨⟨q, rfl⟩, rfl⟩ := hcut
   go_upto_if 65 with fail
   go_cut [67] from 44 to 93 (fun _ wx => Dx w wx B base (.slice (some ⟨gv, 0, none⟩) 8 cv) bs (t + 2) c)
   case first =>
    obtain ⟨cs1, L1, ys1, Fs1, ss1, hD1, hd0, hd9⟩ := X1.out
    cases q with
    | true =>
     go_wp2_with fail
     refine (dn_sync hD1 hb (by omega)).mono ?_
     rintro e w5 ⟨r5, cs5, Fs5, ss5, rfl, hd5⟩
     go_wp2_with fail
     go_meet
     exact ⟨cs5, L1, ys1, Fs5, ss5, hd5, hd0, hd9⟩
    | false =>
     go_wp2_with fail
     go_meet
     exact ⟨cs1, L1, ys1, Fs1, ss1, hD1.wide (by omega), hd0, hd9⟩
   case rest =>
    have X2 := hid_intro hcut
    clear hcut X1
    go_upto_region 18 with fail
    go_cut [69] from 44 to 93 (fun s69 wx => (∃ q, s69 = .bool q) ∧ wx = wc)
    case first =>
     go_wp2_with fail
     go_meet
     exact ⟨⟨_, rfl⟩, rfl⟩
    case rest =>
     obtain ⟨⟨q2, rfl⟩, rfl⟩ := hcut
     go_upto_if 69 with fail
     refine wp_thenD ?_
     refine own69 hb (by omega) hc X2.out ?_
     intro _ _ _ _ _ _ _ _ _ _ _ _ _ _ _ _ _ _ _ _ _ _ _ _ _ _ _ _ wx hrl
     have X3 := hid_intro hrl
     clear hrl
     go_wp2_with fail
     refine HK.out _ _ _ _ _ _ _ _ _ _ _ _ _ _ _ _ _ _ _ _ _ _ _ _ _ _ _ _ _ _ _ _ _ _ _ _ _ _ _ _ _ _ _ _ _ _ _ _ _ _ _ _ _ _ _ _ ?_
     exact X3.out
set_option maxHeartbeats 16000000 in
set_option maxRecDepth 8000 in
theorem own2 {y1 y2 y3 y6 y7 y9 y10 y11 y12 y13 y14 y15 y16 y17 y18 y19 y20 y21 y22 y23 y24 y25 y26 y27 y28 y29 y30 y31 y32 y33 y34 y35 y36 y37 y38 y39 y40 y41 y42 y43 y44 y45 y46 y47 y48 y49 y50 y51 y52 y53 y54 y55 y56 y57 y58 y59 y60 y61 y62 y63 y64 y65 y66 y67 y68 y69 y70 y71 y72 y73 y74 y75 y76 y77 y78 y79 y80 y81 y82 y83 y84 y85 y86 y87 y88 y89 y90 y91 y92 y93 y94 y95 y96 y97 y98 y99 y100 y101 y102 y103 y104 y105 y106 y107 y108 y109 y110 y111 y112 y113 y114 y115 y116 y117 y118 y119 y120 y121 y122 y123 y124 y125 y126 y127 y128 y129 : Value} {w wc : World} {ao : Option Addr} {n cap B base : Nat} {vd : Value} {bs : List Nat} (hp : Pus w ao n) (hX : Dx w wc B base vd bs 0 0) {K : Act → World → Prop} {Q' : Exit → Act → World → Prop}
  (hK : ∀ (v8 v9 v10 v11 v12 v13 v34 v35 v36 v37 v38 v39 v40 v41 v42 v43 v44 v45 v46 v47 v48 v49 v50 v51 v52 v53 v54 v55 v56 v57 v58 v59 v60 v61 v62 v63 v64 v65 v66 v67 v68 v69 v70 v71 v72 v73 v74 v75 v76 v77 v78 v79 v80 v81 v82 v83 v84 v85 v86 v87 v88 v89 v90 v91 v92 v93 : Value) (wx : World), (Dx w wx B base vd bs 120 6000) → K ⟨#[.slice ao n cap, y1, y2, y3, .pointer (some ⟨B, 0, none⟩), vd, y6, y7, v8, v9, v10, v11, v12, v13, y14, y15, y16, y17, y18, y19, y20, y21, y22, y23, y24, y25, y26, y27, y28, y29, y30, y31, y32, y33, v34, v35, v36, v37, v38, v39, v40, v41, v42, v43, v44, v45, v46, v47, v48, v49, v50, v51, v52, v53, v54, v55, v56, v57, v58, v59, v60, v61, v62, v63, v64, v65, v66, v67, v68, v69, v70, v71, v72, v73, v74, v75, v76, v77, v78, v79, v80, v81, v82, v83, v84, v85, v86, v87, v88, v89, v90, v91, v92, v93, y94, y95, y96, y97, y98, y99, y100, y101, y102, y103, y104, y105, y106, y107, y108, y109, y110, y111, y112, y113, y114, y115, y116, y117, y118, y119, y120, y121, y122, y123, y124, y125, y126, y127, y128, y129], []⟩ wx) :
  Code.wp Tryz.prog (Go.Code.block 2 (((Go.Code.region 12 #[{ dst := some 34, op := Go.Op.move (Go.Operand.tmp 8), type := 3, pos := "law.go:362", after := #[], guard := none }, { dst := some 35, op := Go.Op.move (Go.Operand.tmp 0), type := 22, pos := "law.go:362", after := #[], guard := none }, { dst := some 36, op := Go.Op.call { callee := Go.Callee.builtin Go.Builtin.len, args := #[Go.Operand.tmp 35], argTypes := #[22] }, type := 3, pos := "law.go:362", after := #[{ on := 1, ground := Go.Ground.data }], guard := none }, { dst := some 37, op := Go.Op.binOp Go.BinOp.lss 3 (Go.Operand.tmp 34) (Go.Operand.tmp 36) 3, type := 4, pos := "law.go:362", after := #[{ on := 0, ground := Go.Ground.data }, { on := 2, ground := Go.Ground.data }], guard := none }, { dst := some 38, op := Go.Op.move (Go.Operand.tmp 37), type := 4, pos := "law.go:362", after := #[{ on := 3, ground := Go.Ground.data }], guard := none }, { dst := some 39, op := Go.Op.move (Go.Operand.tmp 8), type := 3, pos := "law.go:362", after := #[{ on := 4, ground := Go.Ground.guard }], guard := some (4, true) }, { dst := some 40, op := Go.Op.binOp Go.BinOp.lss 3 (Go.Operand.tmp 39) (Go.Operand.const (Go.Value.int Go.IntKind.i64 30)) 3, type := 4, pos := "law.go:362", after := #[{ on := 5, ground := Go.Ground.data }, { on := 4, ground := Go.Ground.guard }], guard := some (4, true) }, { dst := some 41, op := Go.Op.pick (Go.Operand.tmp 38) (Go.Operand.tmp 40) (Go.Operand.const (Go.Value.bool false)), type := 4, pos := "law.go:362", after := #[{ on := 4, ground := Go.Ground.data }, { on := 6, ground := Go.Ground.data }], guard := none }] false).seq (Go.Code.cond (Go.Operand.tmp 41) Go.Code.skip (Go.Code.exit 2))).seq ((Go.Code.block 3 ((Go.Code.region 14 #[{ dst := some 44, op := Go.Op.move (Go.Operand.tmp 5), type := 40, pos := "law.go:363", after := #[], guard := none }, { dst := some 45, op := Go.Op.move (Go.Operand.tmp 8), type := 3, pos := "law.go:363", after := #[], guard := none }, { dst := some 46, op := Go.Op.binOp Go.BinOp.mul 3 (Go.Operand.const (Go.Value.int Go.IntKind.i64 3)) (Go.Operand.tmp 45) 3, type := 3, pos := "law.go:363", after := #[{ on := 1, ground := Go.Ground.data }], guard := none }, { dst := some 47, op := Go.Op.binOp Go.BinOp.rem 3 (Go.Operand.tmp 46) (Go.Operand.const (Go.Value.int Go.IntKind.i64 8)) 3, type := 3, pos := "law.go:363", after := #[{ on := 2, ground := Go.Ground.data }], guard := none }, { dst := some 48, op := Go.Op.indexAddr 40 (Go.Operand.tmp 44) (Go.Operand.tmp 47), type := 0, pos := "law.go:363", after := #[{ on := 0, ground := Go.Ground.data }, { on := 3, ground := Go.Ground.data }], guard := none }, { dst := some 49, op := Go.Op.load 41 (Go.Operand.tmp 48), type := 41, pos := "law.go:363", after := #[{ on := 4, ground := Go.Ground.data }], guard := none }, { dst := some 9, op := Go.Op.assign (Go.Operand.tmp 49), type := 41, pos := "law.go:363", after := #[{ on := 5, ground := Go.Ground.data }, { on := 0, ground := Go.Ground.phase }, { on := 1, ground := Go.Ground.phase }, { on := 2, ground := Go.Ground.phase }, { on := 3, ground := Go.Ground.phase }, { on := 4, ground := Go.Ground.phase }, { on := 5, ground := Go.Ground.phase }], guard := none }] false).seq ((Go.Code.region 15 #[{ dst := some 50, op := Go.Op.move (Go.Operand.tmp 9), type := 41, pos := "law.go:364", after := #[], guard := none }, { dst := some 51, op := Go.Op.move (Go.Operand.tmp 0), type := 22, pos := "law.go:364", after := #[], guard := none }, { dst := some 52, op := Go.Op.move (Go.Operand.tmp 8), type := 3, pos := "law.go:364", after := #[], guard := none }, { dst := some 53, op := Go.Op.indexAddr 22 (Go.Operand.tmp 51) (Go.Operand.tmp 52), type := 0, pos := "law.go:364", after := #[{ on := 1, ground := Go.Ground.data }, { on := 2, ground := Go.Ground.data }], guard := none }, { dst := some 54, op := Go.Op.fieldAddr 46 (Go.Operand.tmp 53) 0, type := 0, pos := "law.go:364", after := #[{ on := 3, ground := Go.Ground.data }], guard := none }, { dst := some 55, op := Go.Op.load 3 (Go.Operand.tmp 54), type := 3, pos := "law.go:364", after := #[{ on := 4, ground := Go.Ground.data }], guard := none }, { dst := some 56, op := Go.Op.move (Go.Operand.tmp 0), type := 22, pos := "law.go:364", after := #[], guard := none }, { dst := some 57, op := Go.Op.move (Go.Operand.tmp 8), type := 3, pos := "law.go:364", after := #[], guard := none }, { dst := some 58, op := Go.Op.indexAddr 22 (Go.Operand.tmp 56) (Go.Operand.tmp 57), type := 0, pos := "law.go:364", after := #[{ on := 6, ground := Go.Ground.data }, { on := 7, ground := Go.Ground.data }], guard := none }, { dst := some 59, op := Go.Op.fieldAddr 46 (Go.Operand.tmp 58) 1, type := 0, pos := "law.go:364", after := #[{ on := 8, ground := Go.Ground.data }], guard := none }, { dst := some 60, op := Go.Op.load 5 (Go.Operand.tmp 59), type := 5, pos := "law.go:364", after := #[{ on := 9, ground := Go.Ground.data }], guard := none }, { dst := some 61, op := Go.Op.call { callee := Go.Callee.value (Go.Operand.func 7), args := #[Go.Operand.tmp 60], argTypes := #[5] }, type := 47, pos := "law.go:364", after := #[{ on := 10, ground := Go.Ground.data }], guard := none }, { dst := some 62, op := Go.Op.call { callee := Go.Callee.value (Go.Operand.func 6), args := #[Go.Operand.tmp 50, Go.Operand.tmp 55, Go.Operand.tmp 61], argTypes := #[41, 3, 47] }, type := 43, pos := "law.go:364", after := #[{ on := 0, ground := Go.Ground.data }, { on := 5, ground := Go.Ground.data }, { on := 11, ground := Go.Ground.data }, { on := 11, ground := Go.Ground.chain }], guard := none }] true).seq (((Go.Code.region 16 #[{ dst := some 63, op := Go.Op.move (Go.Operand.tmp 8), type := 3, pos := "law.go:365", after := #[], guard := none }, { dst := some 64, op := Go.Op.binOp Go.BinOp.rem 3 (Go.Operand.tmp 63) (Go.Operand.const (Go.Value.int Go.IntKind.i64 5)) 3, type := 3, pos := "law.go:365", after := #[{ on := 0, ground := Go.Ground.data }], guard := none }, { dst := some 65, op := Go.Op.binOp Go.BinOp.eql 3 (Go.Operand.tmp 64) (Go.Operand.const (Go.Value.int Go.IntKind.i64 4)) 3, type := 4, pos := "law.go:365", after := #[{ on := 1, ground := Go.Ground.data }], guard := none }] false).seq (Go.Code.cond (Go.Operand.tmp 65) (Go.Code.region 17 #[{ dst := some 66, op := Go.Op.move (Go.Operand.tmp 9), type := 41, pos := "law.go:366", after := #[], guard := none }, { dst := some 67, op := Go.Op.call { callee := Go.Callee.value (Go.Operand.func 8), args := #[Go.Operand.tmp 66], argTypes := #[41] }, type := 43, pos := "law.go:366", after := #[{ on := 0, ground := Go.Ground.data }], guard := none }] false) Go.Code.skip)).seq ((Go.Code.region 18 #[{ dst := some 68, op := Go.Op.move (Go.Operand.tmp 8), type := 3, pos := "law.go:368", after := #[], guard := none }, { dst := some 69, op := Go.Op.binOp Go.BinOp.lss 3 (Go.Operand.tmp 68) (Go.Operand.const (Go.Value.int Go.IntKind.i64 6)) 3, type := 4, pos := "law.go:368", after := #[{ on := 0, ground := Go.Ground.data }], guard := none }] false).seq (Go.Code.cond (Go.Operand.tmp 69) ((Go.Code.region 19 #[{ dst := some 71, op := Go.Op.move (Go.Operand.tmp 9), type := 41, pos := "law.go:369", after := #[], guard := none }, { dst := some 72, op := Go.Op.call { callee := Go.Callee.value (Go.Operand.func 9), args := #[Go.Operand.tmp 71, Go.Operand.const (Go.Value.int Go.IntKind.i64 0)], argTypes := #[41, 3] }, type := 50, pos := "law.go:369", after := #[{ on := 0, ground := Go.Ground.data }], guard := none }, { dst := some 70, op := Go.Op.move (Go.Operand.tmp 72), type := 50, pos := "law.go:369", after := #[{ on := 1, ground := Go.Ground.data }], guard := none }, { dst := some 73, op := Go.Op.extract (Go.Operand.tmp 70) 0, type := 47, pos := "law.go:369", after := #[{ on := 2, ground := Go.Ground.data }], guard := none }, { dst := some 74, op := Go.Op.extract (Go.Operand.tmp 70) 1, type := 43, pos := "law.go:369", after := #[{ on := 2, ground := Go.Ground.data }, { on := 5, ground := Go.Ground.gcOnly Go.Departure.lateStores }], guard := none }, { dst := some 10, op := Go.Op.assign (Go.Operand.tmp 73), type := 47, pos := "law.go:369", after := #[{ on := 3, ground := Go.Ground.data }, { on := 1, ground := Go.Ground.chain }, { on := 0, ground := Go.Ground.phase }, { on := 1, ground := Go.Ground.phase }, { on := 2, ground := Go.Ground.phase }, { on := 3, ground := Go.Ground.phase }, { on := 4, ground := Go.Ground.textOnly Go.Departure.lateStores }], guard := none }, { dst := some 11, op := Go.Op.assign (Go.Operand.tmp 74), type := 43, pos := "law.go:369", after := #[{ on := 4, ground := Go.Ground.data }, { on := 5, ground := Go.Ground.chain }, { on := 0, ground := Go.Ground.phase }, { on := 1, ground := Go.Ground.phase }, { on := 2, ground := Go.Ground.phase }, { on := 3, ground := Go.Ground.phase }, { on := 4, ground := Go.Ground.phase }, { on := 5, ground := Go.Ground.phase }], guard := none }] false).seq ((Go.Code.region 20 #[{ dst := some 76, op := Go.Op.move (Go.Operand.tmp 9), type := 41, pos := "law.go:370", after := #[], guard := none }, { dst := some 77, op := Go.Op.call { callee := Go.Callee.value (Go.Operand.func 9), args := #[Go.Operand.tmp 76, Go.Operand.const (Go.Value.int Go.IntKind.i64 0)], argTypes := #[41, 3] }, type := 50, pos := "law.go:370", after := #[{ on := 0, ground := Go.Ground.data }], guard := none }, { dst := some 75, op := Go.Op.move (Go.Operand.tmp 77), type := 50, pos := "law.go:370", after := #[{ on := 1, ground := Go.Ground.data }], guard := none }, { dst := some 78, op := Go.Op.extract (Go.Operand.tmp 75) 0, type := 47, pos := "law.go:370", after := #[{ on := 2, ground := Go.Ground.data }], guard := none }, { dst := some 79, op := Go.Op.extract (Go.Operand.tmp 75) 1, type := 43, pos := "law.go:370", after := #[{ on := 2, ground := Go.Ground.data }, { on := 5, ground := Go.Ground.gcOnly Go.Departure.lateStores }], guard := none }, { dst := some 12, op := Go.Op.assign (Go.Operand.tmp 78), type := 47, pos := "law.go:370", after := #[{ on := 3, ground := Go.Ground.data }, { on := 1, ground := Go.Ground.chain }, { on := 0, ground := Go.Ground.phase }, { on := 1, ground := Go.Ground.phase }, { on := 2, ground := Go.Ground.phase }, { on := 3, ground := Go.Ground.phase }, { on := 4, ground := Go.Ground.textOnly Go.Departure.lateStores }], guard := none }, { dst := some 13, op := Go.Op.assign (Go.Operand.tmp 79), type := 43, pos := "law.go:370", after := #[{ on := 4, ground := Go.Ground.data }, { on := 5, ground := Go.Ground.chain }, { on := 0, ground := Go.Ground.phase }, { on := 1, ground := Go.Ground.phase }, { on := 2, ground := Go.Ground.phase }, { on := 3, ground := Go.Ground.phase }, { on := 4, ground := Go.Ground.phase }, { on := 5, ground := Go.Ground.phase }], guard := none }] false).seq ((Go.Code.region 21 #[{ dst := some 80, op := Go.Op.move (Go.Operand.tmp 4), type := 24, pos := "law.go:371", after := #[], guard := none }, { dst := some 81, op := Go.Op.move (Go.Operand.tmp 10), type := 47, pos := "law.go:371", after := #[], guard := none }, { dst := some 82, op := Go.Op.call { callee := Go.Callee.value (Go.Operand.func 10), args := #[Go.Operand.tmp 80, Go.Operand.tmp 81], argTypes := #[24, 47] }, type := 0, pos := "law.go:371", after := #[{ on := 0, ground := Go.Ground.data }, { on := 1, ground := Go.Ground.data }], guard := none }] false).seq ((Go.Code.region 22 #[{ dst := some 83, op := Go.Op.move (Go.Operand.tmp 4), type := 24, pos := "law.go:372", after := #[], guard := none }, { dst := some 84, op := Go.Op.move (Go.Operand.tmp 12), type := 47, pos := "law.go:372", after := #[], guard := none }, { dst := some 85, op := Go.Op.call { callee := Go.Callee.value (Go.Operand.func 10), args := #[Go.Operand.tmp 83, Go.Operand.tmp 84], argTypes := #[24, 47] }, type := 0, pos := "law.go:372", after := #[{ on := 0, ground := Go.Ground.data }, { on := 1, ground := Go.Ground.data }], guard := none }] false).seq ((Go.Code.region 23 #[{ dst := some 86, op := Go.Op.move (Go.Operand.tmp 4), type := 24, pos := "law.go:373", after := #[], guard := none }, { dst := some 87, op := Go.Op.move (Go.Operand.tmp 9), type := 41, pos := "law.go:373", after := #[], guard := none }, { dst := some 88, op := Go.Op.call { callee := Go.Callee.value (Go.Operand.func 12), args := #[Go.Operand.tmp 87], argTypes := #[41] }, type := 54, pos := "law.go:373", after := #[{ on := 1, ground := Go.Ground.data }], guard := none }, { dst := some 89, op := Go.Op.call { callee := Go.Callee.value (Go.Operand.func 11), args := #[Go.Operand.tmp 86, Go.Operand.tmp 88], argTypes := #[24, 54] }, type := 0, pos := "law.go:373", after := #[{ on := 0, ground := Go.Ground.data }, { on := 2, ground := Go.Ground.data }, { on := 2, ground := Go.Ground.chain }], guard := none }] false).seq (Go.Code.region 24 #[{ dst := some 90, op := Go.Op.move (Go.Operand.tmp 4), type := 24, pos := "law.go:374", after := #[], guard := none }, { dst := some 91, op := Go.Op.move (Go.Operand.tmp 9), type := 41, pos := "law.go:374", after := #[], guard := none }, { dst := some 92, op := Go.Op.call { callee := Go.Callee.value (Go.Operand.func 13), args := #[Go.Operand.tmp 91], argTypes := #[41] }, type := 47, pos := "law.go:374", after := #[{ on := 1, ground := Go.Ground.data }], guard := none }, { dst := some 93, op := Go.Op.call { callee := Go.Callee.value (Go.Operand.func 10), args := #[Go.Operand.tmp 90, Go.Operand.tmp 92], argTypes := #[24, 47] }, type := 0, pos := "law.go:374", after := #[{ on := 0, ground := Go.Ground.data }, { on := 2, ground := Go.Ground.data }, { on := 2, ground := Go.Ground.chain }], guard := none }] false)))))) Go.Code.skip)))))).seq (Go.Code.region 13 #[{ dst := some 42, op := Go.Op.move (Go.Operand.tmp 8), type := 3, pos := "law.go:362", after := #[], guard := none }, { dst := some 43, op := Go.Op.binOp Go.BinOp.add 3 (Go.Operand.tmp 42) (Go.Operand.const (Go.Value.int Go.IntKind.i64 1)) 3, type := 3, pos := "law.go:362", after := #[{ on := 0, ground := Go.Ground.data }], guard := none }, { dst := some 8, op := Go.Op.assign (Go.Operand.tmp 43), type := 3, pos := "law.go:362", after := #[{ on := 1, ground := Go.Ground.data }, { on := 0, ground := Go.Ground.phase }, { on := 1, ground := Go.Ground.phase }], guard := none }] false))).loop) (Exit.then K Q') ⟨#[.slice ao n cap, y1, y2, y3, .pointer (some ⟨B, 0, none⟩), vd, y6, y7, .int .i64 0, y9, y10, y11, y12, y13, y14, y15, y16, y17, y18, y19, y20, y21, y22, y23, y24, y25, y26, y27, y28, y29, y30, y31, y32, y33, y34, y35, y36, y37, y38, y39, y40, y41, y42, y43, y44, y45, y46, y47, y48, y49, y50, y51, y52, y53, y54, y55, y56, y57, y58, y59, y60, y61, y62, y63, y64, y65, y66, y67, y68, y69, y70, y71, y72, y73, y74, y75, y76, y77, y78, y79, y80, y81, y82, y83, y84, y85, y86, y87, y88, y89, y90, y91, y92, y93, y94, y95, y96, y97, y98, y99, y100, y101, y102, y103, y104, y105, y106, y107, y108, y109, y110, y111, y112, y113, y114, y115, y116, y117, y118, y119, y120, y121, y122, y123, y124, y125, y126, y127, y128, y129], []⟩ wc := by
 have HK := hid_intro hK
 clear hK
 dsimp only
 go_wp2_with fail
 go_loopg [8] 30 (fun gh si wr => ∃ k : Nat, gh = 30 - k ∧ k ≤ n ∧ k ≤ 30 ∧ si = .int .i64 (k : Int) ∧ Dx w wr B base vd bs (4 * k) (200 * k))
 case atStart => exact ⟨0, rfl, Nat.zero_le _, Nat.zero_le _, rfl, hX⟩
 case round =>
  obtain ⟨k, hgh, hkn, hk30, rfl, hX'⟩ := hrel
  have HX := hid_intro hX'
  clear hX'
  by_cases h1 : k < n
  ·have h1' : (k : Int) < (n : Int) := by omega
   by_cases h2 : k < 30
   ·have h2' : (k : Int) < 30 := by omega
    go_upto_block 3 with fail
    go_cut [9] from 34 to 93 (fun _ wx => Dx w wx B base vd bs (4 * k + 4) (200 * k + (4 * k + 2) + 10))
    case first =>
     rename_i J K' hJ hM
     refine own3 hp h1 h2 (by omega) (by omega) HX.out ?_
     intro _ _ _ _ _ _ _ _ _ _ _ _ _ _ _ _ _ _ _ _ _ _ _ _ _ _ _ _ _ _ _ _ _ _ _ _ _ _ _ _ _ _ _ _ _ _ _ _ _ _ _ _ _ _ _ wx hrl
     refine hM _ _ ?_
     go_meet
     exact hrl
    case rest =>
     have HX1 := hid_intro hcut
     clear hcut
     go_wp2
     go_roundg (30 - (k + 1))
     case measure => omega
     case rel =>
      obtain ⟨cs, L, ys, Fs, ss, hD, a1, a2⟩ := HX1.out
      exact ⟨k + 1, rfl, by omega, by omega, by go_num, cs, L, ys, Fs, ss, hD, by omega, by omega⟩
   ·have h2' : ¬ (k : Int) < 30 := by omega
    go_wp2_with fail
    refine HK.out _ _ _ _ _ _ _ _ _ _ _ _ _ _ _ _ _ _ _ _ _ _ _ _ _ _ _ _ _ _ _ _ _ _ _ _ _ _ _ _ _ _ _ _ _ _ _ _ _ _ _ _ _ _ _ _ _ _ _ _ _ _ _ _ _ _ _ ?_
    obtain ⟨cs, L, ys, Fs, ss, hD, a1, a2⟩ := HX.out
    exact ⟨cs, L, ys, Fs, ss, hD.wide (by omega), by omega, by omega⟩
  ·have h1' : ¬ (k : Int) < (n : Int) := by omega
   go_wp2_with fail
   refine HK.out _ _ _ _ _ _ _ _ _ _ _ _ _ _ _ _ _ _ _ _ _ _ _ _ _ _ _ _ _ _ _ _ _ _ _ _ _ _ _ _ _ _ _ _ _ _ _ _ _ _ _ _ _ _ _ _ _ _ _ _ _ _ _ _ _ _ _ ?_
   obtain ⟨cs, L, ys, Fs, ss, hD, a1, a2⟩ := HX.out
   exact ⟨cs, L, ys, Fs, ss, hD.wide (by omega), by omega, by omega⟩
end Go.Proofs.YtedpeggdbedmiaaGreatDoor
namespace Go.Proofs.YtedpeggdbedmiaaGreatDoor
open Go.RowKit Go.MuLone
theorem own_ne_blkD {w : World} {base size n k : Nat} {e e' : TypeId} {v : Value} {xs : List Value} {c : Array Value} {fz : Nat × Nat} (h : w.ownsRow base e size v n xs) (hk : w.heap[k]? = some (.cells c e' fz)) (hne : e' ≠ e) : v.ownBlock ≠ some k := by
 intro hv
 rcases h.2 with ⟨rfl, _⟩ | ⟨g, cap, cur, rfl, _, hg, _⟩
 ·cases hv
 ·have e1 : g = k := Option.some.inj hv
  subst e1
  rw [hk] at hg
  injection hg with hg
  injection hg with _ h2
  exact hne h2
structure Wa (w : World) (base : Nat) (X : Nat → Prop) (vw : Value) (zs : List (Nat × List Int)) : Prop where
 ow : w.ownsRow base 47 1 vw zs.length (zs.map fun x => .slice (some ⟨x.1, 0, none⟩) x.2.length x.2.length)
 vx : ∀ k, vw.ownBlock = some k → X k
 rw : ∀ x ∈ zs, Ow w x.1 x.2.length x.2 ∧ X x.1
theorem Wa.st {w w' : World} {base : Nat} {X : Nat → Prop} {vw : Value} {zs : List (Nat × List Int)} (h : Wa w base X vw zs) (hs : ∀ k, X k → w'.heap[k]? = w.heap[k]?) : Wa w' base X vw zs :=
 ⟨owns_same h.ow (fun k e => hs k (h.vx k e)), h.vx, fun x hx => ⟨(h.rw x hx).1.same (hs x.1 (h.rw x hx).2), (h.rw x hx).2⟩⟩
theorem Wa.add {w wA w' : World} {base g : Nat} {X X' : Nat → Prop} {vw vw' : Value} {zs : List (Nat × List Int)} {z : List Int} (h : Wa w base X vw zs) (hA : w.grownBy wA none) (ho : Ow wA g z.length z) (hg : wA.grownBy w' vw.ownBlock) (own : w'.ownsRow base 47 1 vw' (zs.length + 1) ((zs.map fun x => .slice (some ⟨x.1, 0, none⟩) x.2.length x.2.length) ++ [.slice (some ⟨g, 0, none⟩) z.length z.length]))
  (hX : ∀ k, X k → X' k) (hv : ∀ k, vw'.ownBlock = some k → X' k) (hgX : X' g) : Wa w' base X' vw' (zs ++ [(g, z)]) := by
 have ne : ∀ (k : Nat) (c : Nat) (y : List Int), Ow wA k c y → vw.ownBlock ≠ some k := fun k c y hy => by
  obtain ⟨cur, h1, _⟩ := hy.ex
  exact own_ne_blkD (h.ow.kept hA (Classical.em _)) h1 (by decide)
 refine ⟨by rw [List.length_append, List.map_append]; exact own, hv, fun x hx => ?_⟩
 rcases List.mem_append.1 hx with e | e
 ·have h1 := (h.rw x e).1.keptN hA
  exact ⟨h1.same (hg.block x.1 h1.lt (fun e' => ne _ _ _ h1 e'.symm)), hX _ (h.rw x e).2⟩
 ·have e' : x = (g, z) := by simpa using e
  subst e'
  exact ⟨ho.same (hg.block g ho.lt (fun e' => ne _ _ _ ho e'.symm)), hgX⟩
end Go.Proofs.YtedpeggdbedmiaaGreatDoor
namespace Go.Proofs.YtedpeggdbedmiaaGreatDoor
open Go.RowKit Go.MuLone
set_option maxHeartbeats 16000000 in
set_option maxRecDepth 8000 in
theorem own4 {y0 y1 y2 y3 y4 y6 y7 y8 y9 y10 y11 y12 y13 y16 y17 y18 y19 y20 y21 y22 y23 y24 y25 y26 y27 y28 y29 y30 y31 y32 y33 y34 y35 y36 y37 y38 y39 y40 y41 y42 y43 y44 y45 y46 y47 y48 y49 y50 y51 y52 y53 y54 y55 y56 y57 y58 y59 y60 y61 y62 y63 y64 y65 y66 y67 y68 y69 y70 y71 y72 y73 y74 y75 y76 y77 y78 y79 y80 y81 y82 y83 y84 y85 y86 y87 y88 y89 y90 y91 y92 y93 y94 y95 y96 y97 y98 y99 y100 y101 y102 y103 y104 y105 y106 y107 y108 y109 y110 y111 y112 y113 y114 y115 y116 y117 y118 y119 y120 y121 y122 y123 y124 y125 y126 y127 y128 y129 : Value} {w wc : World} {B base gv cv t : Nat} {cs : Nat → Value} {L : Nat → List Lst} {ys : Nat → List Value} {bs : List Nat} {Fs : Nat → Nat → Prop} {ss : Nat → Ds} (hD : Dn w wc B base cs L ys (.slice (some ⟨gv, 0, none⟩) 8 cv) bs Fs ss t) {K : Act → World → Prop} {Q' : Exit → Act → World → Prop}
  (hK : ∀ (v14 v15 v16 v94 v95 v96 v97 v98 v99 v100 v101 v102 v103 v104 v105 v106 v107 : Value) (wx : World), (∃ cs' Fs' zs, Dn w wx B base cs' L ys (.slice (some ⟨gv, 0, none⟩) 8 cv) bs Fs' ss t ∧ Wa wx base (Fs' 8) v14 zs ∧ zs.length = 8 ∧ ∀ i x, zs[i]? = some x → x.2 = (ss i).L.flatten) → K ⟨#[y0, y1, y2, y3, y4, .slice (some ⟨gv, 0, none⟩) 8 cv, y6, y7, y8, y9, y10, y11, y12, y13, v14, v15, v16, y17, y18, y19, y20, y21, y22, y23, y24, y25, y26, y27, y28, y29, y30, y31, y32, y33, y34, y35, y36, y37, y38, y39, y40, y41, y42, y43, y44, y45, y46, y47, y48, y49, y50, y51, y52, y53, y54, y55, y56, y57, y58, y59, y60, y61, y62, y63, y64, y65, y66, y67, y68, y69, y70, y71, y72, y73, y74, y75, y76, y77, y78, y79, y80, y81, y82, y83, y84, y85, y86, y87, y88, y89, y90, y91, y92, y93, v94, v95, v96, v97, v98, v99, v100, v101, v102, v103, v104, v105, v106, v107, y108, y109, y110, y111, y112, y113, y114, y115, y116, y117, y118, y119, y120, y121, y122, y123, y124, y125, y126, y127, y128, y129], []⟩ wx) :
  Code.wp Tryz.prog (Go.Code.block 4 (((Go.Code.region 27 #[{ dst := some 94, op := Go.Op.move (Go.Operand.tmp 15), type := 3, pos := "law.go:378", after := #[], guard := none }, { dst := some 95, op := Go.Op.binOp Go.BinOp.lss 3 (Go.Operand.tmp 94) (Go.Operand.const (Go.Value.int Go.IntKind.i64 8)) 3, type := 4, pos := "law.go:378", after := #[{ on := 0, ground := Go.Ground.data }], guard := none }] false).seq (Go.Code.cond (Go.Operand.tmp 95) Go.Code.skip (Go.Code.exit 4))).seq ((Go.Code.block 5 ((Go.Code.region 29 #[{ dst := some 98, op := Go.Op.move (Go.Operand.tmp 5), type := 40, pos := "law.go:379", after := #[], guard := none }, { dst := some 99, op := Go.Op.move (Go.Operand.tmp 15), type := 3, pos := "law.go:379", after := #[], guard := none }, { dst := some 100, op := Go.Op.indexAddr 40 (Go.Operand.tmp 98) (Go.Operand.tmp 99), type := 0, pos := "law.go:379", after := #[{ on := 0, ground := Go.Ground.data }, { on := 1, ground := Go.Ground.data }], guard := none }, { dst := some 101, op := Go.Op.load 41 (Go.Operand.tmp 100), type := 41, pos := "law.go:379", after := #[{ on := 2, ground := Go.Ground.data }], guard := none }, { dst := some 102, op := Go.Op.call { callee := Go.Callee.value (Go.Operand.func 13), args := #[Go.Operand.tmp 101], argTypes := #[41] }, type := 47, pos := "law.go:379", after := #[{ on := 3, ground := Go.Ground.data }], guard := none }, { dst := some 103, op := Go.Op.call { callee := Go.Callee.value (Go.Operand.func 14), args := #[Go.Operand.tmp 102], argTypes := #[47] }, type := 47, pos := "law.go:379", after := #[{ on := 4, ground := Go.Ground.data }, { on := 4, ground := Go.Ground.chain }], guard := none }, { dst := some 16, op := Go.Op.assign (Go.Operand.tmp 103), type := 47, pos := "law.go:379", after := #[{ on := 5, ground := Go.Ground.data }, { on := 5, ground := Go.Ground.chain }, { on := 0, ground := Go.Ground.phase }, { on := 1, ground := Go.Ground.phase }, { on := 2, ground := Go.Ground.phase }, { on := 3, ground := Go.Ground.phase }, { on := 4, ground := Go.Ground.phase }, { on := 5, ground := Go.Ground.phase }], guard := none }] false).seq (Go.Code.region 30 #[{ dst := some 104, op := Go.Op.move (Go.Operand.tmp 14), type := 25, pos := "law.go:380", after := #[], guard := none }, { dst := some 105, op := Go.Op.move (Go.Operand.tmp 16), type := 47, pos := "law.go:380", after := #[], guard := none }, { dst := some 106, op := Go.Op.buildSlice 25 1 #[(0, Go.Operand.tmp 105)], type := 25, pos := "law.go:380", after := #[{ on := 1, ground := Go.Ground.data }], guard := none }, { dst := some 107, op := Go.Op.call { callee := Go.Callee.builtin Go.Builtin.append, args := #[Go.Operand.tmp 104, Go.Operand.tmp 106], argTypes := #[25, 25] }, type := 25, pos := "law.go:380", after := #[{ on := 0, ground := Go.Ground.data }, { on := 2, ground := Go.Ground.data }], guard := none }, { dst := some 14, op := Go.Op.assign (Go.Operand.tmp 107), type := 25, pos := "law.go:380", after := #[{ on := 3, ground := Go.Ground.data }, { on := 3, ground := Go.Ground.chain }, { on := 0, ground := Go.Ground.phase }, { on := 1, ground := Go.Ground.phase }, { on := 2, ground := Go.Ground.phase }, { on := 3, ground := Go.Ground.phase }], guard := none }] false))).seq (Go.Code.region 28 #[{ dst := some 96, op := Go.Op.move (Go.Operand.tmp 15), type := 3, pos := "law.go:378", after := #[], guard := none }, { dst := some 97, op := Go.Op.binOp Go.BinOp.add 3 (Go.Operand.tmp 96) (Go.Operand.const (Go.Value.int Go.IntKind.i64 1)) 3, type := 3, pos := "law.go:378", after := #[{ on := 0, ground := Go.Ground.data }], guard := none }, { dst := some 15, op := Go.Op.assign (Go.Operand.tmp 97), type := 3, pos := "law.go:378", after := #[{ on := 1, ground := Go.Ground.data }, { on := 0, ground := Go.Ground.phase }, { on := 1, ground := Go.Ground.phase }], guard := none }] false))).loop) (Exit.then K Q') ⟨#[y0, y1, y2, y3, y4, .slice (some ⟨gv, 0, none⟩) 8 cv, y6, y7, y8, y9, y10, y11, y12, y13, .slice none 0 0, .int .i64 0, y16, y17, y18, y19, y20, y21, y22, y23, y24, y25, y26, y27, y28, y29, y30, y31, y32, y33, y34, y35, y36, y37, y38, y39, y40, y41, y42, y43, y44, y45, y46, y47, y48, y49, y50, y51, y52, y53, y54, y55, y56, y57, y58, y59, y60, y61, y62, y63, y64, y65, y66, y67, y68, y69, y70, y71, y72, y73, y74, y75, y76, y77, y78, y79, y80, y81, y82, y83, y84, y85, y86, y87, y88, y89, y90, y91, y92, y93, y94, y95, y96, y97, y98, y99, y100, y101, y102, y103, y104, y105, y106, y107, y108, y109, y110, y111, y112, y113, y114, y115, y116, y117, y118, y119, y120, y121, y122, y123, y124, y125, y126, y127, y128, y129], []⟩ wc := by
 have HK := hid_intro hK
 clear hK
 dsimp only
 obtain ⟨i0, hi, hz0, hz1, hz2⟩ := info_parts info_bytes
 go_wp2_with fail
 go_loopg [14, 15] 8 (fun gh sv si wr => ∃ (k : Nat) (cs : Nat → Value) (Fs : Nat → Nat → Prop) (zs : List (Nat × List Int)), gh = 8 - k ∧ k ≤ 8 ∧ si = .int .i64 (k : Int) ∧ Dn w wr B base cs L ys (.slice (some ⟨gv, 0, none⟩) 8 cv) bs Fs ss t ∧ Wa wr base (Fs 8) sv zs ∧ zs.length = k ∧ ∀ i x, zs[i]? = some x → x.2 = (ss i).L.flatten)
 case atStart => exact ⟨0, cs, Fs, [], rfl, Nat.zero_le _, rfl, hD, ⟨⟨rfl, .inl ⟨rfl, rfl⟩⟩, (fun k e => by cases e), (fun x hx => by cases hx)⟩, rfl, fun i x hx => by simp at hx⟩
 case round =>
  obtain ⟨k, cs', Fs', zs, hgh, hk, rfl, hD', hW, hzl, hzs⟩ := hrel
  obtain ⟨ov, oc, ev⟩ : ∃ ao cap, u14 = .slice ao zs.length cap := by
   rcases hW.ow.2 with ⟨e, e0⟩ | ⟨g, cap, cur, e, _⟩
   ·exact ⟨none, 0, by rw [e, e0]⟩
   ·exact ⟨_, _, e⟩
  subst ev
  have HD := hid_intro hD'
  have HW := hid_intro hW
  have HZL := hid_intro hzl
  have HZS := hid_intro hzs
  by_cases hlt : k < 8
  ·have hlt' : (k : Int) < 8 := by omega
   have hbl8 := hD'.bl
   obtain ⟨b, hb⟩ : ∃ b, bs[k]? = some b := ⟨_, List.getElem?_eq_getElem (by omega)⟩
   have cd : wr.cell? ⟨gv, k, none⟩ = some (.pointer (some ⟨b, 0, none⟩)) := by
    rw [hD'.vo.cellAt k (by omega), List.getElem?_map, hb]; rfl
   clear hD' hW hzl hzs
   go_wp2_with fail
   refine (dn_durable HD.out hb).mono ?_
   rintro e w1 ⟨g1, n1, C1, cs1, rfl, ho1, hn1, hm1, hg1, _, hd1, _, hk1⟩
   have D1' := hid_intro hd1
   have O1 := hid_intro ho1
   have HN := hid_intro hn1
   have W1 := hid_intro (HW.out.st (fun q hq => hk1.block q (HD.out.xl q hq) (fun hx => by have := HD.out.dj k 8 q (by omega) (by omega) hx hq; omega)))
   clear hd1 ho1 hk1 hn1 cd
   go_wp2_with fail
   refine (refBytes_any (some ⟨g1, 0, none⟩) n1 C1 (ss k).L.flatten w1 (O1.out.byt n1 HN.out.symm) (by omega)).mono ?_
   rintro e w2 ⟨rfl, ho2, hg2, hs2⟩
   have O2 := hid_intro ho2
   have G2 := hid_intro hg2
   have OA := hid_intro ((W1.out.ow.kept hg2 (Classical.em _)).alloc (.cells #[.slice (some ⟨w1.heap.size, 0, none⟩) n1 n1] 47))
   have SA : Hid (base ≤ (w2.alloc (.cells #[.slice (some ⟨w1.heap.size, 0, none⟩) n1 n1] 47)).heap.size) := by have h5 := D1'.out.kst.t.bB.2; have h6 := hg2.size; show _ ≤ _; simp; omega
   clear ho2 hg2 hs2
   go_wp2_with (at_builtin; refine wpList_append_own_at _ rfl _ _ 25 rfl base 47 i0 (.slice none 0 0) 1 24 Tryz.underlying25 hi hz0 hz1 hz2 rfl (by decide) (.slice ov zs.length oc) zs.length (zs.map fun x : Nat × List Int => .slice (some ⟨x.1, 0, none⟩) x.2.length x.2.length) rfl OA.out ⟨w2.heap.size, 0, none⟩ 1 1 [.slice (some ⟨w1.heap.size, 0, none⟩) n1 n1] rfl rfl (cell_one12 _ _ _) (by intro u hu; simp at hu; subst hu; rfl) (by have := HZL.out; unfold maxLen; omega) (by have := HZL.out; omega) SA.out ?_)
   intro v' w' ho' hg' hnil loc
   have gA := grown_trans G2.out (World.grownBy_alloc w2 (.cells #[.slice (some ⟨w1.heap.size, 0, none⟩) n1 n1] 47) none)
   have hsA := gA.size
   have hkx : Kp w1 w' (Fs' 8) := ⟨hg'.os.trans gA.os, hg'.tape.trans gA.tape, hg'.output.trans gA.output, Nat.le_trans gA.size hg'.size, fun q hq hn => (hg'.block q (by omega) (fun e => hn (HW.out.vx q e.symm))).trans (gA.block q hq (by simp))⟩
   obtain ⟨cs4, D4⟩ := D1'.out.extra (X := fun q => Fs' 8 q ∨ w1.heap.size ≤ q ∧ q < w'.heap.size) hkx (fun q hq => hq)
   have hO2 : Ow (w2.alloc (.cells #[.slice (some ⟨w1.heap.size, 0, none⟩) n1 n1] 47)) w1.heap.size (ss k).L.flatten.length (ss k).L.flatten := by
    rw [HN.out]
    exact (Ow.of_owns O2.out).1.keptN (World.grownBy_alloc w2 _ none)
   have hgl : w1.heap.size < w'.heap.size := by have h5 := hO2.lt; have h6 := hg'.size; omega
   have W4 := hid_intro (show Wa w' base (upF Fs' 8 (fun q => Fs' 8 q ∨ w1.heap.size ≤ q ∧ q < w'.heap.size) 8) v' (zs ++ [(w1.heap.size, (ss k).L.flatten)]) from by
    rw [upF_same]
    refine W1.out.add gA hO2 hg' (by rw [HN.out]; exact ho') (fun q hq => .inl hq) (fun q e => ?_) (.inr ⟨Nat.le_refl _, hgl⟩)
    rcases loc with l | l
    ·exact .inl (HW.out.vx q (by rw [← l]; exact e))
    ·have h5 := (ho'.lt q e).2
     rw [l] at e
     have e1 := Option.some.inj e
     exact .inr ⟨by have := G2.out.size; omega, h5⟩)
   have HD4 := hid_intro D4
   clear ho' hg' hnil loc D4 hkx gA hO2
   go_wp2
   go_roundg (8 - (k + 1))
   case measure => omega
   case rel =>
    refine ⟨k + 1, cs4, _, zs ++ [(w1.heap.size, (ss k).L.flatten)], rfl, by omega, by go_num, HD4.out, W4.out, by rw [List.length_append, HZL.out]; rfl, fun i x hx => ?_⟩
    rw [List.getElem?_append] at hx
    split at hx
    ·exact HZS.out i x hx
    ·rename_i hi'
     have h5 := HZL.out
     have e : i = zs.length := by have := (List.getElem?_eq_some_iff.1 hx).1; simp at this; omega
     subst e
     rw [Nat.sub_self] at hx
     have e2 : (w1.heap.size, (ss k).L.flatten) = x := by simpa using hx
     rw [← e2, h5]
  ·have hlt' : ¬ (k : Int) < 8 := by omega
   have HK8 : Hid (zs.length = 8) := by have := HZL.out; show _ = _; omega
   clear hD' hW hzl hzs
   go_wp2_with fail
   refine HK.out _ _ _ _ _ _ _ _ _ _ _ _ _ _ _ _ _ _ ?_
   exact ⟨cs', Fs', zs, HD.out, HW.out, HK8.out, HZS.out⟩
end Go.Proofs.YtedpeggdbedmiaaGreatDoor
namespace Go.Proofs.YtedpeggdbedmiaaGreatDoor
open Go.RowKit Go.MuLone
structure De (w0 w : World) (vd : Value) (bs : List Nat) (Fs : Nat → Nat → Prop) (ss : Nat → Ds) : Prop where
 bl : bs.length = 8
 dz : ∀ i b, bs[i]? = some b → Dz w b (Fs i) (ss i)
 dj : ∀ i j k, i < 9 → j < 9 → Fs i k → Fs j k → i = j
 fb : ∀ i k, i < 9 → Fs i k → w0.heap.size ≤ k ∧ vd.ownBlock ≠ some k
 vo : w.ownsRow w0.heap.size 41 1 vd 8 (bs.map fun b => .pointer (some ⟨b, 0, none⟩))
 xl : ∀ k, Fs 8 k → k < w.heap.size
 gr : w0.grownBy w none
theorem De.ask {w0 w w' : World} {vd : Value} {bs : List Nat} {Fs : Nat → Nat → Prop} {ss : Nat → Ds} {i b : Nat} (h : De w0 w vd bs Fs ss) (hb : bs[i]? = some b) (hz : Dz w' b (Fs i) (ss i)) (hk : Kp w w' (Fs i)) : De w0 w' vd bs Fs ss := by
 have hbl := h.bl
 have hi : i < 8 := by have := (List.getElem?_eq_some_iff.1 hb).1; omega
 refine ⟨h.bl, fun j c hc => ?_, h.dj, h.fb, owns_same h.vo (fun k e => hk.block k (h.vo.lt k e).2 (fun hx => (h.fb i k (by omega) hx).2 e)), fun k hx => Nat.lt_of_lt_of_le (h.xl k hx) hk.size, Kp.new h.gr hk (fun k e => (h.fb i k (by omega) e).1)⟩
 by_cases e : j = i
 ·subst e
  rw [hb] at hc
  obtain rfl := Option.some.inj hc
  exact hz
 ·have hj : j < 8 := by have := (List.getElem?_eq_some_iff.1 hc).1; omega
  exact (h.dz j c hc).kp hk (fun k h1 h2 => e (h.dj j i k (by omega) (by omega) h1 h2))
theorem De.keptN {w0 w w' : World} {vd : Value} {bs : List Nat} {Fs : Nat → Nat → Prop} {ss : Nat → Ds} (h : De w0 w vd bs Fs ss) (hg : w.grownBy w' none) : De w0 w' vd bs Fs ss :=
 ⟨h.bl, fun i b hb => (h.dz i b hb).keptN hg, h.dj, h.fb, h.vo.kept hg (Classical.em _), fun k hk => Nat.lt_of_lt_of_le (h.xl k hk) hg.size, grown_trans h.gr hg⟩
set_option maxHeartbeats 16000000 in
set_option maxRecDepth 8000 in
theorem own35 {y0 y1 y2 y3 y4 y6 y7 y8 y9 y10 y11 y12 y13 y15 y16 y17 y19 y20 y21 y22 y23 y24 y25 y26 y27 y28 y29 y30 y31 y32 y33 y34 y35 y36 y37 y38 y39 y40 y41 y42 y43 y44 y45 y46 y47 y48 y49 y50 y51 y52 y53 y54 y55 y56 y57 y58 y59 y60 y61 y62 y63 y64 y65 y66 y67 y68 y69 y70 y71 y72 y73 y74 y75 y76 y77 y78 y79 y80 y81 y82 y83 y84 y85 y86 y87 y88 y89 y90 y91 y92 y93 y94 y95 y96 y97 y98 y99 y100 y101 y102 y103 y104 y105 y106 y107 y108 y109 y110 y111 y112 y113 y114 y115 y116 y117 y118 y119 y120 y121 y122 y123 y124 y125 y126 y127 y128 y129 : Value} {w wc : World} {base gv cv gw cw k b : Nat} {bs : List Nat} {Fs : Nat → Nat → Prop} {ss : Nat → Ds} {zs : List (Nat × List Int)} {x : Nat × List Int} (hk : (k : Int) < 8) (_hk8 : k < 8) (hb : bs[k]? = some b) (hx : zs[k]? = some x) (hxe : Hid (x.2 = (ss k).L.flatten)) (cd : wc.cell? ⟨gv, k, none⟩ = some (.pointer (some ⟨b, 0, none⟩))) (cz : wc.cell? ⟨gw, k, none⟩ = some (.slice (some ⟨x.1, 0, none⟩) x.2.length x.2.length)) (hD : De w wc (.slice (some ⟨gv, 0, none⟩) 8 cv) bs Fs ss) (hW : Wa wc base (Fs 8) (.slice (some ⟨gw, 0, none⟩) 8 cw) zs) {K : Act → World → Prop} {Q' : Exit → Act → World → Prop}
  (hK : ∀ (v19 v114 v115 v116 v117 v118 v119 v120 v121 v122 v123 : Value) (wx : World), (v19 = .bool true ∧ De w wx (.slice (some ⟨gv, 0, none⟩) 8 cv) bs Fs ss ∧ Wa wx base (Fs 8) (.slice (some ⟨gw, 0, none⟩) 8 cw) zs) → K ⟨#[y0, y1, y2, y3, y4, .slice (some ⟨gv, 0, none⟩) 8 cv, y6, y7, y8, y9, y10, y11, y12, y13, .slice (some ⟨gw, 0, none⟩) 8 cw, y15, y16, y17, .int .i64 (k : Int), v19, y20, y21, y22, y23, y24, y25, y26, y27, y28, y29, y30, y31, y32, y33, y34, y35, y36, y37, y38, y39, y40, y41, y42, y43, y44, y45, y46, y47, y48, y49, y50, y51, y52, y53, y54, y55, y56, y57, y58, y59, y60, y61, y62, y63, y64, y65, y66, y67, y68, y69, y70, y71, y72, y73, y74, y75, y76, y77, y78, y79, y80, y81, y82, y83, y84, y85, y86, y87, y88, y89, y90, y91, y92, y93, y94, y95, y96, y97, y98, y99, y100, y101, y102, y103, y104, y105, y106, y107, y108, y109, y110, y111, y112, y113, v114, v115, v116, v117, v118, v119, v120, v121, v122, v123, y124, y125, y126, y127, y128, y129], []⟩ wx) :
  Code.wp Tryz.prog (Go.Code.region 35 #[{ dst := some 114, op := Go.Op.move (Go.Operand.tmp 5), type := 40, pos := "law.go:384", after := #[], guard := none }, { dst := some 115, op := Go.Op.move (Go.Operand.tmp 18), type := 3, pos := "law.go:384", after := #[], guard := none }, { dst := some 116, op := Go.Op.indexAddr 40 (Go.Operand.tmp 114) (Go.Operand.tmp 115), type := 0, pos := "law.go:384", after := #[{ on := 0, ground := Go.Ground.data }, { on := 1, ground := Go.Ground.data }], guard := none }, { dst := some 117, op := Go.Op.load 41 (Go.Operand.tmp 116), type := 41, pos := "law.go:384", after := #[{ on := 2, ground := Go.Ground.data }], guard := none }, { dst := some 118, op := Go.Op.call { callee := Go.Callee.value (Go.Operand.func 13), args := #[Go.Operand.tmp 117], argTypes := #[41] }, type := 47, pos := "law.go:384", after := #[{ on := 3, ground := Go.Ground.data }], guard := none }, { dst := some 119, op := Go.Op.move (Go.Operand.tmp 14), type := 25, pos := "law.go:384", after := #[], guard := none }, { dst := some 120, op := Go.Op.move (Go.Operand.tmp 18), type := 3, pos := "law.go:384", after := #[], guard := none }, { dst := some 121, op := Go.Op.indexAddr 25 (Go.Operand.tmp 119) (Go.Operand.tmp 120), type := 0, pos := "law.go:384", after := #[{ on := 5, ground := Go.Ground.data }, { on := 6, ground := Go.Ground.data }], guard := none }, { dst := some 122, op := Go.Op.load 47 (Go.Operand.tmp 121), type := 47, pos := "law.go:384", after := #[{ on := 7, ground := Go.Ground.data }], guard := none }, { dst := some 123, op := Go.Op.call { callee := Go.Callee.value (Go.Operand.func 16), args := #[Go.Operand.tmp 118, Go.Operand.tmp 122], argTypes := #[47, 47] }, type := 4, pos := "law.go:384", after := #[{ on := 4, ground := Go.Ground.data }, { on := 8, ground := Go.Ground.data }, { on := 4, ground := Go.Ground.chain }], guard := none }, { dst := some 19, op := Go.Op.assign (Go.Operand.tmp 123), type := 4, pos := "law.go:384", after := #[{ on := 9, ground := Go.Ground.data }, { on := 9, ground := Go.Ground.chain }, { on := 0, ground := Go.Ground.phase }, { on := 1, ground := Go.Ground.phase }, { on := 2, ground := Go.Ground.phase }, { on := 3, ground := Go.Ground.phase }, { on := 4, ground := Go.Ground.phase }, { on := 5, ground := Go.Ground.phase }, { on := 6, ground := Go.Ground.phase }, { on := 7, ground := Go.Ground.phase }, { on := 8, ground := Go.Ground.phase }, { on := 9, ground := Go.Ground.phase }], guard := none }] true) (Exit.then K Q') ⟨#[y0, y1, y2, y3, y4, .slice (some ⟨gv, 0, none⟩) 8 cv, y6, y7, y8, y9, y10, y11, y12, y13, .slice (some ⟨gw, 0, none⟩) 8 cw, y15, y16, y17, .int .i64 (k : Int), y19, y20, y21, y22, y23, y24, y25, y26, y27, y28, y29, y30, y31, y32, y33, y34, y35, y36, y37, y38, y39, y40, y41, y42, y43, y44, y45, y46, y47, y48, y49, y50, y51, y52, y53, y54, y55, y56, y57, y58, y59, y60, y61, y62, y63, y64, y65, y66, y67, y68, y69, y70, y71, y72, y73, y74, y75, y76, y77, y78, y79, y80, y81, y82, y83, y84, y85, y86, y87, y88, y89, y90, y91, y92, y93, y94, y95, y96, y97, y98, y99, y100, y101, y102, y103, y104, y105, y106, y107, y108, y109, y110, y111, y112, y113, y114, y115, y116, y117, y118, y119, y120, y121, y122, y123, y124, y125, y126, y127, y128, y129], []⟩ wc := by
 have HK := hid_intro hK
 clear hK
 have HD := hid_intro (hD.keptN ((Qt.refl wc).drew.grown none))
 have HW := hid_intro (hW.st (w' := wc.drew) (fun k _ => rfl))
 clear hD hW
 refine wp_region_noPanic ?_
 go_region_with (first
  | (go_at_call 13; refine (dz_durable (HD.out.dz k b hb)).mono ?_; rintro e w1 ⟨g1, n1, C1, rfl, hn1, ho1, hz1, hk1⟩; have D1 := hid_intro (HD.out.ask hb hz1 hk1); have W1 := hid_intro (HW.out.st (fun q hq => hk1.block q (HD.out.xl q hq) (fun hx => by have := HD.out.dj k 8 q (by omega) (by omega) hx hq; omega))); have cz1 : w1.cell? ⟨gw, k, none⟩ = some (.slice (some ⟨x.1, 0, none⟩) x.2.length x.2.length) := (World.cell?_of_block (hk1.block gw (World.block_lt_of_cell? _ _ (show wc.drew.cell? ⟨gw, k, none⟩ = _ from cz)) (fun hx => by have := HD.out.dj k 8 gw (by omega) (by omega) hx (HW.out.vx gw rfl); omega))).trans cz; have O1 := hid_intro (Ow.of_owns ho1); clear ho1 hz1 hk1 hn1)
  | (go_at_call 16; refine (same_yes (some ⟨g1, 0, none⟩) (some ⟨x.1, 0, none⟩) n1 x.2.length C1 x.2.length (ss k).L.flatten x.2 w1 (O1.out.1.byt n1 O1.out.2.1.symm) ((W1.out.rw x (List.mem_of_getElem? hx)).1.byt _ rfl) hxe.out.symm).mono ?_; rintro e w2 ⟨rfl, rfl⟩))
 all_goals
  refine NoPanic.normal ?_
  go_wp2_with fail
  refine HK.out _ _ _ _ _ _ _ _ _ _ _ _ ?_
  exact ⟨rfl, D1.out, W1.out⟩
set_option maxHeartbeats 16000000 in
set_option maxRecDepth 8000 in
theorem own6 {y0 y1 y2 y3 y4 y6 y7 y8 y9 y10 y11 y12 y13 y15 y16 y17 y19 y20 y21 y22 y23 y24 y25 y26 y27 y28 y29 y30 y31 y32 y33 y34 y35 y36 y37 y38 y39 y40 y41 y42 y43 y44 y45 y46 y47 y48 y49 y50 y51 y52 y53 y54 y55 y56 y57 y58 y59 y60 y61 y62 y63 y64 y65 y66 y67 y68 y69 y70 y71 y72 y73 y74 y75 y76 y77 y78 y79 y80 y81 y82 y83 y84 y85 y86 y87 y88 y89 y90 y91 y92 y93 y94 y95 y96 y97 y98 y99 y100 y101 y102 y103 y104 y105 y106 y107 y108 y109 y110 y111 y112 y113 y114 y115 y116 y117 y118 y119 y120 y121 y122 y123 y124 y125 y126 y127 y128 y129 : Value} {w wc : World} {base gv cv gw cw : Nat} {bs : List Nat} {Fs : Nat → Nat → Prop} {ss : Nat → Ds} {zs : List (Nat × List Int)} (hzl : zs.length = 8) (hzs : ∀ i x, zs[i]? = some x → x.2 = (ss i).L.flatten) (hD : De w wc (.slice (some ⟨gv, 0, none⟩) 8 cv) bs Fs ss) (hW : Wa wc base (Fs 8) (.slice (some ⟨gw, 0, none⟩) 8 cw) zs) {K : Act → World → Prop} {Q' : Exit → Act → World → Prop}
  (hK : ∀ (v2 v18 v19 v110 v111 v112 v113 v114 v115 v116 v117 v118 v119 v120 v121 v122 v123 v124 v125 : Value) (wx : World), (w.grownBy wx none) → K ⟨#[y0, y1, v2, y3, y4, .slice (some ⟨gv, 0, none⟩) 8 cv, y6, y7, y8, y9, y10, y11, y12, y13, .slice (some ⟨gw, 0, none⟩) 8 cw, y15, y16, y17, v18, v19, y20, y21, y22, y23, y24, y25, y26, y27, y28, y29, y30, y31, y32, y33, y34, y35, y36, y37, y38, y39, y40, y41, y42, y43, y44, y45, y46, y47, y48, y49, y50, y51, y52, y53, y54, y55, y56, y57, y58, y59, y60, y61, y62, y63, y64, y65, y66, y67, y68, y69, y70, y71, y72, y73, y74, y75, y76, y77, y78, y79, y80, y81, y82, y83, y84, y85, y86, y87, y88, y89, y90, y91, y92, y93, y94, y95, y96, y97, y98, y99, y100, y101, y102, y103, y104, y105, y106, y107, y108, y109, v110, v111, v112, v113, v114, v115, v116, v117, v118, v119, v120, v121, v122, v123, v124, v125, y126, y127, y128, y129], []⟩ wx) :
  Code.wp Tryz.prog (Go.Code.block 6 (((Go.Code.region 33 #[{ dst := some 110, op := Go.Op.move (Go.Operand.tmp 18), type := 3, pos := "law.go:383", after := #[], guard := none }, { dst := some 111, op := Go.Op.binOp Go.BinOp.lss 3 (Go.Operand.tmp 110) (Go.Operand.const (Go.Value.int Go.IntKind.i64 8)) 3, type := 4, pos := "law.go:383", after := #[{ on := 0, ground := Go.Ground.data }], guard := none }] false).seq (Go.Code.cond (Go.Operand.tmp 111) Go.Code.skip (Go.Code.exit 6))).seq ((Go.Code.block 7 ((Go.Code.region 35 #[{ dst := some 114, op := Go.Op.move (Go.Operand.tmp 5), type := 40, pos := "law.go:384", after := #[], guard := none }, { dst := some 115, op := Go.Op.move (Go.Operand.tmp 18), type := 3, pos := "law.go:384", after := #[], guard := none }, { dst := some 116, op := Go.Op.indexAddr 40 (Go.Operand.tmp 114) (Go.Operand.tmp 115), type := 0, pos := "law.go:384", after := #[{ on := 0, ground := Go.Ground.data }, { on := 1, ground := Go.Ground.data }], guard := none }, { dst := some 117, op := Go.Op.load 41 (Go.Operand.tmp 116), type := 41, pos := "law.go:384", after := #[{ on := 2, ground := Go.Ground.data }], guard := none }, { dst := some 118, op := Go.Op.call { callee := Go.Callee.value (Go.Operand.func 13), args := #[Go.Operand.tmp 117], argTypes := #[41] }, type := 47, pos := "law.go:384", after := #[{ on := 3, ground := Go.Ground.data }], guard := none }, { dst := some 119, op := Go.Op.move (Go.Operand.tmp 14), type := 25, pos := "law.go:384", after := #[], guard := none }, { dst := some 120, op := Go.Op.move (Go.Operand.tmp 18), type := 3, pos := "law.go:384", after := #[], guard := none }, { dst := some 121, op := Go.Op.indexAddr 25 (Go.Operand.tmp 119) (Go.Operand.tmp 120), type := 0, pos := "law.go:384", after := #[{ on := 5, ground := Go.Ground.data }, { on := 6, ground := Go.Ground.data }], guard := none }, { dst := some 122, op := Go.Op.load 47 (Go.Operand.tmp 121), type := 47, pos := "law.go:384", after := #[{ on := 7, ground := Go.Ground.data }], guard := none }, { dst := some 123, op := Go.Op.call { callee := Go.Callee.value (Go.Operand.func 16), args := #[Go.Operand.tmp 118, Go.Operand.tmp 122], argTypes := #[47, 47] }, type := 4, pos := "law.go:384", after := #[{ on := 4, ground := Go.Ground.data }, { on := 8, ground := Go.Ground.data }, { on := 4, ground := Go.Ground.chain }], guard := none }, { dst := some 19, op := Go.Op.assign (Go.Operand.tmp 123), type := 4, pos := "law.go:384", after := #[{ on := 9, ground := Go.Ground.data }, { on := 9, ground := Go.Ground.chain }, { on := 0, ground := Go.Ground.phase }, { on := 1, ground := Go.Ground.phase }, { on := 2, ground := Go.Ground.phase }, { on := 3, ground := Go.Ground.phase }, { on := 4, ground := Go.Ground.phase }, { on := 5, ground := Go.Ground.phase }, { on := 6, ground := Go.Ground.phase }, { on := 7, ground := Go.Ground.phase }, { on := 8, ground := Go.Ground.phase }, { on := 9, ground := Go.Ground.phase }], guard := none }] true).seq ((Go.Code.region 36 #[{ dst := some 124, op := Go.Op.move (Go.Operand.tmp 19), type := 4, pos := "law.go:385", after := #[], guard := none }, { dst := some 125, op := Go.Op.unOp Go.UnOp.not 4 (Go.Operand.tmp 124), type := 4, pos := "law.go:385", after := #[{ on := 0, ground := Go.Ground.data }], guard := none }] false).seq (Go.Code.cond (Go.Operand.tmp 125) ((Go.Code.region 37 #[{ dst := some 2, op := Go.Op.assign (Go.Operand.const (Go.Value.bool false)), type := 4, pos := "law.go:386", after := #[], guard := none }] false).seq Go.Code.ret) Go.Code.skip)))).seq (Go.Code.region 34 #[{ dst := some 112, op := Go.Op.move (Go.Operand.tmp 18), type := 3, pos := "law.go:383", after := #[], guard := none }, { dst := some 113, op := Go.Op.binOp Go.BinOp.add 3 (Go.Operand.tmp 112) (Go.Operand.const (Go.Value.int Go.IntKind.i64 1)) 3, type := 3, pos := "law.go:383", after := #[{ on := 0, ground := Go.Ground.data }], guard := none }, { dst := some 18, op := Go.Op.assign (Go.Operand.tmp 113), type := 3, pos := "law.go:383", after := #[{ on := 1, ground := Go.Ground.data }, { on := 0, ground := Go.Ground.phase }, { on := 1, ground := Go.Ground.phase }], guard := none }] false))).loop) (Exit.then K Q') ⟨#[y0, y1, y2, y3, y4, .slice (some ⟨gv, 0, none⟩) 8 cv, y6, y7, y8, y9, y10, y11, y12, y13, .slice (some ⟨gw, 0, none⟩) 8 cw, y15, y16, y17, .int .i64 0, y19, y20, y21, y22, y23, y24, y25, y26, y27, y28, y29, y30, y31, y32, y33, y34, y35, y36, y37, y38, y39, y40, y41, y42, y43, y44, y45, y46, y47, y48, y49, y50, y51, y52, y53, y54, y55, y56, y57, y58, y59, y60, y61, y62, y63, y64, y65, y66, y67, y68, y69, y70, y71, y72, y73, y74, y75, y76, y77, y78, y79, y80, y81, y82, y83, y84, y85, y86, y87, y88, y89, y90, y91, y92, y93, y94, y95, y96, y97, y98, y99, y100, y101, y102, y103, y104, y105, y106, y107, y108, y109, y110, y111, y112, y113, y114, y115, y116, y117, y118, y119, y120, y121, y122, y123, y124, y125, y126, y127, y128, y129], []⟩ wc := by
 have HK := hid_intro hK
 clear hK
 dsimp only
 have HZS := hid_intro hzs
 have HZL := hid_intro hzl
 clear hzs hzl
 go_wp2_with fail
 go_loopg [18] 8 (fun gh si wr => ∃ k : Nat, gh = 8 - k ∧ k ≤ 8 ∧ si = .int .i64 (k : Int) ∧ De w wr (.slice (some ⟨gv, 0, none⟩) 8 cv) bs Fs ss ∧ Wa wr base (Fs 8) (.slice (some ⟨gw, 0, none⟩) 8 cw) zs)
 case atStart => exact ⟨0, rfl, Nat.zero_le _, rfl, hD, hW⟩
 case round =>
  obtain ⟨k, hgh, hk, rfl, hD', hW'⟩ := hrel
  have HD := hid_intro hD'
  have HW := hid_intro hW'
  by_cases hlt : k < 8
  ·have hlt' : (k : Int) < 8 := by omega
   have hbl8 := hD'.bl
   obtain ⟨b, hb⟩ : ∃ b, bs[k]? = some b := ⟨_, List.getElem?_eq_getElem (by omega)⟩
   obtain ⟨x, hx⟩ : ∃ x, zs[k]? = some x := ⟨_, List.getElem?_eq_getElem (by have := HZL.out; omega)⟩
   have cd : wr.cell? ⟨gv, k, none⟩ = some (.pointer (some ⟨b, 0, none⟩)) := by
    rw [hD'.vo.cellAt k (by omega), List.getElem?_map, hb]; rfl
   have cz : wr.cell? ⟨gw, k, none⟩ = some (.slice (some ⟨x.1, 0, none⟩) x.2.length x.2.length) := by
    have h5 := hW'.ow
    rw [HZL.out] at h5
    rw [h5.cellAt k (by omega), List.getElem?_map, hx]; rfl
   clear hD' hW'
   go_upto_region 35 with fail
   go_cut [19] from 110 to 125 (fun s19 wx => s19 = .bool true ∧ De w wx (.slice (some ⟨gv, 0, none⟩) 8 cv) bs Fs ss ∧ Wa wx base (Fs 8) (.slice (some ⟨gw, 0, none⟩) 8 cw) zs)
   case first =>
    rename_i J K' hJ hM
    refine own35 hlt' hlt hb hx (hid_intro (HZS.out k x hx)) cd cz HD.out HW.out ?_
    intro _ _ _ _ _ _ _ _ _ _ _ wx hrl
    refine hM _ _ ?_
    go_meet
    exact hrl
   case rest =>
    obtain ⟨rfl, hD1, hW1⟩ := hcut
    have D1' := hid_intro hD1
    have W1 := hid_intro hW1
    clear hD1 hW1 cd cz
    go_wp2
    go_roundg (8 - (k + 1))
    case measure => omega
    case rel => exact ⟨k + 1, rfl, by omega, by go_num, D1'.out, W1.out⟩
  ·have hlt' : ¬ (k : Int) < 8 := by omega
   clear hD' hW'
   go_wp2_with fail
   refine HK.out _ _ _ _ _ _ _ _ _ _ _ _ _ _ _ _ _ _ _ _ ?_
   exact HD.out.gr
end Go.Proofs.YtedpeggdbedmiaaGreatDoor
