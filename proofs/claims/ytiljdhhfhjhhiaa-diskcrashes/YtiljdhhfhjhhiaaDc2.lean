import Derived.Test.YtiljdhhfhjhhiaaDc1
import Derived.Deep.DeepCutAuto
import Derived.Deep.CutRange
import Derived.Deep.CutBlock
import Derived.Deep.QuietTactic
namespace Go.Proofs.Ytiljdhhfhjhhiaa
open Go.RowKit Go.MuLone

set_option maxHeartbeats 16000000 in
set_option maxRecDepth 8000 in
theorem crash0 {y1 y2 y3 y4 y5 y6 y7 y11 y12 y13 y14 y15 y16 y17 y18 y19 y20 y21 y22 y23 y24 y25 y26 y27 y28 y29 y30 y31 y32 y33 y34 y35 y36 y37 y38 y39 y40 y41 y42 y43 y44 y45 y46 y47 y48 y49 y50 y51 y52 y53 y54 y55 y56 y57 y58 y59 y60 y61 y62 y63 y64 y65 y66 y67 y68 y69 y70 y71 y72 y73 y74 y75 y76 y77 y78 y79 y80 y81 y82 y83 y84 y85 y86 y87 y88 y89 y90 y91 y92 y93 y94 y95 y96 y97 y98 y99 y100 y101 y102 y103 y104 y105 y106 y107 y108 y109 y110 y111 y112 y113 y114 y115 y116 y117 y118 y119 y120 y121 y122 y123 y124 y125 y126 y127 y128 y129 y130 y131 y132 y133 y134 y135 y136 y137 y138 y139 y140 y141 y142 y143 y144 y145 y146 y147 y148 y149 y150 y151 y152 y153 y154 y155 y156 y157 y158 y159 y160 y161 y162 y163 y164 y165 y166 y167 y168 y169 y170 y171 y172 y173 y174 y175 y176 y177 y178 y179 y180 y181 y182 y183 y184 y185 y186 y187 y188 y189 y190 y191 y192 y193 y194 y195 y196 y197 y198 y199 y200 y201 y202 y203 y204 y205 y206 y207 y208 y209 y210 y211 y212 y213 y214 y215 y216 y217 y218 y219 y220 y221 y222 y223 y224 y225 y226 y227 y228 y229 y230 y231 y232 y233 y234 y235 y236 y237 y238 y239 y240 y241 y242 y243 y244 y245 y246 y247 y248 y249 y250 y251 y252 y253 y254 y255 y256 y257 y258 y259 y260 y261 y262 y263 y264 y265 y266 y267 y268 y269 y270 y271 y272 y273 y274 y275 y276 y277 y278 y279 y280 y281 y282 y283 y284 y285 y286 y287 : Value} {w wc : World} {ao : Option Addr} {n cap B : Nat} {lst : List Int} {s0 : Ds} (hb : Byt w ao n cap lst) (hbt : Bt lst) (hv0 : s0.view = []) (hs0 : Cs s0 0) (L : Hid (Cw w wc B (.slice none 0 0) [] (.slice none 0 0) [] s0)) {K : Act → World → Prop} {Q' : Exit → Act → World → Prop}
    (hK : ∀ (v6 v9 v10 v11 v12 v41 v42 v43 v44 v45 v46 v47 v48 v49 v50 v51 v52 v53 v54 v55 v56 v57 v58 v59 v60 v61 v62 v63 v64 v65 v66 v67 v68 v69 v70 : Value) (wx : World), (∃ bl s, Cw w wx B v9 bl (.slice none 0 0) [] s ∧ bl.map (·.2) = (lst.take 20).map fp ∧ s.view = (lst.take 20).map fp ∧ Cs s 20) → K ⟨#[.slice ao n cap, y1, y2, y3, y4, y5, v6, y7, .pointer (some ⟨B, 0, none⟩), v9, v10, v11, v12, y13, y14, y15, y16, y17, y18, y19, y20, y21, y22, y23, y24, y25, y26, y27, y28, y29, y30, y31, y32, y33, y34, y35, y36, y37, y38, y39, y40, v41, v42, v43, v44, v45, v46, v47, v48, v49, v50, v51, v52, v53, v54, v55, v56, v57, v58, v59, v60, v61, v62, v63, v64, v65, v66, v67, v68, v69, v70, y71, y72, y73, y74, y75, y76, y77, y78, y79, y80, y81, y82, y83, y84, y85, y86, y87, y88, y89, y90, y91, y92, y93, y94, y95, y96, y97, y98, y99, y100, y101, y102, y103, y104, y105, y106, y107, y108, y109, y110, y111, y112, y113, y114, y115, y116, y117, y118, y119, y120, y121, y122, y123, y124, y125, y126, y127, y128, y129, y130, y131, y132, y133, y134, y135, y136, y137, y138, y139, y140, y141, y142, y143, y144, y145, y146, y147, y148, y149, y150, y151, y152, y153, y154, y155, y156, y157, y158, y159, y160, y161, y162, y163, y164, y165, y166, y167, y168, y169, y170, y171, y172, y173, y174, y175, y176, y177, y178, y179, y180, y181, y182, y183, y184, y185, y186, y187, y188, y189, y190, y191, y192, y193, y194, y195, y196, y197, y198, y199, y200, y201, y202, y203, y204, y205, y206, y207, y208, y209, y210, y211, y212, y213, y214, y215, y216, y217, y218, y219, y220, y221, y222, y223, y224, y225, y226, y227, y228, y229, y230, y231, y232, y233, y234, y235, y236, y237, y238, y239, y240, y241, y242, y243, y244, y245, y246, y247, y248, y249, y250, y251, y252, y253, y254, y255, y256, y257, y258, y259, y260, y261, y262, y263, y264, y265, y266, y267, y268, y269, y270, y271, y272, y273, y274, y275, y276, y277, y278, y279, y280, y281, y282, y283, y284, y285, y286, y287], []⟩ wx) :
    Code.wp Try.prog (Go.Code.block 0 (((Go.Code.region 7 #[{ dst := some 41, op := Go.Op.move (Go.Operand.tmp 10), type := 3, pos := "law.go:250", after := #[], guard := none }, { dst := some 42, op := Go.Op.move (Go.Operand.tmp 0), type := 22, pos := "law.go:250", after := #[], guard := none }, { dst := some 43, op := Go.Op.call { callee := Go.Callee.builtin Go.Builtin.len, args := #[Go.Operand.tmp 42], argTypes := #[22] }, type := 3, pos := "law.go:250", after := #[{ on := 1, ground := Go.Ground.data }], guard := none }, { dst := some 44, op := Go.Op.binOp Go.BinOp.lss 3 (Go.Operand.tmp 41) (Go.Operand.tmp 43) 3, type := 4, pos := "law.go:250", after := #[{ on := 0, ground := Go.Ground.data }, { on := 2, ground := Go.Ground.data }], guard := none }, { dst := some 45, op := Go.Op.move (Go.Operand.tmp 44), type := 4, pos := "law.go:250", after := #[{ on := 3, ground := Go.Ground.data }], guard := none }, { dst := some 46, op := Go.Op.move (Go.Operand.tmp 10), type := 3, pos := "law.go:250", after := #[{ on := 4, ground := Go.Ground.guard }], guard := some (4, true) }, { dst := some 47, op := Go.Op.binOp Go.BinOp.lss 3 (Go.Operand.tmp 46) (Go.Operand.const (Go.Value.int Go.IntKind.i64 20)) 3, type := 4, pos := "law.go:250", after := #[{ on := 5, ground := Go.Ground.data }, { on := 4, ground := Go.Ground.guard }], guard := some (4, true) }, { dst := some 48, op := Go.Op.pick (Go.Operand.tmp 45) (Go.Operand.tmp 47) (Go.Operand.const (Go.Value.bool false)), type := 4, pos := "law.go:250", after := #[{ on := 4, ground := Go.Ground.data }, { on := 6, ground := Go.Ground.data }], guard := none }] false).seq (Go.Code.cond (Go.Operand.tmp 48) Go.Code.skip (Go.Code.exit 0))).seq ((Go.Code.block 1 ((Go.Code.region 9 #[{ dst := some 51, op := Go.Op.move (Go.Operand.tmp 8), type := 26, pos := "law.go:251", after := #[], guard := none }, { dst := some 52, op := Go.Op.move (Go.Operand.tmp 10), type := 3, pos := "law.go:251", after := #[], guard := none }, { dst := some 53, op := Go.Op.move (Go.Operand.tmp 0), type := 22, pos := "law.go:251", after := #[], guard := none }, { dst := some 54, op := Go.Op.move (Go.Operand.tmp 10), type := 3, pos := "law.go:251", after := #[], guard := none }, { dst := some 55, op := Go.Op.indexAddr 22 (Go.Operand.tmp 53) (Go.Operand.tmp 54), type := 0, pos := "law.go:251", after := #[{ on := 2, ground := Go.Ground.data }, { on := 3, ground := Go.Ground.data }], guard := none }, { dst := some 56, op := Go.Op.load 5 (Go.Operand.tmp 55), type := 5, pos := "law.go:251", after := #[{ on := 4, ground := Go.Ground.data }], guard := none }, { dst := some 57, op := Go.Op.call { callee := Go.Callee.value (Go.Operand.func 19), args := #[Go.Operand.tmp 56], argTypes := #[5] }, type := 22, pos := "law.go:251", after := #[{ on := 5, ground := Go.Ground.data }], guard := none }, { dst := some 58, op := Go.Op.call { callee := Go.Callee.value (Go.Operand.func 18), args := #[Go.Operand.tmp 51, Go.Operand.tmp 52, Go.Operand.tmp 57], argTypes := #[26, 3, 22] }, type := 27, pos := "law.go:251", after := #[{ on := 0, ground := Go.Ground.data }, { on := 1, ground := Go.Ground.data }, { on := 6, ground := Go.Ground.data }, { on := 6, ground := Go.Ground.chain }], guard := none }, { dst := some 11, op := Go.Op.assign (Go.Operand.tmp 58), type := 27, pos := "law.go:251", after := #[{ on := 7, ground := Go.Ground.data }, { on := 7, ground := Go.Ground.chain }, { on := 0, ground := Go.Ground.phase }, { on := 1, ground := Go.Ground.phase }, { on := 2, ground := Go.Ground.phase }, { on := 3, ground := Go.Ground.phase }, { on := 4, ground := Go.Ground.phase }, { on := 5, ground := Go.Ground.phase }, { on := 6, ground := Go.Ground.phase }, { on := 7, ground := Go.Ground.phase }], guard := none }] false).seq ((Go.Code.region 10 #[{ dst := some 59, op := Go.Op.move (Go.Operand.tmp 0), type := 22, pos := "law.go:252", after := #[], guard := none }, { dst := some 60, op := Go.Op.move (Go.Operand.tmp 10), type := 3, pos := "law.go:252", after := #[], guard := none }, { dst := some 61, op := Go.Op.indexAddr 22 (Go.Operand.tmp 59) (Go.Operand.tmp 60), type := 0, pos := "law.go:252", after := #[{ on := 0, ground := Go.Ground.data }, { on := 1, ground := Go.Ground.data }], guard := none }, { dst := some 62, op := Go.Op.load 5 (Go.Operand.tmp 61), type := 5, pos := "law.go:252", after := #[{ on := 2, ground := Go.Ground.data }], guard := none }, { dst := some 63, op := Go.Op.call { callee := Go.Callee.value (Go.Operand.func 19), args := #[Go.Operand.tmp 62], argTypes := #[5] }, type := 22, pos := "law.go:252", after := #[{ on := 3, ground := Go.Ground.data }], guard := none }, { dst := some 12, op := Go.Op.assign (Go.Operand.tmp 63), type := 22, pos := "law.go:252", after := #[{ on := 4, ground := Go.Ground.data }, { on := 4, ground := Go.Ground.chain }, { on := 0, ground := Go.Ground.phase }, { on := 1, ground := Go.Ground.phase }, { on := 2, ground := Go.Ground.phase }, { on := 3, ground := Go.Ground.phase }, { on := 4, ground := Go.Ground.phase }], guard := none }] false).seq ((Go.Code.region 11 #[{ dst := some 64, op := Go.Op.move (Go.Operand.tmp 9), type := 59, pos := "law.go:253", after := #[], guard := none }, { dst := some 65, op := Go.Op.move (Go.Operand.tmp 12), type := 22, pos := "law.go:253", after := #[], guard := none }, { dst := some 66, op := Go.Op.buildSlice 59 1 #[(0, Go.Operand.tmp 65)], type := 59, pos := "law.go:253", after := #[{ on := 1, ground := Go.Ground.data }], guard := none }, { dst := some 67, op := Go.Op.call { callee := Go.Callee.builtin Go.Builtin.append, args := #[Go.Operand.tmp 64, Go.Operand.tmp 66], argTypes := #[59, 59] }, type := 59, pos := "law.go:253", after := #[{ on := 0, ground := Go.Ground.data }, { on := 2, ground := Go.Ground.data }], guard := none }, { dst := some 9, op := Go.Op.assign (Go.Operand.tmp 67), type := 59, pos := "law.go:253", after := #[{ on := 3, ground := Go.Ground.data }, { on := 3, ground := Go.Ground.chain }, { on := 0, ground := Go.Ground.phase }, { on := 1, ground := Go.Ground.phase }, { on := 2, ground := Go.Ground.phase }, { on := 3, ground := Go.Ground.phase }], guard := none }] false).seq ((Go.Code.region 12 #[{ dst := some 68, op := Go.Op.move (Go.Operand.tmp 11), type := 27, pos := "law.go:254", after := #[], guard := none }, { dst := some 69, op := Go.Op.call { callee := Go.Callee.value (Go.Operand.func 13), args := #[Go.Operand.tmp 68], argTypes := #[27] }, type := 3, pos := "law.go:254", after := #[{ on := 0, ground := Go.Ground.data }], guard := none }, { dst := some 70, op := Go.Op.binOp Go.BinOp.neq 3 (Go.Operand.tmp 69) (Go.Operand.const (Go.Value.int Go.IntKind.i64 0)) 3, type := 4, pos := "law.go:254", after := #[{ on := 1, ground := Go.Ground.data }], guard := none }] false).seq (Go.Code.cond (Go.Operand.tmp 70) ((Go.Code.region 13 #[{ dst := some 6, op := Go.Op.assign (Go.Operand.const (Go.Value.bool false)), type := 4, pos := "law.go:255", after := #[], guard := none }] false).seq Go.Code.ret) Go.Code.skip)))))).seq (Go.Code.region 8 #[{ dst := some 49, op := Go.Op.move (Go.Operand.tmp 10), type := 3, pos := "law.go:250", after := #[], guard := none }, { dst := some 50, op := Go.Op.binOp Go.BinOp.add 3 (Go.Operand.tmp 49) (Go.Operand.const (Go.Value.int Go.IntKind.i64 1)) 3, type := 3, pos := "law.go:250", after := #[{ on := 0, ground := Go.Ground.data }], guard := none }, { dst := some 10, op := Go.Op.assign (Go.Operand.tmp 50), type := 3, pos := "law.go:250", after := #[{ on := 1, ground := Go.Ground.data }, { on := 0, ground := Go.Ground.phase }, { on := 1, ground := Go.Ground.phase }], guard := none }] false))).loop) (Exit.then K Q') ⟨#[.slice ao n cap, y1, y2, y3, y4, y5, y6, y7, .pointer (some ⟨B, 0, none⟩), .slice none 0 0, .int .i64 0, y11, y12, y13, y14, y15, y16, y17, y18, y19, y20, y21, y22, y23, y24, y25, y26, y27, y28, y29, y30, y31, y32, y33, y34, y35, y36, y37, y38, y39, y40, y41, y42, y43, y44, y45, y46, y47, y48, y49, y50, y51, y52, y53, y54, y55, y56, y57, y58, y59, y60, y61, y62, y63, y64, y65, y66, y67, y68, y69, y70, y71, y72, y73, y74, y75, y76, y77, y78, y79, y80, y81, y82, y83, y84, y85, y86, y87, y88, y89, y90, y91, y92, y93, y94, y95, y96, y97, y98, y99, y100, y101, y102, y103, y104, y105, y106, y107, y108, y109, y110, y111, y112, y113, y114, y115, y116, y117, y118, y119, y120, y121, y122, y123, y124, y125, y126, y127, y128, y129, y130, y131, y132, y133, y134, y135, y136, y137, y138, y139, y140, y141, y142, y143, y144, y145, y146, y147, y148, y149, y150, y151, y152, y153, y154, y155, y156, y157, y158, y159, y160, y161, y162, y163, y164, y165, y166, y167, y168, y169, y170, y171, y172, y173, y174, y175, y176, y177, y178, y179, y180, y181, y182, y183, y184, y185, y186, y187, y188, y189, y190, y191, y192, y193, y194, y195, y196, y197, y198, y199, y200, y201, y202, y203, y204, y205, y206, y207, y208, y209, y210, y211, y212, y213, y214, y215, y216, y217, y218, y219, y220, y221, y222, y223, y224, y225, y226, y227, y228, y229, y230, y231, y232, y233, y234, y235, y236, y237, y238, y239, y240, y241, y242, y243, y244, y245, y246, y247, y248, y249, y250, y251, y252, y253, y254, y255, y256, y257, y258, y259, y260, y261, y262, y263, y264, y265, y266, y267, y268, y269, y270, y271, y272, y273, y274, y275, y276, y277, y278, y279, y280, y281, y282, y283, y284, y285, y286, y287], []⟩ wc := by
  have HK := hid_intro hK
  clear hK
  dsimp only
  obtain ⟨i0, hi, hz0, hz1, hz2⟩ := info_parts info_bytes
  have hlen := hb.len
  have HB := hid_intro hb
  clear hb
  go_wp2_with fail
  go_loopw [9, 10] (fun sv si wr => ∃ (k : Nat) (bl : List (Nat × List Int)) (s : Ds), k ≤ min n 20 ∧ si = .int .i64 (k : Int) ∧ Cw w wr B sv bl (.slice none 0 0) [] s ∧ bl.map (·.2) = (lst.take k).map fp ∧ s.view = (lst.take k).map fp ∧ Cs s k) (fun _ si _ => 20 - (intOf si).toNat)
  case atStart => exact ⟨0, [], s0, Nat.zero_le _, rfl, L.out, by simp, by simpa using hv0, hs0⟩
  case round =>
    obtain ⟨k, bl, s, hk, rfl, hC, hbl, hvw, hs⟩ := hrel
    by_cases hlt : k < min n 20
    · have a1 : (k : Int) < (n : Int) := by omega
      have a2 : (k : Int) < 20 := by omega
      obtain ⟨b, off, eao, _, hcell⟩ := HB.out.at (by omega)
      subst eao
      have cx0 := hcell k (by omega)
      have cx := hC.dw.grown.cell cx0 (by simp)
      have hgk : lst[k]? = some (lst.getD k 0) := by rw [List.getD, List.getElem?_eq_getElem (by omega)]; rfl
      have hxb := hbt (lst.getD k 0) (List.mem_of_getElem? hgk)
      revert cx0 cx hgk hxb
      generalize lst.getD k 0 = x
      intro cx0 cx hgk hxb
      have CX0 := hid_intro cx0
      clear cx0
      have hbll : bl.length = k := by have := congrArg List.length hbl; simpa [Nat.min_eq_left (show k ≤ lst.length by omega)] using this
      have hpg : s.pages = k := by rw [← s.view_len, hvw]; simp; omega
      have HPG := hid_intro hpg
      have HLL := hid_intro hbll
      clear hpg hbll
      have HC := hid_intro hC
      have HS := hid_intro hs
      have HV := hid_intro hvw
      have HBL := hid_intro hbl
      obtain ⟨ov, oc, ev⟩ : ∃ ao cap, u9 = .slice ao bl.length cap := owns_slice hC.ob
      subst ev
      clear hC hs hvw hbl hcell
      go_wp2_with fail
      refine (full_any x wr).mono ?_
      rintro e w1 ⟨rfl, hr1, hg1⟩
      have G1 := hid_intro hg1
      have R1 := hid_intro hr1
      have cx1 := hg1.cell cx (by simp)
      clear hg1 hr1 cx
      go_wp2_with fail
      refine (dw_write HC.out.dw G1.out k (fp x) R1.out (fp_len x) (fp_bt hxb) (HS.out.may k (by have := HPG.out; omega) (by omega)) (by have := HS.out.done; omega) (by rw [HS.out.left]; omega)).mono ?_
      rintro e w2 ⟨rfl, hd2, hs2⟩
      rw [HS.out.ans]
      have C2 := hid_intro ((HC.out.keptN G1.out).st hd2 hs2)
      have cx2 := C2.out.dw.grown.cell CX0.out (by simp)
      clear hd2 hs2 cx1
      go_wp2_with fail
      refine (full_any x w2).mono ?_
      rintro e w3 ⟨rfl, hr3, hg3⟩
      have R3 := hid_intro hr3
      have G3 := hid_intro hg3
      have OB := hid_intro ((C2.out.keptN hg3).ob.alloc (.cells #[.slice (some ⟨w2.heap.size, 0, none⟩) 4096 4096] 22))
      have SA : Hid (w.heap.size ≤ (w3.alloc (.cells #[.slice (some ⟨w2.heap.size, 0, none⟩) 4096 4096] 22)).heap.size) := by have := (C2.out.keptN hg3).dw.grown.size; show _ ≤ _; simp; omega
      clear hr3 hg3 cx2
      go_wp2_with (at_builtin; refine wpList_append_own_at _ rfl _ _ 59 rfl w.heap.size 22 i0 (.slice none 0 0) 1 24 Try.underlying59 hi hz0 hz1 hz2 rfl (by decide) (.slice ov bl.length oc) bl.length (bl.map fun x : Nat × List Int => pv x.1) rfl OB.out ⟨w3.heap.size, 0, none⟩ 1 1 [.slice (some ⟨w2.heap.size, 0, none⟩) 4096 4096] rfl rfl (cell_one12 _ _ _) (by intro u hu; simp at hu; subst hu; rfl) (by have := HLL.out; unfold maxLen; omega) (by have := HLL.out; omega) SA.out ?_)
      intro v' w' ho' hg' hnil loc
      have C4 := hid_intro (C2.out.addB (grown_trans G3.out (World.grownBy_alloc w3 (.cells #[.slice (some ⟨w2.heap.size, 0, none⟩) 4096 4096] 22) none)) ((show Rw w3 w2.heap.size (fp x) from R3.out).keptN (World.grownBy_alloc w3 _ none)) (Nat.le_refl _) (fp_len x) hg' ho' (by simpa using loc))
      clear ho' hg' hnil loc
      go_wp2_with fail
      refine (num_12 _ _ (by omega)).mono ?_
      rintro e w5 ⟨rfl, hw5⟩
      rw [hw5]
      clear hw5
      clear w5
      go_wp2
      go_roundw
      case rel =>
        refine ⟨k + 1, bl ++ [(w2.heap.size, fp x)], s.put k (fp x), by omega, by go_num, C4.out, ?_, ?_, HS.out.put k (fp x)⟩
        · rw [List.map_append, HBL.out, take_snoc12 lst k x hgk, List.map_append]; rfl
        · have hlk : (lst.take k).length = k := by simp; omega
          have e := landL_fp (lst.take k) k x (by omega)
          rw [if_pos hlk.symm] at e
          rw [view_put, HV.out, e, take_snoc12 lst k x hgk]
      case measure => simp [intOf]; omega
    · have hkm : k = min n 20 := by omega
      have e20 : lst.take k = lst.take 20 := by
        rw [hkm]
        by_cases h20 : n ≤ 20
        · rw [Nat.min_eq_left h20, List.take_of_length_le (by omega), List.take_of_length_le (by omega)]
        · rw [Nat.min_eq_right (by omega)]
      rw [e20] at hbl hvw
      have FIN := hid_intro (show ∃ bl s, Cw w wr B u9 bl (.slice none 0 0) [] s ∧ bl.map (·.2) = (lst.take 20).map fp ∧ s.view = (lst.take 20).map fp ∧ Cs s 20 from ⟨bl, s, hC, hbl, hvw, hs.wide (by omega)⟩)
      by_cases a1 : (k : Int) < (n : Int)
      · have a2 : ¬ (k : Int) < 20 := by omega
        clear hC hbl hvw hs
        go_wp2_with fail
        refine HK.out _ _ _ _ _ _ _ _ _ _ _ _ _ _ _ _ _ _ _ _ _ _ _ _ _ _ _ _ _ _ _ _ _ _ _ _ ?_
        exact FIN.out
      · clear hC hbl hvw hs
        go_wp2_with fail
        refine HK.out _ _ _ _ _ _ _ _ _ _ _ _ _ _ _ _ _ _ _ _ _ _ _ _ _ _ _ _ _ _ _ _ _ _ _ _ ?_
        exact FIN.out

end Go.Proofs.Ytiljdhhfhjhhiaa
