import Derived.Test.YtiljdhhfhjhhiaaDc5
import Derived.Deep.DeepCutAuto
import Derived.Deep.CutRange
import Derived.Deep.CutBlock
import Derived.Deep.QuietTactic
namespace Go.Proofs.Ytiljdhhfhjhhiaa
open Go.RowKit Go.MuLone

theorem grown_new12 {w a b : World} {v : Value} {n : Nat} {xs : List Value} (h : w.grownBy a none) (hg : a.grownBy b v.ownBlock) (ho : a.ownsRow w.heap.size 5 1 v n xs) : w.grownBy b none :=
  ⟨hg.os.trans h.os, hg.tape.trans h.tape, hg.output.trans h.output, Nat.le_trans h.size hg.size, fun q hq hn => (hg.block q (Nat.lt_of_lt_of_le hq h.size) (fun e => by have := (ho.lt q e.symm).1; omega)).trans (h.block q hq hn)⟩

set_option maxHeartbeats 16000000 in
set_option maxRecDepth 8000 in
theorem crash10 {y0 y1 y2 y3 y4 y5 y6 y7 y8 y10 y11 y12 y13 y14 y15 y16 y17 y18 y19 y20 y21 y24 y25 y26 y27 y28 y29 y30 y31 y32 y33 y34 y35 y36 y37 y38 y39 y40 y41 y42 y43 y44 y45 y46 y47 y48 y49 y50 y51 y52 y53 y54 y55 y56 y57 y58 y59 y60 y61 y62 y63 y64 y65 y66 y67 y68 y69 y70 y71 y72 y73 y74 y75 y76 y77 y78 y79 y80 y81 y82 y83 y84 y85 y86 y87 y88 y89 y90 y91 y92 y93 y94 y95 y96 y97 y98 y99 y100 y101 y102 y103 y104 y105 y106 y107 y108 y109 y110 y111 y112 y113 y114 y115 y116 y117 y118 y119 y120 y121 y122 y123 y124 y125 y126 y127 y128 y129 y130 y131 y132 y133 y134 y135 y136 y137 y138 y139 y140 y141 y142 y143 y144 y145 y146 y147 y148 y149 y150 y151 y152 y153 y154 y155 y156 y157 y158 y159 y160 y161 y162 y163 y164 y165 y166 y167 y168 y169 y170 y171 y172 y173 y174 y175 y176 y177 y178 y179 y180 y181 y182 y183 y184 y185 y186 y187 y188 y189 y190 y191 y192 y193 y194 y195 y196 y197 y198 y199 y200 y201 y202 y203 y204 y205 y206 y207 y208 y209 y210 y211 y212 y213 y214 y215 y216 y217 y218 y219 y220 y221 y222 y223 y224 y225 y226 y227 y228 y229 y230 y231 y232 y233 y234 y235 y236 y237 y238 y239 y240 y241 y242 y243 y244 y245 y246 y247 y248 y249 y250 y251 y252 y253 y254 y255 y256 y257 y258 y259 y260 y261 y262 y263 y264 y265 y266 y267 y268 y269 y270 y271 y272 y273 y274 y275 y276 y277 y278 y279 y280 y281 y282 y283 y284 y285 y286 y287 : Value} {w wc : World} {B oc : Nat} {ov : Option Addr} {vd : Value} {bl : List (Nat × List Int)} {ds : List (Nat × Int)} {s : Ds} (hb60 : bl.length ≤ 60) (hC : Cw w wc B (.slice ov bl.length oc) bl vd ds s) {K : Act → World → Prop} {Q' : Exit → Act → World → Prop}
    (hK : ∀ (v22 v23 v205 v206 v207 v208 v209 v210 v211 v212 v213 v214 v215 v216 : Value) (wx : World), (wc.grownBy wx none ∧ wx.ownsRow wc.heap.size 5 1 v22 (4096 * bl.length) (((bl.map (·.2)).flatten).map (Value.int .u8))) → K ⟨#[y0, y1, y2, y3, y4, y5, y6, y7, y8, .slice ov bl.length oc, y10, y11, y12, y13, y14, y15, y16, y17, y18, y19, y20, y21, v22, v23, y24, y25, y26, y27, y28, y29, y30, y31, y32, y33, y34, y35, y36, y37, y38, y39, y40, y41, y42, y43, y44, y45, y46, y47, y48, y49, y50, y51, y52, y53, y54, y55, y56, y57, y58, y59, y60, y61, y62, y63, y64, y65, y66, y67, y68, y69, y70, y71, y72, y73, y74, y75, y76, y77, y78, y79, y80, y81, y82, y83, y84, y85, y86, y87, y88, y89, y90, y91, y92, y93, y94, y95, y96, y97, y98, y99, y100, y101, y102, y103, y104, y105, y106, y107, y108, y109, y110, y111, y112, y113, y114, y115, y116, y117, y118, y119, y120, y121, y122, y123, y124, y125, y126, y127, y128, y129, y130, y131, y132, y133, y134, y135, y136, y137, y138, y139, y140, y141, y142, y143, y144, y145, y146, y147, y148, y149, y150, y151, y152, y153, y154, y155, y156, y157, y158, y159, y160, y161, y162, y163, y164, y165, y166, y167, y168, y169, y170, y171, y172, y173, y174, y175, y176, y177, y178, y179, y180, y181, y182, y183, y184, y185, y186, y187, y188, y189, y190, y191, y192, y193, y194, y195, y196, y197, y198, y199, y200, y201, y202, y203, y204, v205, v206, v207, v208, v209, v210, v211, v212, v213, v214, v215, v216, y217, y218, y219, y220, y221, y222, y223, y224, y225, y226, y227, y228, y229, y230, y231, y232, y233, y234, y235, y236, y237, y238, y239, y240, y241, y242, y243, y244, y245, y246, y247, y248, y249, y250, y251, y252, y253, y254, y255, y256, y257, y258, y259, y260, y261, y262, y263, y264, y265, y266, y267, y268, y269, y270, y271, y272, y273, y274, y275, y276, y277, y278, y279, y280, y281, y282, y283, y284, y285, y286, y287], []⟩ wx) :
    Code.wp Try.prog (Go.Code.block 10 (((Go.Code.region 46 #[{ dst := some 205, op := Go.Op.move (Go.Operand.tmp 23), type := 3, pos := "law.go:293", after := #[], guard := none }, { dst := some 206, op := Go.Op.move (Go.Operand.tmp 9), type := 59, pos := "law.go:293", after := #[], guard := none }, { dst := some 207, op := Go.Op.call { callee := Go.Callee.builtin Go.Builtin.len, args := #[Go.Operand.tmp 206], argTypes := #[59] }, type := 3, pos := "law.go:293", after := #[{ on := 1, ground := Go.Ground.data }], guard := none }, { dst := some 208, op := Go.Op.binOp Go.BinOp.lss 3 (Go.Operand.tmp 205) (Go.Operand.tmp 207) 3, type := 4, pos := "law.go:293", after := #[{ on := 0, ground := Go.Ground.data }, { on := 2, ground := Go.Ground.data }], guard := none }] false).seq (Go.Code.cond (Go.Operand.tmp 208) Go.Code.skip (Go.Code.exit 10))).seq ((Go.Code.block 11 (Go.Code.region 48 #[{ dst := some 211, op := Go.Op.move (Go.Operand.tmp 22), type := 22, pos := "law.go:294", after := #[], guard := none }, { dst := some 212, op := Go.Op.move (Go.Operand.tmp 9), type := 59, pos := "law.go:294", after := #[], guard := none }, { dst := some 213, op := Go.Op.move (Go.Operand.tmp 23), type := 3, pos := "law.go:294", after := #[], guard := none }, { dst := some 214, op := Go.Op.indexAddr 59 (Go.Operand.tmp 212) (Go.Operand.tmp 213), type := 0, pos := "law.go:294", after := #[{ on := 1, ground := Go.Ground.data }, { on := 2, ground := Go.Ground.data }], guard := none }, { dst := some 215, op := Go.Op.load 22 (Go.Operand.tmp 214), type := 22, pos := "law.go:294", after := #[{ on := 3, ground := Go.Ground.data }], guard := none }, { dst := some 216, op := Go.Op.call { callee := Go.Callee.builtin Go.Builtin.append, args := #[Go.Operand.tmp 211, Go.Operand.tmp 215], argTypes := #[22, 22] }, type := 22, pos := "law.go:294", after := #[{ on := 0, ground := Go.Ground.data }, { on := 4, ground := Go.Ground.data }], guard := none }, { dst := some 22, op := Go.Op.assign (Go.Operand.tmp 216), type := 22, pos := "law.go:294", after := #[{ on := 5, ground := Go.Ground.data }, { on := 5, ground := Go.Ground.chain }, { on := 0, ground := Go.Ground.phase }, { on := 1, ground := Go.Ground.phase }, { on := 2, ground := Go.Ground.phase }, { on := 3, ground := Go.Ground.phase }, { on := 4, ground := Go.Ground.phase }, { on := 5, ground := Go.Ground.phase }], guard := none }] false)).seq (Go.Code.region 47 #[{ dst := some 209, op := Go.Op.move (Go.Operand.tmp 23), type := 3, pos := "law.go:293", after := #[], guard := none }, { dst := some 210, op := Go.Op.binOp Go.BinOp.add 3 (Go.Operand.tmp 209) (Go.Operand.const (Go.Value.int Go.IntKind.i64 1)) 3, type := 3, pos := "law.go:293", after := #[{ on := 0, ground := Go.Ground.data }], guard := none }, { dst := some 23, op := Go.Op.assign (Go.Operand.tmp 210), type := 3, pos := "law.go:293", after := #[{ on := 1, ground := Go.Ground.data }, { on := 0, ground := Go.Ground.phase }, { on := 1, ground := Go.Ground.phase }], guard := none }] false))).loop) (Exit.then K Q') ⟨#[y0, y1, y2, y3, y4, y5, y6, y7, y8, .slice ov bl.length oc, y10, y11, y12, y13, y14, y15, y16, y17, y18, y19, y20, y21, .slice none 0 0, .int .i64 0, y24, y25, y26, y27, y28, y29, y30, y31, y32, y33, y34, y35, y36, y37, y38, y39, y40, y41, y42, y43, y44, y45, y46, y47, y48, y49, y50, y51, y52, y53, y54, y55, y56, y57, y58, y59, y60, y61, y62, y63, y64, y65, y66, y67, y68, y69, y70, y71, y72, y73, y74, y75, y76, y77, y78, y79, y80, y81, y82, y83, y84, y85, y86, y87, y88, y89, y90, y91, y92, y93, y94, y95, y96, y97, y98, y99, y100, y101, y102, y103, y104, y105, y106, y107, y108, y109, y110, y111, y112, y113, y114, y115, y116, y117, y118, y119, y120, y121, y122, y123, y124, y125, y126, y127, y128, y129, y130, y131, y132, y133, y134, y135, y136, y137, y138, y139, y140, y141, y142, y143, y144, y145, y146, y147, y148, y149, y150, y151, y152, y153, y154, y155, y156, y157, y158, y159, y160, y161, y162, y163, y164, y165, y166, y167, y168, y169, y170, y171, y172, y173, y174, y175, y176, y177, y178, y179, y180, y181, y182, y183, y184, y185, y186, y187, y188, y189, y190, y191, y192, y193, y194, y195, y196, y197, y198, y199, y200, y201, y202, y203, y204, y205, y206, y207, y208, y209, y210, y211, y212, y213, y214, y215, y216, y217, y218, y219, y220, y221, y222, y223, y224, y225, y226, y227, y228, y229, y230, y231, y232, y233, y234, y235, y236, y237, y238, y239, y240, y241, y242, y243, y244, y245, y246, y247, y248, y249, y250, y251, y252, y253, y254, y255, y256, y257, y258, y259, y260, y261, y262, y263, y264, y265, y266, y267, y268, y269, y270, y271, y272, y273, y274, y275, y276, y277, y278, y279, y280, y281, y282, y283, y284, y285, y286, y287], []⟩ wc := by
  have HK := hid_intro hK
  clear hK
  dsimp only
  have hC0 := hC
  obtain ⟨i0, hi, hz0, hz1, hz2⟩ := info_parts info_u8
  have HC := hid_intro hC
  clear hC hC0
  go_wp2_with fail
  go_loopw [22, 23] (fun sv si wr => ∃ k : Nat, k ≤ bl.length ∧ si = .int .i64 (k : Int) ∧ wc.grownBy wr none ∧ wr.ownsRow wc.heap.size 5 1 sv (4096 * k) ((((bl.take k).map (·.2)).flatten).map (Value.int .u8))) (fun _ si _ => 60 - (intOf si).toNat)
  case atStart => exact ⟨0, Nat.zero_le _, rfl, World.grownBy.refl _ _, by simpa using World.ownsRow_nil wc _ _ _⟩
  case round =>
    obtain ⟨k, hk, rfl, hg, ho⟩ := hrel
    obtain ⟨va, ca, ev⟩ : ∃ ao cap, u22 = .slice ao (4096 * k) cap := owns_slice2 ho
    subst ev
    have OA := hid_intro ho
    have HG := hid_intro hg
    by_cases hlt : k < bl.length
    · have hlt' : (k : Int) < (bl.length : Int) := by omega
      obtain ⟨g, z, hgz⟩ : ∃ g z, bl[k]? = some (g, z) := ⟨(bl[k]).1, (bl[k]).2, List.getElem?_eq_getElem hlt⟩
      obtain ⟨gb, e, q1⟩ := (HC.out.keptN hg).bookAt hgz
      subst e
      obtain ⟨hr1, _, hr3⟩ := (HC.out.keptN hg).rows _ (List.mem_of_getElem? hgz)
      have BY := hid_intro (hr1.all 4096 4096 hr3.symm)
      have HS : Hid (wc.heap.size ≤ wr.heap.size) := hg.size
      clear ho hg hr1
      go_wp2_with (at_builtin; refine wpList_append_byt rfl _ _ rfl wc.heap.size (.slice va (4096 * k) ca) (4096 * k) (((bl.take k).map (·.2)).flatten) rfl OA.out (some ⟨g, 0, none⟩) 4096 4096 z rfl BY.out (by omega) HS.out ?_)
      intro v' w' ho' hg'
      have O' := hid_intro ho'
      have G' := hid_intro (grown_new12 HG.out hg' OA.out)
      clear ho' hg'
      go_wp2
      go_roundw
      case rel =>
        refine ⟨k + 1, by omega, by go_num, G'.out, ?_⟩
        rw [List.take_add_one, hgz, Option.toList_some, List.map_append, List.flatten_append]
        have := O'.out
        simpa [Nat.mul_add] using this
      case measure => simp [intOf]; omega
    · have hlt' : ¬ (k : Int) < (bl.length : Int) := by omega
      have hkb : k = bl.length := by omega
      have hall : bl.take k = bl := List.take_of_length_le (by omega)
      rw [hall] at OA
      have HKB := hid_intro hkb
      clear ho hg hkb hall
      go_wp2_with fail
      refine HK.out _ _ _ _ _ _ _ _ _ _ _ _ _ _ _ ?_
      exact ⟨HG.out, by rw [← HKB.out]; exact OA.out⟩

end Go.Proofs.Ytiljdhhfhjhhiaa
