import Derived.Test.YtiljdhhfhjhhiaaDc3
import Derived.Test.YtiljdhhfhjhhiaaDp2
import Derived.Deep.DeepCutAuto
import Derived.Deep.CutRange
import Derived.Deep.CutBlock
import Derived.Deep.QuietTactic
namespace Go.Proofs.Ytiljdhhfhjhhiaa
open Go.RowKit Go.MuLone

theorem wp_thenC {P : Program} {s : Code} {Q : Exit → Act → World → Prop} {a : Act} {w : World} (h : s.wp P (Exit.then (fun a w => Q .normal a w) Q) a w) : s.wp P Q a w := by
  refine wp_mono h ?_
  intro e a' w' hq
  cases e with
  | normal => exact hq
  | exit id => exact hq
  | goto l => exact hq
  | ret => exact hq
  | panic ch => exact hq
  | outgrown => exact hq
theorem Cw.doneAt {w0 w : World} {B k dc : Nat} {vb : Value} {dv : Option Addr} {bl : List (Nat × List Int)} {ds : List (Nat × Int)} {s : Ds} {p : Nat} {x : Int} (h : Cw w0 w B vb bl (.slice dv ds.length dc) ds s) (hd : ds[k]? = some (p, x)) : ∃ gd, dv = some ⟨gd, 0, none⟩ ∧ w.cell? ⟨gd, k * 2, none⟩ = some (.int .i64 (p : Int)) ∧ w.cell? ⟨gd, k * 2 + 1, none⟩ = some (.int .u8 x) := by
  have hk : k < ds.length := (List.getElem?_eq_some_iff.1 hd).1
  rcases h.od.2 with ⟨_, e⟩ | ⟨g, cap, cur, hv, _⟩
  · omega
  · injection hv with e1 e2 e3
    subst e1 e3
    obtain ⟨q1, q2⟩ := qcells_at ds k (p, x) hd
    exact ⟨g, rfl, by rw [h.od.cellAt (k * 2) (by omega), Nat.mul_comm]; exact q1, by rw [h.od.cellAt (k * 2 + 1) (by omega), Nat.mul_comm k 2]; exact q2⟩
theorem Cw.bookAt {w0 w : World} {B i oc : Nat} {vd : Value} {ov : Option Addr} {bl : List (Nat × List Int)} {ds : List (Nat × Int)} {s : Ds} {g : Nat} {z : List Int} (h : Cw w0 w B (.slice ov bl.length oc) bl vd ds s) (hd : bl[i]? = some (g, z)) : ∃ gb, ov = some ⟨gb, 0, none⟩ ∧ w.cell? ⟨gb, i, none⟩ = some (.slice (some ⟨g, 0, none⟩) 4096 4096) := by
  have hk : i < bl.length := (List.getElem?_eq_some_iff.1 hd).1
  rcases h.ob.2 with ⟨_, e⟩ | ⟨gb, cap, cur, hv, _⟩
  · omega
  · injection hv with e1 e2 e3
    subst e1 e3
    exact ⟨gb, rfl, by rw [h.ob.cellAt i (by omega), List.getElem?_map, hd]; rfl⟩
theorem fill12 (x : Int) (z : List Int) (hz : z.length = 4096) (k : Nat) (hk : k < 4096) : ((fp x).take k ++ z.drop k).set k x = (fp x).take (k + 1) ++ z.drop (k + 1) := by
  have := fill_gen (fp x) z k (by rw [fp_len]; omega) (by omega)
  rwa [fp_at x k hk] at this
def rAt (a : Int) : Nat := if a ≤ 0 then 0 else if 4096 ≤ a then 4096 else a.toNat
theorem rAt_le (a : Int) : rAt a ≤ 4096 := by
  unfold rAt
  repeat' split
  all_goals omega
theorem rAt_lt {a : Int} {j : Nat} (h : j < rAt a) : (j : Int) < a ∧ (j : Int) < 4096 := by
  unfold rAt at h
  repeat' split at h
  all_goals omega
theorem rAt_ge {a : Int} {j : Nat} (h : ¬ j < rAt a) : ¬ (j : Int) < a ∨ (j : Int) < a ∧ ¬ (j : Int) < 4096 := by
  unfold rAt at h
  repeat' split at h
  all_goals omega

set_option maxHeartbeats 16000000 in
set_option maxRecDepth 8000 in
theorem crash6 {y0 y1 y2 y3 y4 y5 y6 y7 y8 y10 y11 y12 y13 y14 y15 y17 y19 y20 y21 y22 y23 y24 y25 y26 y27 y28 y29 y30 y31 y32 y33 y34 y35 y36 y37 y38 y39 y40 y41 y42 y43 y44 y45 y46 y47 y48 y49 y50 y51 y52 y53 y54 y55 y56 y57 y58 y59 y60 y61 y62 y63 y64 y65 y66 y67 y68 y69 y70 y71 y72 y73 y74 y75 y76 y77 y78 y79 y80 y81 y82 y83 y84 y85 y86 y87 y88 y89 y90 y91 y92 y93 y94 y95 y96 y97 y98 y99 y100 y101 y102 y103 y104 y105 y106 y107 y108 y109 y110 y111 y112 y113 y114 y115 y116 y117 y118 y119 y120 y121 y122 y123 y124 y125 y126 y127 y128 y129 y130 y131 y132 y133 y134 y135 y136 y137 y138 y139 y140 y141 y142 y143 y144 y145 y146 y147 y148 y149 y150 y151 y152 y153 y154 y155 y156 y157 y158 y159 y160 y161 y162 y163 y164 y165 y166 y167 y168 y169 y170 y171 y172 y173 y174 y175 y176 y177 y178 y179 y180 y181 y182 y183 y184 y185 y186 y187 y188 y189 y190 y191 y192 y193 y194 y195 y196 y197 y198 y199 y200 y201 y202 y203 y204 y205 y206 y207 y208 y209 y210 y211 y212 y213 y214 y215 y216 y217 y218 y219 y220 y221 y222 y223 y224 y225 y226 y227 y228 y229 y230 y231 y232 y233 y234 y235 y236 y237 y238 y239 y240 y241 y242 y243 y244 y245 y246 y247 y248 y249 y250 y251 y252 y253 y254 y255 y256 y257 y258 y259 y260 y261 y262 y263 y264 y265 y266 y267 y268 y269 y270 y271 y272 y273 y274 y275 y276 y277 y278 y279 y280 y281 y282 y283 y284 y285 y286 y287 : Value} {w wc : World} {k p B oc gd dc : Nat} {x : Int} {bl : List (Nat × List Int)} {ds : List (Nat × Int)} {s : Ds} {ov0 : Option Addr} (hd : ds[k]? = some (p, x)) (hp60 : p < 60) (hbl60 : bl.length ≤ 60) (hC : Cw w wc B (.slice ov0 bl.length oc) bl (.slice (some ⟨gd, 0, none⟩) ds.length dc) ds s) {K : Act → World → Prop} {Q' : Exit → Act → World → Prop}
    (hK : ∀ (v9 v20 v168 v169 v170 v171 v172 v173 v174 v175 v176 v177 v178 v179 v180 : Value) (wx : World), (∃ bl', Cw w wx B v9 bl' (.slice (some ⟨gd, 0, none⟩) ds.length dc) ds s ∧ bl'.map (·.2) = bl.map (·.2) ++ List.replicate (p + 1 - bl.length) zp ∧ bl'.length ≤ 60) → K ⟨#[y0, y1, y2, y3, y4, y5, y6, y7, y8, v9, y10, y11, y12, y13, y14, y15, .slice (some ⟨gd, 0, none⟩) ds.length dc, y17, .int .i64 (k : Int), y19, v20, y21, y22, y23, y24, y25, y26, y27, y28, y29, y30, y31, y32, y33, y34, y35, y36, y37, y38, y39, y40, y41, y42, y43, y44, y45, y46, y47, y48, y49, y50, y51, y52, y53, y54, y55, y56, y57, y58, y59, y60, y61, y62, y63, y64, y65, y66, y67, y68, y69, y70, y71, y72, y73, y74, y75, y76, y77, y78, y79, y80, y81, y82, y83, y84, y85, y86, y87, y88, y89, y90, y91, y92, y93, y94, y95, y96, y97, y98, y99, y100, y101, y102, y103, y104, y105, y106, y107, y108, y109, y110, y111, y112, y113, y114, y115, y116, y117, y118, y119, y120, y121, y122, y123, y124, y125, y126, y127, y128, y129, y130, y131, y132, y133, y134, y135, y136, y137, y138, y139, y140, y141, y142, y143, y144, y145, y146, y147, y148, y149, y150, y151, y152, y153, y154, y155, y156, y157, y158, y159, y160, y161, y162, y163, y164, y165, y166, y167, v168, v169, v170, v171, v172, v173, v174, v175, v176, v177, v178, v179, v180, y181, y182, y183, y184, y185, y186, y187, y188, y189, y190, y191, y192, y193, y194, y195, y196, y197, y198, y199, y200, y201, y202, y203, y204, y205, y206, y207, y208, y209, y210, y211, y212, y213, y214, y215, y216, y217, y218, y219, y220, y221, y222, y223, y224, y225, y226, y227, y228, y229, y230, y231, y232, y233, y234, y235, y236, y237, y238, y239, y240, y241, y242, y243, y244, y245, y246, y247, y248, y249, y250, y251, y252, y253, y254, y255, y256, y257, y258, y259, y260, y261, y262, y263, y264, y265, y266, y267, y268, y269, y270, y271, y272, y273, y274, y275, y276, y277, y278, y279, y280, y281, y282, y283, y284, y285, y286, y287], []⟩ wx) :
    Code.wp Try.prog (Go.Code.block 6 (((Go.Code.region 37 #[{ dst := some 168, op := Go.Op.move (Go.Operand.tmp 9), type := 59, pos := "law.go:284", after := #[], guard := none }, { dst := some 169, op := Go.Op.call { callee := Go.Callee.builtin Go.Builtin.len, args := #[Go.Operand.tmp 168], argTypes := #[59] }, type := 3, pos := "law.go:284", after := #[{ on := 0, ground := Go.Ground.data }], guard := none }, { dst := some 170, op := Go.Op.move (Go.Operand.tmp 16), type := 53, pos := "law.go:284", after := #[], guard := none }, { dst := some 171, op := Go.Op.move (Go.Operand.tmp 18), type := 3, pos := "law.go:284", after := #[], guard := none }, { dst := some 172, op := Go.Op.indexAddr 53 (Go.Operand.tmp 170) (Go.Operand.tmp 171), type := 0, pos := "law.go:284", after := #[{ on := 2, ground := Go.Ground.data }, { on := 3, ground := Go.Ground.data }], guard := none }, { dst := some 173, op := Go.Op.fieldAddr 56 (Go.Operand.tmp 172) 0, type := 0, pos := "law.go:284", after := #[{ on := 4, ground := Go.Ground.data }], guard := none }, { dst := some 174, op := Go.Op.load 3 (Go.Operand.tmp 173), type := 3, pos := "law.go:284", after := #[{ on := 5, ground := Go.Ground.data }], guard := none }, { dst := some 175, op := Go.Op.binOp Go.BinOp.leq 3 (Go.Operand.tmp 169) (Go.Operand.tmp 174) 3, type := 4, pos := "law.go:284", after := #[{ on := 1, ground := Go.Ground.data }, { on := 6, ground := Go.Ground.data }], guard := none }] false).seq (Go.Code.cond (Go.Operand.tmp 175) Go.Code.skip (Go.Code.exit 6))).seq (Go.Code.block 7 ((Go.Code.region 38 #[{ dst := some 176, op := Go.Op.call { callee := Go.Callee.value (Go.Operand.func 19), args := #[Go.Operand.const (Go.Value.int Go.IntKind.u8 0)], argTypes := #[5] }, type := 22, pos := "law.go:285", after := #[], guard := none }, { dst := some 20, op := Go.Op.assign (Go.Operand.tmp 176), type := 22, pos := "law.go:285", after := #[{ on := 0, ground := Go.Ground.data }, { on := 0, ground := Go.Ground.chain }, { on := 0, ground := Go.Ground.phase }], guard := none }] false).seq (Go.Code.region 39 #[{ dst := some 177, op := Go.Op.move (Go.Operand.tmp 9), type := 59, pos := "law.go:286", after := #[], guard := none }, { dst := some 178, op := Go.Op.move (Go.Operand.tmp 20), type := 22, pos := "law.go:286", after := #[], guard := none }, { dst := some 179, op := Go.Op.buildSlice 59 1 #[(0, Go.Operand.tmp 178)], type := 59, pos := "law.go:286", after := #[{ on := 1, ground := Go.Ground.data }], guard := none }, { dst := some 180, op := Go.Op.call { callee := Go.Callee.builtin Go.Builtin.append, args := #[Go.Operand.tmp 177, Go.Operand.tmp 179], argTypes := #[59, 59] }, type := 59, pos := "law.go:286", after := #[{ on := 0, ground := Go.Ground.data }, { on := 2, ground := Go.Ground.data }], guard := none }, { dst := some 9, op := Go.Op.assign (Go.Operand.tmp 180), type := 59, pos := "law.go:286", after := #[{ on := 3, ground := Go.Ground.data }, { on := 3, ground := Go.Ground.chain }, { on := 0, ground := Go.Ground.phase }, { on := 1, ground := Go.Ground.phase }, { on := 2, ground := Go.Ground.phase }, { on := 3, ground := Go.Ground.phase }], guard := none }] false)))).loop) (Exit.then K Q') ⟨#[y0, y1, y2, y3, y4, y5, y6, y7, y8, .slice ov0 bl.length oc, y10, y11, y12, y13, y14, y15, .slice (some ⟨gd, 0, none⟩) ds.length dc, y17, .int .i64 (k : Int), y19, y20, y21, y22, y23, y24, y25, y26, y27, y28, y29, y30, y31, y32, y33, y34, y35, y36, y37, y38, y39, y40, y41, y42, y43, y44, y45, y46, y47, y48, y49, y50, y51, y52, y53, y54, y55, y56, y57, y58, y59, y60, y61, y62, y63, y64, y65, y66, y67, y68, y69, y70, y71, y72, y73, y74, y75, y76, y77, y78, y79, y80, y81, y82, y83, y84, y85, y86, y87, y88, y89, y90, y91, y92, y93, y94, y95, y96, y97, y98, y99, y100, y101, y102, y103, y104, y105, y106, y107, y108, y109, y110, y111, y112, y113, y114, y115, y116, y117, y118, y119, y120, y121, y122, y123, y124, y125, y126, y127, y128, y129, y130, y131, y132, y133, y134, y135, y136, y137, y138, y139, y140, y141, y142, y143, y144, y145, y146, y147, y148, y149, y150, y151, y152, y153, y154, y155, y156, y157, y158, y159, y160, y161, y162, y163, y164, y165, y166, y167, y168, y169, y170, y171, y172, y173, y174, y175, y176, y177, y178, y179, y180, y181, y182, y183, y184, y185, y186, y187, y188, y189, y190, y191, y192, y193, y194, y195, y196, y197, y198, y199, y200, y201, y202, y203, y204, y205, y206, y207, y208, y209, y210, y211, y212, y213, y214, y215, y216, y217, y218, y219, y220, y221, y222, y223, y224, y225, y226, y227, y228, y229, y230, y231, y232, y233, y234, y235, y236, y237, y238, y239, y240, y241, y242, y243, y244, y245, y246, y247, y248, y249, y250, y251, y252, y253, y254, y255, y256, y257, y258, y259, y260, y261, y262, y263, y264, y265, y266, y267, y268, y269, y270, y271, y272, y273, y274, y275, y276, y277, y278, y279, y280, y281, y282, y283, y284, y285, y286, y287], []⟩ wc := by
  have HK := hid_intro hK
  clear hK
  dsimp only
  obtain ⟨i0, hi, hz0, hz1, hz2⟩ := info_parts info_bytes
  have hkl : k < ds.length := (List.getElem?_eq_some_iff.1 hd).1
  have hkl' : (k : Int) < (ds.length : Int) := by omega
  have HL := hid_intro hbl60
  go_wp2_with fail
  go_loopg [9] (p + 1 - bl.length) (fun gh sv wr => ∃ (j : Nat) (bl' : List (Nat × List Int)), gh = p + 1 - bl.length - j ∧ j ≤ p + 1 - bl.length ∧ Cw w wr B sv bl' (.slice (some ⟨gd, 0, none⟩) ds.length dc) ds s ∧ bl'.map (·.2) = bl.map (·.2) ++ List.replicate j zp ∧ bl'.length = bl.length + j)
  case atStart => exact ⟨0, bl, rfl, Nat.zero_le _, hC, by simp, rfl⟩
  case round =>
    obtain ⟨j, bl', hgh, hj, hC', hmap, hlen⟩ := hrel
    obtain ⟨ov, oc', ev⟩ : ∃ ao cap, u9 = .slice ao bl'.length cap := owns_slice2 hC'.ob
    subst ev
    obtain ⟨gd', e', q1, q2⟩ := hC'.doneAt hd
    injection e' with e'
    injection e' with e'
    subst e'
    have HC := hid_intro hC'
    have HM := hid_intro hmap
    have HLN := hid_intro hlen
    have HGH := hid_intro hgh
    clear hC' hmap q2 hgh
    by_cases hlt : bl'.length ≤ p
    · have hlt' : (bl'.length : Int) ≤ (p : Int) := by omega
      clear hlen
      go_wp2_with fail
      refine (full_any 0 wr).mono ?_
      rintro e w3 ⟨rfl, hr3, hg3⟩
      have R3 := hid_intro hr3
      have G3 := hid_intro hg3
      have OB := hid_intro ((HC.out.keptN hg3).ob.alloc (.cells #[.slice (some ⟨wr.heap.size, 0, none⟩) 4096 4096] 22))
      have SA : Hid (w.heap.size ≤ (w3.alloc (.cells #[.slice (some ⟨wr.heap.size, 0, none⟩) 4096 4096] 22)).heap.size) := by have := (HC.out.keptN hg3).dw.grown.size; show _ ≤ _; simp; omega
      clear hr3 hg3 q1
      go_wp2_with (at_builtin; refine wpList_append_own_at _ rfl _ _ 59 rfl w.heap.size 22 i0 (.slice none 0 0) 1 24 Try.underlying59 hi hz0 hz1 hz2 rfl (by decide) (.slice ov bl'.length oc') bl'.length (bl'.map fun x : Nat × List Int => pv x.1) rfl OB.out ⟨w3.heap.size, 0, none⟩ 1 1 [.slice (some ⟨wr.heap.size, 0, none⟩) 4096 4096] rfl rfl (cell_one12 _ _ _) (by intro u hu; simp at hu; subst hu; rfl) (by unfold maxLen; omega) (by omega) SA.out ?_)
      intro v' w' ho' hg' hnil loc
      have C4 := hid_intro (HC.out.addB (grown_trans G3.out (World.grownBy_alloc w3 (.cells #[.slice (some ⟨wr.heap.size, 0, none⟩) 4096 4096] 22) none)) ((show Rw w3 wr.heap.size (fp 0) from R3.out).keptN (World.grownBy_alloc w3 _ none)) (Nat.le_refl _) (fp_len 0) hg' ho' (by simpa using loc))
      clear ho' hg' hnil loc
      go_wp2
      go_roundg (p + 1 - bl.length - (j + 1))
      case measure => have := HLN.out; have := HGH.out; omega
      case rel =>
        refine ⟨j + 1, bl' ++ [(wr.heap.size, fp 0)], rfl, by have := HLN.out; omega, C4.out, ?_, by rw [List.length_append, HLN.out]; rfl⟩
        rw [List.map_append, HM.out, List.append_assoc]
        congr 1
        rw [List.replicate_succ']
        rfl
    · have hlt' : ¬ (bl'.length : Int) ≤ (p : Int) := by omega
      have hjj : j = p + 1 - bl.length := by omega
      clear hlen
      go_wp2_with fail
      refine HK.out _ _ _ _ _ _ _ _ _ _ _ _ _ _ _ _ ?_
      exact ⟨bl', HC.out, by rw [HM.out, hjj], by have := HLN.out; have := HL.out; omega⟩

end Go.Proofs.Ytiljdhhfhjhhiaa
