import Derived.Test.YtcfmkpgfeodhaaaGreatDoorQ22
import Derived.Deep.DeepCutAuto
import Derived.Deep.CutRange
import Derived.Deep.CutBlock
import Derived.Deep.QuietTactic
import Derived.Deep.RegionHeld3
namespace Go.Proofs.YtcfmkpgfeodhaaaGreatDoor
open Go.RowKit Go.Maps
set_option maxHeartbeats 16000000 in
set_option maxRecDepth 100000 in
theorem powns3 {y0 y1 y2 y3 y4 y5 y6 y7 y8 y9 y12 y13 y14 y15 y17 y18 y19 y20 y21 y22 y23 y24 y25 y26 y27 y28 y29 y30 y31 y32 y33 y34 y35 y36 y37 y38 y39 y40 y41 y42 y43 y44 y45 y46 y47 y48 y49 y50 y51 y52 y53 y54 y55 y56 y57 y58 y59 y60 y61 y62 y63 y64 y65 y66 y67 y68 y69 y70 y71 y72 y73 y74 y75 y76 y77 y78 y79 y80 y81 y82 y83 y84 y85 y86 y87 y88 y89 y90 y91 y92 y93 y94 y95 y96 y97 y98 y99 y100 y101 y102 y103 y104 y105 y106 y107 y108 y109 y110 y111 y112 y113 y114 y115 y116 y117 y118 y119 y120 y121 y122 y123 y124 y125 y126 y127 y128 y129 y130 y131 y132 y133 y134 y135 y136 y137 y138 y139 : Value} {w0 : World} {K base B s q m t : Nat} {wc : World} (HP : Hid (PbE w0 wc K base B s q m t)) (hm : m ≤ 900) {J : Act → World → Prop} {Q' : Exit → Act → World → Prop}
  (hK : ∀ (v16 v105 v106 v107 v108 v109 v110 v111 v112 v113 v114 v115 v116 : Value) (wx : World), (PbE w0 wx K base B s q (m + 4) t) → J ⟨#[y0, y1, y2, y3, y4, y5, y6, y7, y8, y9, .pointer (some ⟨B, 0, none⟩), .pointer (some ⟨K, 0, none⟩), y12, y13, y14, y15, v16, y17, y18, y19, y20, y21, y22, y23, y24, y25, y26, y27, y28, y29, y30, y31, y32, y33, y34, y35, y36, y37, y38, y39, y40, y41, y42, y43, y44, y45, y46, y47, y48, y49, y50, y51, y52, y53, y54, y55, y56, y57, y58, y59, y60, y61, y62, y63, y64, y65, y66, y67, y68, y69, y70, y71, y72, y73, y74, y75, y76, y77, y78, y79, y80, y81, y82, y83, y84, y85, y86, y87, y88, y89, y90, y91, y92, y93, y94, y95, y96, y97, y98, y99, y100, y101, y102, y103, y104, v105, v106, v107, v108, v109, v110, v111, v112, v113, v114, v115, v116, y117, y118, y119, y120, y121, y122, y123, y124, y125, y126, y127, y128, y129, y130, y131, y132, y133, y134, y135, y136, y137, y138, y139], []⟩ wx) :
  Code.wp Tryz.prog (Go.Code.block 3 (((Go.Code.region 22 #[{ dst := some 105, op := Go.Op.move (Go.Operand.tmp 16), type := 3, pos := "law.go:178", after := #[], guard := none }, { dst := some 106, op := Go.Op.binOp Go.BinOp.lss 3 (Go.Operand.tmp 105) (Go.Operand.const (Go.Value.int Go.IntKind.i64 2)) 3, type := 4, pos := "law.go:178", after := #[{ on := 0, ground := Go.Ground.data }], guard := none }] false).seq (Go.Code.cond (Go.Operand.tmp 106) Go.Code.skip (Go.Code.exit 3))).seq ((Go.Code.block 4 ((Go.Code.region 24 #[{ dst := some 109, op := Go.Op.move (Go.Operand.tmp 11), type := 31, pos := "law.go:179", after := #[], guard := none }, { dst := some 110, op := Go.Op.move (Go.Operand.tmp 10), type := 26, pos := "law.go:179", after := #[], guard := none }, { dst := some 111, op := Go.Op.call { callee := Go.Callee.value (Go.Operand.func 13), args := #[Go.Operand.tmp 110], argTypes := #[26] }, type := 22, pos := "law.go:179", after := #[{ on := 1, ground := Go.Ground.data }], guard := none }, { dst := some 112, op := Go.Op.call { callee := Go.Callee.value (Go.Operand.func 12), args := #[Go.Operand.tmp 109, Go.Operand.tmp 111], argTypes := #[31, 22] }, type := 0, pos := "law.go:179", after := #[{ on := 0, ground := Go.Ground.data }, { on := 2, ground := Go.Ground.data }, { on := 2, ground := Go.Ground.chain }], guard := none }] false).seq (Go.Code.region 25 #[{ dst := some 113, op := Go.Op.move (Go.Operand.tmp 11), type := 31, pos := "law.go:180", after := #[], guard := none }, { dst := some 114, op := Go.Op.move (Go.Operand.tmp 10), type := 26, pos := "law.go:180", after := #[], guard := none }, { dst := some 115, op := Go.Op.call { callee := Go.Callee.value (Go.Operand.func 14), args := #[Go.Operand.tmp 114], argTypes := #[26] }, type := 22, pos := "law.go:180", after := #[{ on := 1, ground := Go.Ground.data }], guard := none }, { dst := some 116, op := Go.Op.call { callee := Go.Callee.value (Go.Operand.func 12), args := #[Go.Operand.tmp 113, Go.Operand.tmp 115], argTypes := #[31, 22] }, type := 0, pos := "law.go:180", after := #[{ on := 0, ground := Go.Ground.data }, { on := 2, ground := Go.Ground.data }, { on := 2, ground := Go.Ground.chain }], guard := none }] false))).seq (Go.Code.region 23 #[{ dst := some 107, op := Go.Op.move (Go.Operand.tmp 16), type := 3, pos := "law.go:178", after := #[], guard := none }, { dst := some 108, op := Go.Op.binOp Go.BinOp.add 3 (Go.Operand.tmp 107) (Go.Operand.const (Go.Value.int Go.IntKind.i64 1)) 3, type := 3, pos := "law.go:178", after := #[{ on := 0, ground := Go.Ground.data }], guard := none }, { dst := some 16, op := Go.Op.assign (Go.Operand.tmp 108), type := 3, pos := "law.go:178", after := #[{ on := 1, ground := Go.Ground.data }, { on := 0, ground := Go.Ground.phase }, { on := 1, ground := Go.Ground.phase }], guard := none }] false))).loop) (Exit.then J Q') ⟨#[y0, y1, y2, y3, y4, y5, y6, y7, y8, y9, .pointer (some ⟨B, 0, none⟩), .pointer (some ⟨K, 0, none⟩), y12, y13, y14, y15, .int .i64 0, y17, y18, y19, y20, y21, y22, y23, y24, y25, y26, y27, y28, y29, y30, y31, y32, y33, y34, y35, y36, y37, y38, y39, y40, y41, y42, y43, y44, y45, y46, y47, y48, y49, y50, y51, y52, y53, y54, y55, y56, y57, y58, y59, y60, y61, y62, y63, y64, y65, y66, y67, y68, y69, y70, y71, y72, y73, y74, y75, y76, y77, y78, y79, y80, y81, y82, y83, y84, y85, y86, y87, y88, y89, y90, y91, y92, y93, y94, y95, y96, y97, y98, y99, y100, y101, y102, y103, y104, y105, y106, y107, y108, y109, y110, y111, y112, y113, y114, y115, y116, y117, y118, y119, y120, y121, y122, y123, y124, y125, y126, y127, y128, y129, y130, y131, y132, y133, y134, y135, y136, y137, y138, y139], []⟩ wc := by
 have HK := hid_intro hK
 clear hK
 dsimp only
 go_wp2_with fail
 go_loopw [16] (fun si wr => ∃ i : Nat, i ≤ 2 ∧ si = .int .i64 i ∧ PbE w0 wr K base B s q (m + 2 * i) t) (fun si _ => 2 - (zOf si).toNat)
 case atStart => exact ⟨0, by omega, rfl, HP.out⟩
 case round =>
  obtain ⟨i, hi, rfl, cs, L, ys, p, ps, hp⟩ := hrel
  have HP1 := hid_intro hp
  have hl20 := hp.ok.len20 hp.pl.ms.ris hp.pk
  have hul := us_len p
  clear hp HP
  by_cases hlt : i < 2
  ·have b1 : (i : Int) < 2 := by omega
   go_wp2_with fail
   refine (free_any HP1.out.pl (by omega)).mono ?_
   rintro en w2 ⟨v2, rfl, ho2, hg2⟩
   have HP2 := hid_intro (HP1.out.keptN hg2)
   have HO2 := hid_intro ho2
   clear ho2 hg2
   go_wp2_with fail
   refine (HP1.out.ints HP2.out HO2.out (by omega) (by omega)).mono ?_
   rintro en w3 ⟨rfl, cs3, L3, ys3, p3, ps3, h3⟩
   have HP3 := hid_intro h3
   have hl3 := h3.ok.len20 h3.pl.ms.ris h3.pk
   have hu3 := us_len p3
   clear h3 HP1 HP2 HO2
   go_wp2_with fail
   refine (usable_any HP3.out.pl (by omega)).mono ?_
   rintro en w4 ⟨v4, rfl, ho4, hg4⟩
   have HP4 := hid_intro (HP3.out.keptN hg4)
   have HO4 := hid_intro ho4
   clear ho4 hg4
   go_wp2_with fail
   refine (HP3.out.ints HP4.out HO4.out (by omega) (by omega)).mono ?_
   rintro en w5 ⟨rfl, cs5, L5, ys5, p5, ps5, h5⟩
   have HP5 := hid_intro h5
   clear h5 HP3 HP4 HO4 hl20 hul hl3 hu3
   go_wp2_with fail
   go_roundw
   case rel => exact ⟨i + 1, by omega, by go_num, cs5, L5, ys5, p5, ps5, HP5.out.wide (by omega) (by omega)⟩
   case measure => simp [zOf]; omega
  ·have b1 : ¬ (i : Int) < 2 := by omega
   go_wp2_with fail
   refine HK.out _ _ _ _ _ _ _ _ _ _ _ _ _ _ ?_
   exact ⟨cs, L, ys, p, ps, HP1.out.wide (by omega) (by omega)⟩
end Go.Proofs.YtcfmkpgfeodhaaaGreatDoor
