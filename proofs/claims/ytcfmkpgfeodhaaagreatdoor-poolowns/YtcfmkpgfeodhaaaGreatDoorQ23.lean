import Derived.Test.YtcfmkpgfeodhaaaGreatDoorQ22
import Derived.Deep.DeepCutAuto
import Derived.Deep.CutRange
import Derived.Deep.CutBlock
import Derived.Deep.QuietTactic
import Derived.Deep.RegionHeld3
namespace Go.Proofs.YtcfmkpgfeodhaaaGreatDoor
open Go.RowKit Go.Maps
set_option maxHeartbeats 16000000 in
set_option maxRecDepth 100000 in
theorem powns2 {y0 y1 y2 y3 y4 y5 y6 y7 y8 y9 y12 y14 y15 y16 y17 y18 y19 y20 y21 y22 y23 y24 y25 y26 y27 y28 y29 y30 y31 y32 y33 y34 y35 y36 y37 y38 y39 y40 y41 y42 y43 y44 y45 y46 y47 y48 y49 y50 y51 y52 y53 y54 y55 y56 y57 y58 y59 y60 y61 y62 y63 y64 y65 y66 y67 y68 y69 y70 y71 y72 y73 y74 y76 y77 y78 y79 y80 y81 y82 y83 y84 y85 y86 y87 y88 y89 y90 y91 y92 y93 y94 y95 y96 y97 y98 y99 y100 y101 y102 y103 y104 y105 y106 y107 y108 y109 y110 y111 y112 y113 y114 y115 y116 y117 y118 y119 y120 y121 y122 y123 y124 y125 y126 y127 y128 y129 y130 y131 y132 y133 y134 y135 y136 y137 y138 y139 : Value} {w0 : World} {K base B s q m t O n oc : Nat} {k oa ob : Int} {ao : Option Addr} {g : List Int} {wc : World} (HP : PbE w0 wc K base B s q m t) (c1 : wc.cell? ⟨O, 1, none⟩ = some (.int .i64 oa)) (c2 : wc.cell? ⟨O, 2, none⟩ = some (.int .i64 ob)) (c3 : wc.cell? ⟨O, 3, none⟩ = some (.slice ao n oc)) (HG : Hid (Nt wc ao g)) (hgn : g.length = n) (HW : Hid (Wf g)) (hn60 : n ≤ 60) (ha1 : oa ≤ 100) (ha2 : -9223372036854775808 ≤ oa ∧ oa ≤ 9223372036854775807) (hb2 : -9223372036854775808 ≤ ob ∧ ob ≤ 9223372036854775807) (ht : t ≤ 1000) (hm : m ≤ 1000) (hO : base ≤ O) {J : Act → World → Prop} {Q' : Exit → Act → World → Prop}
  (hK : ∀ (v14 v15 v76 v77 v78 v79 v80 v81 v82 v83 v84 v85 v86 v87 v88 v89 v90 v91 v92 v93 v94 v95 v96 v97 v98 v99 v100 v101 v102 v103 v104 : Value) (wx : World), (PbE w0 wx K base B s q (m + 1) (t + 1)) → J ⟨#[y0, y1, y2, y3, y4, y5, y6, y7, y8, y9, .pointer (some ⟨B, 0, none⟩), .pointer (some ⟨K, 0, none⟩), y12, .pointer (some ⟨O, 0, none⟩), v14, v15, y16, y17, y18, y19, y20, y21, y22, y23, y24, y25, y26, y27, y28, y29, y30, y31, y32, y33, y34, y35, y36, y37, y38, y39, y40, y41, y42, y43, y44, y45, y46, y47, y48, y49, y50, y51, y52, y53, y54, y55, y56, y57, y58, y59, y60, y61, y62, y63, y64, y65, y66, y67, y68, y69, y70, y71, y72, y73, y74, .int .i64 k, v76, v77, v78, v79, v80, v81, v82, v83, v84, v85, v86, v87, v88, v89, v90, v91, v92, v93, v94, v95, v96, v97, v98, v99, v100, v101, v102, v103, v104, y105, y106, y107, y108, y109, y110, y111, y112, y113, y114, y115, y116, y117, y118, y119, y120, y121, y122, y123, y124, y125, y126, y127, y128, y129, y130, y131, y132, y133, y134, y135, y136, y137, y138, y139], []⟩ wx) :
  Code.wp Tryz.prog (Go.Code.block 2 ((Go.Code.region 14 #[{ dst := some 77, op := Go.Op.binOp Go.BinOp.eql 3 (Go.Operand.tmp 75) (Go.Operand.const (Go.Value.int Go.IntKind.i64 1)) 3, type := 4, pos := "law.go:170", after := #[], guard := none }, { dst := some 76, op := Go.Op.assign (Go.Operand.tmp 77), type := 4, pos := "law.go:170", after := #[{ on := 0, ground := Go.Ground.data }], guard := none }] false).seq (Go.Code.cond (Go.Operand.tmp 76) (Go.Code.region 15 #[{ dst := some 78, op := Go.Op.move (Go.Operand.tmp 10), type := 26, pos := "law.go:171", after := #[], guard := none }, { dst := some 79, op := Go.Op.fieldAddr 48 (Go.Operand.tmp 13) 1, type := 0, pos := "law.go:171", after := #[], guard := none }, { dst := some 80, op := Go.Op.load 3 (Go.Operand.tmp 79), type := 3, pos := "law.go:171", after := #[{ on := 1, ground := Go.Ground.data }], guard := none }, { dst := some 81, op := Go.Op.call { callee := Go.Callee.value (Go.Operand.func 9), args := #[Go.Operand.tmp 78, Go.Operand.tmp 80], argTypes := #[26, 3] }, type := 0, pos := "law.go:171", after := #[{ on := 0, ground := Go.Ground.data }, { on := 2, ground := Go.Ground.data }], guard := none }] false) ((Go.Code.region 16 #[{ dst := some 83, op := Go.Op.binOp Go.BinOp.eql 3 (Go.Operand.tmp 75) (Go.Operand.const (Go.Value.int Go.IntKind.i64 2)) 3, type := 4, pos := "law.go:172", after := #[], guard := none }, { dst := some 82, op := Go.Op.assign (Go.Operand.tmp 83), type := 4, pos := "law.go:172", after := #[{ on := 0, ground := Go.Ground.data }], guard := none }] false).seq (Go.Code.cond (Go.Operand.tmp 82) (Go.Code.region 17 #[{ dst := some 84, op := Go.Op.move (Go.Operand.tmp 10), type := 26, pos := "law.go:173", after := #[], guard := none }, { dst := some 85, op := Go.Op.fieldAddr 48 (Go.Operand.tmp 13) 1, type := 0, pos := "law.go:173", after := #[], guard := none }, { dst := some 86, op := Go.Op.load 3 (Go.Operand.tmp 85), type := 3, pos := "law.go:173", after := #[{ on := 1, ground := Go.Ground.data }], guard := none }, { dst := some 87, op := Go.Op.call { callee := Go.Callee.value (Go.Operand.func 10), args := #[Go.Operand.tmp 84, Go.Operand.tmp 86], argTypes := #[26, 3] }, type := 4, pos := "law.go:173", after := #[{ on := 0, ground := Go.Ground.data }, { on := 2, ground := Go.Ground.data }], guard := none }] false) ((Go.Code.region 18 #[{ dst := some 89, op := Go.Op.binOp Go.BinOp.eql 3 (Go.Operand.tmp 75) (Go.Operand.const (Go.Value.int Go.IntKind.i64 5)) 3, type := 4, pos := "law.go:174", after := #[], guard := none }, { dst := some 88, op := Go.Op.assign (Go.Operand.tmp 89), type := 4, pos := "law.go:174", after := #[{ on := 0, ground := Go.Ground.data }], guard := none }] false).seq (Go.Code.cond (Go.Operand.tmp 88) ((Go.Code.region 19 #[{ dst := some 91, op := Go.Op.move (Go.Operand.tmp 10), type := 26, pos := "law.go:175", after := #[], guard := none }, { dst := some 92, op := Go.Op.fieldAddr 48 (Go.Operand.tmp 13) 1, type := 0, pos := "law.go:175", after := #[], guard := none }, { dst := some 93, op := Go.Op.load 3 (Go.Operand.tmp 92), type := 3, pos := "law.go:175", after := #[{ on := 1, ground := Go.Ground.data }], guard := none }, { dst := some 94, op := Go.Op.fieldAddr 48 (Go.Operand.tmp 13) 3, type := 0, pos := "law.go:175", after := #[], guard := none }, { dst := some 95, op := Go.Op.load 22 (Go.Operand.tmp 94), type := 22, pos := "law.go:175", after := #[{ on := 3, ground := Go.Ground.data }], guard := none }, { dst := some 96, op := Go.Op.call { callee := Go.Callee.value (Go.Operand.func 7), args := #[Go.Operand.tmp 95], argTypes := #[22] }, type := 22, pos := "law.go:175", after := #[{ on := 4, ground := Go.Ground.data }], guard := none }, { dst := some 97, op := Go.Op.fieldAddr 48 (Go.Operand.tmp 13) 2, type := 0, pos := "law.go:175", after := #[], guard := none }, { dst := some 98, op := Go.Op.load 3 (Go.Operand.tmp 97), type := 3, pos := "law.go:175", after := #[{ on := 6, ground := Go.Ground.data }], guard := none }, { dst := some 99, op := Go.Op.call { callee := Go.Callee.value (Go.Operand.func 11), args := #[Go.Operand.tmp 91, Go.Operand.tmp 93, Go.Operand.tmp 96, Go.Operand.tmp 98], argTypes := #[26, 3, 22, 3] }, type := 52, pos := "law.go:175", after := #[{ on := 0, ground := Go.Ground.data }, { on := 2, ground := Go.Ground.data }, { on := 5, ground := Go.Ground.data }, { on := 7, ground := Go.Ground.data }, { on := 5, ground := Go.Ground.chain }], guard := none }, { dst := some 90, op := Go.Op.move (Go.Operand.tmp 99), type := 52, pos := "law.go:175", after := #[{ on := 8, ground := Go.Ground.data }], guard := none }, { dst := some 100, op := Go.Op.extract (Go.Operand.tmp 90) 0, type := 22, pos := "law.go:175", after := #[{ on := 9, ground := Go.Ground.data }], guard := none }, { dst := some 101, op := Go.Op.extract (Go.Operand.tmp 90) 1, type := 51, pos := "law.go:175", after := #[{ on := 9, ground := Go.Ground.data }, { on := 12, ground := Go.Ground.gcOnly Go.Departure.lateStores }], guard := none }, { dst := some 14, op := Go.Op.assign (Go.Operand.tmp 100), type := 22, pos := "law.go:175", after := #[{ on := 10, ground := Go.Ground.data }, { on := 8, ground := Go.Ground.chain }, { on := 0, ground := Go.Ground.phase }, { on := 1, ground := Go.Ground.phase }, { on := 2, ground := Go.Ground.phase }, { on := 3, ground := Go.Ground.phase }, { on := 4, ground := Go.Ground.phase }, { on := 5, ground := Go.Ground.phase }, { on := 6, ground := Go.Ground.phase }, { on := 7, ground := Go.Ground.phase }, { on := 8, ground := Go.Ground.phase }, { on := 9, ground := Go.Ground.phase }, { on := 10, ground := Go.Ground.phase }, { on := 11, ground := Go.Ground.textOnly Go.Departure.lateStores }], guard := none }, { dst := some 15, op := Go.Op.assign (Go.Operand.tmp 101), type := 51, pos := "law.go:175", after := #[{ on := 11, ground := Go.Ground.data }, { on := 12, ground := Go.Ground.chain }, { on := 0, ground := Go.Ground.phase }, { on := 1, ground := Go.Ground.phase }, { on := 2, ground := Go.Ground.phase }, { on := 3, ground := Go.Ground.phase }, { on := 4, ground := Go.Ground.phase }, { on := 5, ground := Go.Ground.phase }, { on := 6, ground := Go.Ground.phase }, { on := 7, ground := Go.Ground.phase }, { on := 8, ground := Go.Ground.phase }, { on := 9, ground := Go.Ground.phase }, { on := 10, ground := Go.Ground.phase }, { on := 11, ground := Go.Ground.phase }, { on := 12, ground := Go.Ground.phase }], guard := none }] true).seq (Go.Code.region 20 #[{ dst := some 102, op := Go.Op.move (Go.Operand.tmp 11), type := 31, pos := "law.go:176", after := #[], guard := none }, { dst := some 103, op := Go.Op.move (Go.Operand.tmp 14), type := 22, pos := "law.go:176", after := #[], guard := none }, { dst := some 104, op := Go.Op.call { callee := Go.Callee.value (Go.Operand.func 12), args := #[Go.Operand.tmp 102, Go.Operand.tmp 103], argTypes := #[31, 22] }, type := 0, pos := "law.go:176", after := #[{ on := 0, ground := Go.Ground.data }, { on := 1, ground := Go.Ground.data }], guard := none }] false)) Go.Code.skip))))))) (Exit.then J Q') ⟨#[y0, y1, y2, y3, y4, y5, y6, y7, y8, y9, .pointer (some ⟨B, 0, none⟩), .pointer (some ⟨K, 0, none⟩), y12, .pointer (some ⟨O, 0, none⟩), y14, y15, y16, y17, y18, y19, y20, y21, y22, y23, y24, y25, y26, y27, y28, y29, y30, y31, y32, y33, y34, y35, y36, y37, y38, y39, y40, y41, y42, y43, y44, y45, y46, y47, y48, y49, y50, y51, y52, y53, y54, y55, y56, y57, y58, y59, y60, y61, y62, y63, y64, y65, y66, y67, y68, y69, y70, y71, y72, y73, y74, .int .i64 k, y76, y77, y78, y79, y80, y81, y82, y83, y84, y85, y86, y87, y88, y89, y90, y91, y92, y93, y94, y95, y96, y97, y98, y99, y100, y101, y102, y103, y104, y105, y106, y107, y108, y109, y110, y111, y112, y113, y114, y115, y116, y117, y118, y119, y120, y121, y122, y123, y124, y125, y126, y127, y128, y129, y130, y131, y132, y133, y134, y135, y136, y137, y138, y139], []⟩ wc := by
 have HK := hid_intro hK
 clear hK
 dsimp only
 obtain ⟨cs, L, ys, p, ps, hp⟩ := HP
 have HP := hid_intro hp
 have HNO : Hid (¬ Bk B s q O) := fun hb => by have := (hp.bl O hb).2.1; omega
 clear hp
 cases k1 : (k == 1) with
 | true =>
  go_wp2_with fail
  refine (HP.out.pin oa ha2 ht).mono ?_
  rintro en w2 ⟨rfl, h2⟩
  have H2 := hid_intro h2
  clear h2
  go_wp2_with fail
  refine HK.out _ _ _ _ _ _ _ _ _ _ _ _ _ _ _ _ _ _ _ _ _ _ _ _ _ _ _ _ _ _ _ _ ?_
  obtain ⟨cs, L, ys, p, ps, h2⟩ := H2.out
  exact ⟨cs, L, ys, p, ps, h2.wide (by omega) (by omega)⟩
 | false =>
 cases k2 : (k == 2) with
 | true =>
  go_wp2_with fail
  refine (HP.out.unpin oa ha2 ht).mono ?_
  rintro en w2 ⟨⟨bb, rfl⟩, h2⟩
  have H2 := hid_intro h2
  clear h2
  go_wp2_with fail
  refine HK.out _ _ _ _ _ _ _ _ _ _ _ _ _ _ _ _ _ _ _ _ _ _ _ _ _ _ _ _ _ _ _ _ ?_
  obtain ⟨cs, L, ys, p, ps, h2⟩ := H2.out
  exact ⟨cs, L, ys, p, ps, h2.wide (by omega) (by omega)⟩
 | false =>
 cases k5 : (k == 5) with
 | true =>
  go_upto_region 19 with fail
  go_cut [14, 15] from 90 to 101 (fun s14 _ wx => ∃ (nu : Nat) (Z : List Int) (p' : Po), Pb w0 wx K base cs L ys B s q p' ps m t ∧ wx.ownsRow wc.heap.size 3 1 s14 nu (Z.map (Value.int .i64)) ∧ nu ≤ 50000)
  case first =>
   go_region_held3 (fun w' => w'.cell? ⟨O, 1, none⟩ = some (.int .i64 oa) ∧ w'.cell? ⟨O, 2, none⟩ = some (.int .i64 ob) ∧ w'.cell? ⟨O, 3, none⟩ = some (.slice ao n oc)) (first | exact ⟨c1, c2, c3⟩ | exact T10.out | exact T11.out | go_keep)
    (first
     | (go_at_call 7; refine (refInts_any ao n oc g _ (HG.out.keptN ((Qt.refl wc).drew.grown none)) hgn (by omega)).mono ?_; rintro en w10 ⟨⟨v10, rfl, ho10⟩, hg10, hs10⟩; have HG10 := hid_intro (grown_trans ((Qt.refl wc).drew.grown none) hg10); have T10 := hid_intro (show w10.cell? ⟨O, 1, none⟩ = some (.int .i64 oa) ∧ w10.cell? ⟨O, 2, none⟩ = some (.int .i64 ob) ∧ w10.cell? ⟨O, 3, none⟩ = some (.slice ao n oc) from ⟨HG10.out.cell c1 (by simp), HG10.out.cell c2 (by simp), HG10.out.cell c3 (by simp)⟩); obtain ⟨ga, gcp, eg10, gnt10, gc110, gc210, -, gb10⟩ := owns_ints ho10; clear ho10 hg10 hs10; subst eg10; have HN10 := hid_intro gnt10; have HB10 := hid_intro gb10; clear gnt10 gb10)
     | (go_at_call 11; refine ((HP.out.keptN HG10.out).commit oa ga n gcp g ob HN10.out (fun ad e h0 hb => by have h1 := HB10.out ad e; have h2 := HP.out.pl.low _ hb; have h3 : wc.drew.heap.size = wc.heap.size := rfl; omega) hgn HW.out (by omega) ha1 hb2).mono ?_; rintro en w11 ⟨u11, e11, nu, Z, p', rfl, hp11, ho11, hnu, hf11⟩; have HP11 := hid_intro hp11; have HO11 := hid_intro (own_base ho11 HG10.out.size); have T11 : Hid (w11.cell? ⟨O, 1, none⟩ = some (.int .i64 oa) ∧ w11.cell? ⟨O, 2, none⟩ = some (.int .i64 ob) ∧ w11.cell? ⟨O, 3, none⟩ = some (.slice ao n oc)) := ⟨hf11.cell T10.out.1 HNO.out, hf11.cell T10.out.2.1 HNO.out, hf11.cell T10.out.2.2 HNO.out⟩; clear hp11 ho11 hf11))
   all_goals
    clear T10 T11
    go_wp2_with fail
    go_meet
    case rel => exact ⟨nu, Z, p', HP11.out, HO11.out, hnu⟩
  case rest =>
   obtain ⟨nu, Z, p', hp2, ho2, hnu⟩ := hcut
   have HP2 := hid_intro hp2
   have HO2 := hid_intro ho2
   clear hp2 ho2
   go_wp2_with fail
   refine (HP.out.ints HP2.out HO2.out hnu hm).mono ?_
   rintro en w2 ⟨rfl, h2⟩
   have H2 := hid_intro h2
   clear h2
   go_wp2_with fail
   refine HK.out _ _ _ _ _ _ _ _ _ _ _ _ _ _ _ _ _ _ _ _ _ _ _ _ _ _ _ _ _ _ _ _ ?_
   obtain ⟨cs, L, ys, p, ps, h2⟩ := H2.out
   exact ⟨cs, L, ys, p, ps, h2.wide (by omega) (by omega)⟩
 | false =>
 go_wp2_with fail
 refine HK.out _ _ _ _ _ _ _ _ _ _ _ _ _ _ _ _ _ _ _ _ _ _ _ _ _ _ _ _ _ _ _ _ ?_
 exact ⟨cs, L, ys, p, ps, HP.out.wide (by omega) (by omega)⟩
end Go.Proofs.YtcfmkpgfeodhaaaGreatDoor
