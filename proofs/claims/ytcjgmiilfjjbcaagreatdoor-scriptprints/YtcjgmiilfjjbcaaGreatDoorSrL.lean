import Derived.Test.YtcjgmiilfjjbcaaGreatDoorRows
import Derived.Test.YtcjgmiilfjjbcaaGreatDoorSrK
import Derived.Lib.LaidU8
import Derived.Lib.LaidTab
import Derived.ProofKit
import Derived.LaidMore
import Derived.OpenShut
import Derived.Stop.Joined
import Derived.Stop.LaidErr
import Derived.Lay
namespace Go.Proofs.YtcjgmiilfjjbcaaGreatDoor
open Go.RowKit
theorem below_ofD {w w' : World} (h : w.grownBy w' none) : Below w.heap.size w w' := ⟨h.os, h.tape, h.output, h.size, fun k hk => h.block k hk (by simp)⟩
theorem pow_data : (Rows.laid_internal_strconv_uint64pow10 : DataW Unit) = Lib.tabData .u64 Lib.pow10Tab := by kernel_rfl
theorem steps_data : (Rows.laid_coppice_script_steps : DataW Unit) = .agg (stT.map fun p => .agg [.lit (.string p.1), .lit (.string p.2)]) := by kernel_rfl
theorem steps_named : Tryz.prog.globalNamed "coppice/script.steps" = some 0 := by kernel_rfl
theorem es_star : "*" ++ "errors.errorString" = "*errors.errorString" := by decide
theorem es_row (u : TypeId) (h : Tryz.prog.typeName? 3 u = some "*errors.errorString") : u = 171 :=
  typeName_ptr_named (nm := "errors.errorString") (by rw [es_star]; kernel_rfl) (by kernel_rfl) (by decide) u (by rw [es_star]; exact h)
abbrev laid23 : List (String × DataW Unit) := [("math/bits.deBruijn32tab", Rows.laid_math_bits_deBruijn32tab), ("math/bits.deBruijn64tab", Rows.laid_math_bits_deBruijn64tab), ("internal/strconv.uint64pow10", Rows.laid_internal_strconv_uint64pow10), ("unicode/utf8.acceptRanges", Rows.laid_unicode_utf8_acceptRanges), ("strconv.ErrRange", Rows.laid_strconv_ErrRange), ("strconv.ErrSyntax", Rows.laid_strconv_ErrSyntax), ("coppice/script.steps", Rows.laid_coppice_script_steps), ("unicode/utf8.first", Rows.laid_unicode_utf8_first)]
theorem steps_of {W : World} {cs : Array Value} {fuel : Nat} {pl : List MemPlace} (hv : W.var? Tryz.prog "coppice/script.steps" = some cs) (hd : DataW.trod (fun _ : TypeId × Value => ()) Tryz.prog W 0 (fun _ => true) false fuel 73 cs.toList = some (.agg (stT.map fun p => .agg [.lit (.string p.1), .lit (.string p.2)]), pl)) : Sts W := by
  obtain ⟨xs, m, _, ex, _, hl, hel⟩ := DataW.trod_array Tryz.underlying73 hd
  have c2 : Tryz.prog.cellsOf 72 = 2 := by kernel_rfl
  have c1 : Tryz.prog.cellsOf 9 = 1 := by kernel_rfl
  have e3 : (xs.map (·.1)) = stT.map fun p => (DataW.agg [.lit (.string p.1), .lit (.string p.2)] : DataW Unit) := (DataW.agg.inj (Prod.mk.inj ex).1).symm
  intro i p hp
  have hi : i < 23 := by have := (List.getElem?_eq_some_iff.1 hp).1; rw [stT_len] at this; exact this
  have hE := hel i hi
  rw [c2] at hE
  rw [List.getElem?_eq_getElem (by omega : i < xs.length)] at hE
  obtain ⟨ys, m2, _, ey, _, hyl, hyel⟩ := DataW.trod_struct Tryz.underlying72 hE
  have e4 : (xs.map (·.1))[i]? = some (DataW.agg [.lit (.string p.1), .lit (.string p.2)]) := by rw [e3, List.getElem?_map, hp]; rfl
  rw [List.getElem?_map, List.getElem?_eq_getElem (by omega : i < xs.length)] at e4
  simp only [Option.map_some, Option.some.injEq] at e4
  rw [ey] at e4
  have e5 : ys.map (·.1) = [.lit (.string p.1), .lit (.string p.2)] := DataW.agg.inj e4
  have hy2 : ys.length = 2 := hyl
  have h0 : DataW.trod (fun _ : TypeId × Value => ()) Tryz.prog W 0 (fun _ => true) false m2 9 ((((cs.toList.drop (i * 2)).take 2).drop 0).take (Tryz.prog.cellsOf 9)) = ys[0]? := hyel 0 _ rfl
  have h1 : DataW.trod (fun _ : TypeId × Value => ()) Tryz.prog W 0 (fun _ => true) false m2 9 ((((cs.toList.drop (i * 2)).take 2).drop 1).take (Tryz.prog.cellsOf 9)) = ys[1]? := hyel 1 _ rfl
  rw [c1] at h0 h1
  rw [List.getElem?_eq_getElem (by omega : 0 < ys.length)] at h0
  rw [List.getElem?_eq_getElem (by omega : 1 < ys.length)] at h1
  obtain ⟨s0, q0, r0, _⟩ := DataW.trod_string Tryz.underlying9 h0
  obtain ⟨s1, q1, r1, _⟩ := DataW.trod_string Tryz.underlying9 h1
  have f0 : (ys.map (·.1))[0]? = some (.lit (.string p.1)) := by rw [e5]; rfl
  have f1 : (ys.map (·.1))[1]? = some (.lit (.string p.2)) := by rw [e5]; rfl
  rw [List.getElem?_map, List.getElem?_eq_getElem (by omega : 0 < ys.length), r0] at f0
  rw [List.getElem?_map, List.getElem?_eq_getElem (by omega : 1 < ys.length), r1] at f1
  simp only [Option.map_some, Option.some.injEq, DataW.lit.injEq, Lit.string.injEq] at f0 f1
  have t0 : s0 = tstr p.1 := by rw [← f0]; exact (tstr_mk s0).symm
  have t1 : s1 = tstr p.2 := by rw [← f1]; exact (tstr_mk s1).symm
  rw [World.var?_cell steps_named hv (i * 2), World.var?_cell steps_named hv (i * 2 + 1), ← t0, ← t1]
  have k0 : cs.toList[i * 2]? = some (.string s0) := by
    have hh : (((cs.toList.drop (i * 2)).take 2).drop 0).take 1 = [.string s0] := q0
    have : ((((cs.toList.drop (i * 2)).take 2).drop 0).take 1)[0]? = some (.string s0) := by rw [hh]; rfl
    simpa using this
  have k1 : cs.toList[i * 2 + 1]? = some (.string s1) := by
    have hh : (((cs.toList.drop (i * 2)).take 2).drop 1).take 1 = [.string s1] := q1
    have : ((((cs.toList.drop (i * 2)).take 2).drop 1).take 1)[0]? = some (.string s1) := by rw [hh]; rfl
    simpa using this
  exact ⟨by simpa using k0, by simpa using k1⟩
theorem of_laid23 {W : World} (hL : laidMetH Tryz.prog laid23 W) : Lv W := by
  have h : laidMet Tryz.prog laid23 W := by rw [MakeChecks.laidMetH_plain _ _ _ (by kernel_rfl)] at hL; exact hL
  refine ⟨?_, ?_, ?_, ?_⟩
  · have hr := Lib.laidMet.reads h (n := "internal/strconv.uint64pow10") (d := Rows.laid_internal_strconv_uint64pow10) (by simp [laid23])
    rw [pow_data] at hr
    obtain ⟨g, t, cs, fuel, p, h1, h2, h3, h4⟩ := hr
    obtain rfl := Option.some.inj (tzd_named.symm.trans h1)
    have ht : (Tryz.prog.globals[2]?).map (·.type) = some 140 := by kernel_rfl
    obtain rfl := Option.some.inj (ht.symm.trans h2)
    unfold Tzd Lib.TabIs
    rw [h3]
    rw [← Lib.cells_of_tab (n := 20) (e := 121) Tryz.underlying140 Tryz.underlying121 (by kernel_rfl) (by kernel_rfl) h4]
  · obtain ⟨a0, s0, hv0, _⟩ := laid_sentinel h.tail.tail.tail.tail.tail syn_named (by kernel_rfl) Tryz.underlying77 es_row Tryz.underlying171 Tryz.underlying173 rfl rfl Tryz.underlying9 (by kernel_rfl) (by kernel_rfl)
    exact ⟨_, _, hv0⟩
  · obtain ⟨a0, s0, hv0, _⟩ := laid_sentinel h.tail.tail.tail.tail rng_named (by kernel_rfl) Tryz.underlying77 es_row Tryz.underlying171 Tryz.underlying173 rfl rfl Tryz.underlying9 (by kernel_rfl) (by kernel_rfl)
    exact ⟨_, _, hv0⟩
  · have hr := Lib.laidMet.reads h (n := "coppice/script.steps") (d := Rows.laid_coppice_script_steps) (by simp [laid23])
    rw [steps_data] at hr
    obtain ⟨g, t, cs, fuel, p, h1, h2, h3, h4⟩ := hr
    obtain rfl := Option.some.inj (steps_named.symm.trans h1)
    have ht : (Tryz.prog.globals[0]?).map (·.type) = some 73 := by kernel_rfl
    obtain rfl := Option.some.inj (ht.symm.trans h2)
    exact steps_of h3 h4
set_option maxRecDepth 100000 in
theorem door_met23 (os : Os) (args : Array Value) : laidMetH Tryz.prog laid23 ((World.laidAll Tryz.prog os laid23).forCall (fun _ _ => 0) ⟨#[], args, []⟩).memory := by
  rw [MakeChecks.laidMetH_plain _ _ _ (by kernel_rfl)]
  exact laidMet_laidAll _ (by kernel_rfl) (by kernel_rfl)
end Go.Proofs.YtcjgmiilfjjbcaaGreatDoor
