import Derived.Test.YthodgddoolbenaaGreatDoorQ19
import Derived.Lib.LaidU8
import Derived.Lib.LaidTab
import Derived.ProofKit
import Derived.LaidMore
import Derived.OpenShut
import Derived.Stop.Joined
import Derived.Test.YthodgddoolbenaaGreatDoorRows
namespace Go.Proofs.YthodgddoolbenaaGreatDoor
open Go.RowKit
theorem below_ofD {w w' : World} (h : w.grownBy w' none) : Below w.heap.size w w' := ⟨h.os, h.tape, h.output, h.size, fun k hk => h.block k hk (by simp)⟩
theorem door_met (os : Os) (args : Array Value) : laidMetH Tryz.prog [("math/bits.deBruijn32tab", Rows.laid_math_bits_deBruijn32tab), ("math/bits.deBruijn64tab", Rows.laid_math_bits_deBruijn64tab), ("internal/strconv.uint64pow10", Rows.laid_internal_strconv_uint64pow10)] ((World.doorLaid Tryz.prog 400 os).forCall (fun _ _ => 0) ⟨#[], args, []⟩).memory :=
 laidMetH_of_parts3 (fuel := 8) (laidMet_of_run' 8 (by kernel_rfl) (by kernel_rfl)) (by kernel_rfl) (by kernel_rfl)
theorem pow_data : (Rows.laid_internal_strconv_uint64pow10 : DataW Unit) = Lib.tabData .u64 Lib.pow10Tab := by kernel_rfl
theorem of_laidD {W : World} (hL : laidMetH Tryz.prog [("math/bits.deBruijn32tab", Rows.laid_math_bits_deBruijn32tab), ("math/bits.deBruijn64tab", Rows.laid_math_bits_deBruijn64tab), ("internal/strconv.uint64pow10", Rows.laid_internal_strconv_uint64pow10)] W) : Tzd W := by
 have h : laidMet Tryz.prog [("math/bits.deBruijn32tab", Rows.laid_math_bits_deBruijn32tab), ("math/bits.deBruijn64tab", Rows.laid_math_bits_deBruijn64tab), ("internal/strconv.uint64pow10", Rows.laid_internal_strconv_uint64pow10)] W := hL
 have hr := Lib.laidMet.reads h (n := "internal/strconv.uint64pow10") (d := Rows.laid_internal_strconv_uint64pow10) (by simp)
 rw [pow_data] at hr
 obtain ⟨g, t, cs, fuel, p, h1, h2, h3, h4⟩ := hr
 obtain rfl := Option.some.inj (tzd_named.symm.trans h1)
 have ht : (Tryz.prog.globals[1]?).map (·.type) = some 172 := by kernel_rfl
 obtain rfl := Option.some.inj (ht.symm.trans h2)
 unfold Tzd Lib.TabIs
 rw [h3]
 rw [← Lib.cells_of_tab (n := 20) (e := 163) Tryz.underlying172 Tryz.underlying163 (by kernel_rfl) (by kernel_rfl) h4]
end Go.Proofs.YthodgddoolbenaaGreatDoor
