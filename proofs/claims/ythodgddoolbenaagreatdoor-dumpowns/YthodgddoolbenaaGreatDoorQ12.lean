import Derived.Test.YthodgddoolbenaaGreatDoorQ2
import Derived.Test.YthodgddoolbenaaGreatDoorQ11
import Derived.Lib.SliceRun
namespace Go.Proofs.YthodgddoolbenaaGreatDoor
open Go.RowKit
set_option maxHeartbeats 400000 in
set_option maxRecDepth 100000 in
theorem bytesCompare_any (ao bo : Option Addr) (n m c d : Nat) (za zb : List Int) (w : World) (ha : Byt w ao n c za) (hb : Byt w bo m d zb) (ba : Bt za) (bb : Bt zb) :
  Calls Tryz.prog 148 #[.slice ao n c, .slice bo m d] w fun en w' => en = .returned (.int .i64 (cmpZ za zb)) ∧ w' = w := by
 have hr := run_compareByt (P := Tryz.prog) ha hb ba bb
 clear ha hb
 go_enter Tryz.func148, Tryz.ntmps148
 go_wp2
 rw [run_callFunc_extern Tryz.func160 (by kernel_rfl) (by kernel_rfl) (by kernel_rfl) (e := Extern.BytealgCompare.compare) (by kernel_rfl), hr]
 simp only [Result.andThen]
 rw [Oper.upon_value]
 go_wp2
 go_ret
 exact ⟨rfl, rfl⟩
set_option maxHeartbeats 400000 in
set_option maxRecDepth 100000 in
theorem compare_any (ao bo : Option Addr) (n m c d : Nat) (za zb : List Int) (w : World) (ha : Byt w ao n c za) (hb : Byt w bo m d zb) (ba : Bt za) (bb : Bt zb) :
  Calls Tryz.prog 105 #[.slice ao n c, .slice bo m d] w fun en w' => en = .returned (.int .i64 (cmpZ za zb)) ∧ w' = w := by
 have HA := hid_intro ha
 have HB := hid_intro hb
 clear ha hb
 go_enter Tryz.func105, Tryz.ntmps105
 go_wp2_with fail
 refine (bytesCompare_any ao bo n m c d za zb w HA.out HB.out ba bb).mono ?_
 rintro en w' ⟨rfl, rfl⟩
 go_wp2
 go_ret
 exact ⟨rfl, rfl⟩
end Go.Proofs.YthodgddoolbenaaGreatDoor
