import Derived.Test.YtnfelndfpmnkmaaGreatDoorQ1
import Derived.Test.YtnfelndfpmnkmaaGreatDoorRows
namespace Go.Proofs.YtnfelndfpmnkmaaGreatDoor
open Go.RowKit
theorem info_u8 : (Tryz.prog.info? 5).map (fun i => (i.zero, i.size, i.bytes)) = some (some (.int .u8 0), 1, 1) := by kernel_rfl
set_option maxHeartbeats 400000 in
theorem copy_any (ao : Option Addr) (n cap : Nat) (zs : List Int) (room : Nat) (w : World) (hb : Byt w ao n cap zs) (hr : room ≤ 16) (hn : n ≤ 140737488351232) :
  Calls Tryz.prog 65 #[.slice ao n cap, .int .i64 room] w fun e w' =>
   e = .returned (.slice (some ⟨w.heap.size, 0, none⟩) n (n + room)) ∧
   w'.ownsRow w.heap.size 5 1 (.slice (some ⟨w.heap.size, 0, none⟩) n (n + room)) n (zs.map (Value.int .u8)) ∧ w.grownBy w' none ∧ w.heap.size < w'.heap.size := by
 obtain ⟨i0, hi, hz0, hz1, hz2⟩ := info_parts info_u8
 have HB : Hid (Byt w ao n cap zs) := hb
 clear hb
 go_enter Tryz.func65, Tryz.ntmps65
 go_wp2_with (at_make; refine wpList_make_own _ rfl _ _ 26 rfl w.heap.size 5 i0 (.int .u8 0) 1 Tryz.underlying26 hi hz0 hz1 _ _ _ (n + room) rfl rfl (by omega) ?b2 ?b3 (Nat.le_refl _) ?_)
 case b2 => rw [hz2]; omega
 case b3 => unfold maxLen; omega
 intro w0 hown0 hgrow0
 have hb0 := HB.out.keptN hgrow0
 go_wp2_with (at_builtin; refine wpList_append_fits_any _ rfl _ _ 26 rfl w.heap.size 5 i0 1 Tryz.underlying26 hi hz1 w.heap.size 0 (n + room) _ rfl hown0 _ n _ (zs.map (Value.int .u8)) rfl (by rw [List.length_map, hb0.len, Nat.mul_one]) hb0.nil hb0.cells (ints_oneCell _ _) (by omega) ?_)
 intro w1 hown1 hgrow1
 have hg : w.grownBy w1 none := ⟨hgrow1.os.trans hgrow0.os, hgrow1.tape.trans hgrow0.tape, hgrow1.output.trans hgrow0.output, Nat.le_trans hgrow0.size hgrow1.size,
  fun k hk _ => (hgrow1.block k (by have := hgrow0.size; omega) (by intro e; have := Option.some.inj e; omega)).trans (hgrow0.block k hk (by simp))⟩
 have hs : w.heap.size < w1.heap.size := (hown1.lt w.heap.size rfl).2
 go_wp2
 go_ret
 exact ⟨rfl, hown1, hg, hs⟩
end Go.Proofs.YtnfelndfpmnkmaaGreatDoor
