import Derived.Test.YtcfmkpgfeodhaaaGreatDoorQ8
import Derived.Test.YtcfmkpgfeodhaaaGreatDoorQ12
namespace Go.Proofs.YtcfmkpgfeodhaaaGreatDoor
open Go.RowKit
theorem info_intC : (Tryz.prog.info? 3).map (fun i => (i.zero, i.size, i.bytes)) = some (some (.int .i64 0), 1, 8) := by kernel_rfl
set_option maxHeartbeats 1000000 in
set_option maxRecDepth 100000 in
theorem refInts_own (a : Option Addr) (n cap : Nat) (K : List Int) (w : World) (hl : Nt w a K) (hn : K.length = n) (hm : n ≤ 100000) :
  Calls Tryz.prog 7 #[.slice a n cap] w fun en w' => (∃ v, en = .returned v ∧ w'.ownsRow w.heap.size 3 1 v n (K.map (Value.int .i64))) ∧ w.grownBy w' none ∧ w.heap.size < w'.heap.size ∧ (n = 0 → Blk w' 3 w.heap.size) := by
 obtain ⟨i1, hi1, hy0, hy1, hy2⟩ := info_parts info_intC
 have HL := hid_intro hl
 clear hl
 go_enter Tryz.func7, Tryz.ntmps7
 go_wp2_with (at_make; refine wpList_make_own _ rfl _ _ 22 rfl w.heap.size 3 i1 (.int .i64 0) 1 Tryz.underlying22 hi1 hy0 hy1 _ _ _ n rfl rfl rfl ?b2 ?b3 (Nat.le_refl _) ?_)
 case b2 => rw [hy2]; omega
 case b3 => unfold maxLen; omega
 intro w0 hown0 hg0
 have hs0 : w.heap.size < w0.heap.size := (hown0.lt w.heap.size rfl).2
 have O0 := hid_intro hown0
 have HB0 := hid_intro (blk_own hown0 w.heap.size rfl)
 have G0 := hid_intro hg0
 clear hown0 hg0
 go_wp2
 go_loopw [3, 4] (fun sl si wr => ∃ i : Nat, i ≤ n ∧ si = .int .i64 i ∧ wr.ownsRow w.heap.size 3 1 sl i ((K.map (Value.int .i64)).take i) ∧ w.grownBy wr none ∧ w.heap.size < wr.heap.size ∧ (i = 0 → Blk wr 3 w.heap.size)) (fun _ si _ => n - (intOf si).toNat)
 case atStart => exact ⟨0, Nat.zero_le _, rfl, O0.out, G0.out, hs0, fun _ => HB0.out⟩
 case round =>
  obtain ⟨i, hi', rfl, hown, hg, hs, hbl⟩ := hrel
  have HBL := hid_intro hbl
  clear hbl HB0
  have HO := hid_intro hown
  have HG := hid_intro hg
  clear hown hg O0 G0
  by_cases hlt : i < n
  ·obtain ⟨b1, off, rfl, q2⟩ := HL.out.row i (by omega)
   have c0 := HG.out.cell q2 (by simp)
   have HTK : Hid ((K.map (Value.int .i64)).take (i + 1) = (K.map (Value.int .i64)).take i ++ [.int .i64 (K.getD i 0)]) := by
    show _ = _
    rw [List.take_add_one, List.getElem?_map, List.getElem?_eq_getElem (show i < K.length by omega)]
    simp [List.getD, List.getElem?_eq_getElem (show i < K.length by omega)]
   clear q2
   generalize K.getD i 0 = no at *
   go_wp2_with (at_builtin; refine wpList_append_own _ rfl _ _ 22 rfl w.heap.size 3 i1 (.int .i64 0) 1 8 Tryz.underlying22 hi1 hy0 hy1 hy2 rfl (by decide) _ i ((K.map (Value.int .i64)).take i) rfl (HO.out.alloc _) ⟨wr.heap.size, 0, none⟩ 1 1 [.int .i64 no] rfl rfl (cell_one_new _ _ _) (by intro u hu; simp at hu; subst hu; rfl) (by unfold maxLen; omega) (by omega) (by have := HG.out.size; simp; omega) ?_)
   intro v' w10 ho hg10 _
   have HO1 := hid_intro ho
   have HG1 := hid_intro (grown_appC HG.out HO.out (Nat.le_refl _) hg10)
   have hs1 : w.heap.size < w10.heap.size := by have := hg10.size; simp at this; omega
   clear ho hg10 HO HG c0
   go_wp2
   go_roundw
   case rel => exact ⟨i + 1, by omega, by go_num, by rw [HTK.out]; exact HO1.out, HG1.out, hs1, fun e => by omega⟩
   case measure => simp [intOf]; omega
  ·have hin : i = n := by omega
   subst hin
   have e : (K.map (Value.int .i64)).take i = K.map (Value.int .i64) := List.take_of_length_le (by rw [List.length_map]; omega)
   rw [e] at HO
   go_wp2
   go_ret
   exact ⟨⟨_, rfl, HO.out⟩, HG.out, hs, HBL.out⟩
end Go.Proofs.YtcfmkpgfeodhaaaGreatDoor
