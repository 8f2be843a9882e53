import Derived.Test.YtjipibblmccjhaaGreatDoorBase
import Derived.Test.YtjipibblmccjhaaGreatDoorKeysM
import Derived.Lib.SliceRun
namespace Go.Proofs.YtjipibblmccjhaaGreatDoor
open Go.RowKit

set_option maxHeartbeats 400000 in
set_option maxRecDepth 100000 in
theorem bytesCompare_any (ao bo : Option Addr) (n m c d : Nat) (za zb : List Int) (w : World) (ha : Byt w ao n c za) (hb : Byt w bo m d zb) (ba : Bt za) (bb : Bt zb) :
    Calls Tryz.prog 21 #[.slice ao n c, .slice bo m d] w fun en w' => en = .returned (.int .i64 (cmpZ za zb)) ∧ w' = w := by
  have hr := run_compareByt (P := Tryz.prog) ha hb ba bb
  clear ha hb
  go_enter Tryz.func21, Tryz.ntmps21
  go_wp2
  rw [run_callFunc_extern Tryz.func28 (by kernel_rfl) (by kernel_rfl) (by kernel_rfl) (e := Extern.BytealgCompare.compare) (by kernel_rfl), hr]
  simp only [Result.andThen]
  rw [Oper.upon_value]
  go_wp2
  go_ret
  exact ⟨rfl, rfl⟩

set_option maxHeartbeats 400000 in
set_option maxRecDepth 100000 in
theorem compare_any (ao bo : Option Addr) (n m c d : Nat) (za zb : List Int) (w : World) (ha : Byt w ao n c za) (hb : Byt w bo m d zb) (ba : Bt za) (bb : Bt zb) :
    Calls Tryz.prog 9 #[.slice ao n c, .slice bo m d] w fun en w' => en = .returned (.int .i64 (cmpZ za zb)) ∧ w' = w := by
  have HA := hid_intro ha
  have HB := hid_intro hb
  clear ha hb
  go_enter Tryz.func9, Tryz.ntmps9
  go_wp2_with fail
  refine (bytesCompare_any ao bo n m c d za zb w HA.out HB.out ba bb).mono ?_
  rintro en w' ⟨rfl, rfl⟩
  go_wp2
  go_ret
  exact ⟨rfl, rfl⟩

set_option maxHeartbeats 2000000 in
set_option maxRecDepth 100000 in
/-- The reference's comparison. -/
theorem refCompare_any (ao bo : Option Addr) (n m c d : Nat) (za zb : List Int) (w : World) (ha : Byt w ao n c za) (hb : Byt w bo m d zb) (hn : n ≤ 9223372036854775807) (hm : m ≤ 9223372036854775807) :
    Calls Tryz.prog 13 #[.slice ao n c, .slice bo m d] w fun en w' => en = .returned (.int .i64 (cmpZ za zb)) ∧ Qt w w' := by
  have hl1 := ha.len
  have hl2 := hb.len
  have HA := hid_intro ha
  have HB := hid_intro hb
  clear ha hb
  go_enter Tryz.func13, Tryz.ntmps13
  go_wp2
  go_loopw [5] (fun si wr => ∃ i : Nat, i ≤ n ∧ i ≤ m ∧ si = .int .i64 i ∧ cmpZ (za.drop i) (zb.drop i) = cmpZ za zb ∧ Qt w wr) (fun si _ => n - (intOf si).toNat)
  case atStart => exact ⟨0, Nat.zero_le _, Nat.zero_le _, rfl, rfl, Qt.refl _⟩
  case round =>
    obtain ⟨i, hi, hj, rfl, he, hq⟩ := hrel
    have HQ := hid_intro hq
    have HE := hid_intro he
    clear hq he
    by_cases hlt : i < n ∧ i < m
    · obtain ⟨h1, h2⟩ := hlt
      obtain ⟨b1, o1, rfl, _, k1⟩ := HA.out.at (by omega)
      obtain ⟨b2, o2, rfl, _, k2⟩ := HB.out.at (by omega)
      have c1 := (HQ.out.cell _).trans (k1 i h1)
      have c2 := (HQ.out.cell _).trans (k2 i h2)
      have e1 : Hid (za.getD i 0 < zb.getD i 0 → cmpZ (za.drop i) (zb.drop i) = -1) := fun h => cmp_lt (by omega) (by omega) h
      have e2 : Hid (zb.getD i 0 < za.getD i 0 → cmpZ (za.drop i) (zb.drop i) = 1) := fun h => cmp_gt (by omega) (by omega) h
      have e3 : Hid (¬ za.getD i 0 < zb.getD i 0 → ¬ zb.getD i 0 < za.getD i 0 → cmpZ (za.drop (i + 1)) (zb.drop (i + 1)) = cmpZ (za.drop i) (zb.drop i)) := fun h k => cmp_on (by omega) (by omega) h k
      have g1 : (i : Int) < (n : Int) := by omega
      have g2 : (i : Int) < (m : Int) := by omega
      have g0 : (0 : Int) ≤ (i : Int) := by omega
      clear k1 k2
      generalize za.getD i 0 = x at *
      generalize zb.getD i 0 = y at *
      by_cases hxy : x < y
      · go_wp2
        go_quiet (fail)
        go_wp2
        go_ret
        exact ⟨congrArg (fun z => Ending.returned (Value.int IntKind.i64 z)) (show (-1 : Int) = cmpZ za zb by rw [← HE.out, e1.out hxy]), HQ.out.trans (Qt.drewN _ _)⟩
      · by_cases hyx : y < x
        · go_wp2
          go_quiet (fail)
          go_wp2
          go_quiet (fail)
          go_wp2
          go_ret
          exact ⟨congrArg (fun z => Ending.returned (Value.int IntKind.i64 z)) (show (1 : Int) = cmpZ za zb by rw [← HE.out, e2.out hyx]), (HQ.out.trans (Qt.drewN _ _)).trans (Qt.drewN _ _)⟩
        · go_wp2
          go_quiet (fail)
          go_wp2
          go_quiet (fail)
          go_wp2
          go_roundw
          case rel => exact ⟨i + 1, by omega, by omega, by go_num, (e3.out hxy hyx).trans HE.out, HQ.out.trans (Qt.drewN _ _)⟩
          case measure => simp [intOf]; omega
    · have hend := cmp_end (a := za) (b := zb) (i := i) (by omega) (by omega) (by omega)
      rw [HE.out] at hend
      have HEND := hid_intro hend
      clear hend
      have hlt' : ¬ ((i : Int) < (n : Int) ∧ (i : Int) < (m : Int)) := by omega
      rw [hl1, hl2] at HEND
      by_cases hnm : n < m
      · have : i = n := by omega
        subst this
        go_wp2
        go_ret
        exact ⟨congrArg (fun z => Ending.returned (Value.int IntKind.i64 z)) (show (-1 : Int) = cmpZ za zb by rw [HEND.out, if_pos hnm]), HQ.out⟩
      · by_cases hmn : m < n
        · have : i = m := by omega
          subst this
          go_wp2
          go_ret
          exact ⟨congrArg (fun z => Ending.returned (Value.int IntKind.i64 z)) (show (1 : Int) = cmpZ za zb by rw [HEND.out, if_neg hnm, if_pos hmn]), HQ.out⟩
        · have : i = m := by omega
          have hnm2 : n = m := by omega
          subst this
          subst hnm2
          go_wp2
          go_ret
          exact ⟨congrArg (fun z => Ending.returned (Value.int IntKind.i64 z)) (show (0 : Int) = cmpZ za zb by rw [HEND.out, if_neg hnm, if_neg hmn]), HQ.out⟩
end Go.Proofs.YtjipibblmccjhaaGreatDoor
