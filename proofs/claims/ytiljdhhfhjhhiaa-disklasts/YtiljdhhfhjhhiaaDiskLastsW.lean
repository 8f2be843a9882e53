import Derived.Test.YtiljdhhfhjhhiaaDl7
import Derived.Deep.DeepCutAuto
import Derived.Deep.CutRange
import Derived.Deep.CutBlock
import Derived.Deep.QuietTactic
namespace Go.Proofs.Ytiljdhhfhjhhiaa
open Go.RowKit Go.MuLone

theorem info_u8' : (Try.prog.info? 5).map (fun i => (i.zero, i.size, i.bytes)) = some (some (.int .u8 0), 1, 1) := by kernel_rfl

set_option maxHeartbeats 16000000 in
set_option maxRecDepth 8000 in
theorem lasts_body (c0 : Int) (c : Nat) (hc : 2 ≤ c ∧ c ≤ 40) (hc0 : (2 ≤ c0 ∧ c0 ≤ 40 ∧ c0 = c) ∨ ((c0 < 2 ∨ 40 < c0) ∧ c = 9)) (ao : Option Addr) (n cap : Nat) (bo : Option Addr) (m bcap : Nat) (w : World) (hp : Pus w ao n) (hb : Bls w bo m) :
    Calls Try.prog 5 #[.int .i64 c0, .slice ao n cap, .slice bo m bcap] w fun e w' => e = .returned (.bool true) ∧ w.grownBy w' none := by
  obtain ⟨i0, hi, hz0, hz1, hz2⟩ := info_parts info_u8
  go_enter Try.func5, Try.ntmps5
  go_wp2_with fail
  refine (first12_any w).mono ?_
  rintro e w1 ⟨rfl, hg1⟩
  have G1 := hid_intro hg1
  clear hg1
  go_upto_region 2 with fail
  go_cut [25] (fun s25 wx => s25 = .bool (decide (c0 < 2 ∨ 40 < c0)) ∧ wx = w1)
  case first =>
    by_cases h1 : c0 < 2
    · go_wp2_with fail
      go_meet
      exact ⟨by simp [h1], rfl⟩
    · have h2 : 2 ≤ c0 := by omega
      go_wp2_with fail
      go_meet
      exact ⟨by simp only [Value.bool.injEq, decide_eq_decide]; omega, rfl⟩
  case rest =>
    obtain ⟨rfl, rfl⟩ := hcut
    go_upto_if 25 with fail
    go_cut [0] (fun s0 wx => s0 = .int .i64 (c : Int) ∧ wx = wc)
    case first =>
      rcases hc0 with ⟨h1, h2, h3⟩ | ⟨h1, h2⟩
      · have h4 : ¬ (c0 < 2 ∨ 40 < c0) := by omega
        go_wp2_with fail
        go_meet
        exact ⟨by rw [h3], rfl⟩
      · subst h2
        go_wp2_with fail
        go_meet
        exact ⟨rfl, rfl⟩
    case rest =>
      obtain ⟨rfl, rfl⟩ := hcut
      go_wp2_with fail
      refine (dw_new w _ c G1.out (by omega) (by omega)).mono ?_
      rintro e w2 ⟨B, rfl, hz2⟩
      have L2 : Hid (Lw w w2 B c (.slice none 0 0) [] ⟨c, 0, false, 0, 0, [], []⟩ 0 0) := by
        have hz2' := hz2.sub (O' := fun k => (Value.slice none 0 0).ownBlock = some k) (fun k h => by cases h)
        exact ⟨hz2', ⟨rfl, .inl ⟨rfl, rfl⟩⟩, rfl, rfl, rfl, rfl, Bt.nil, Nat.le_refl _, Nat.le_refl _⟩
      clear hz2 G1
      go_upto_block 0 with fail
      go_cut [9] (fun s9 wx => ∃ bk s, Lw w wx B c s9 bk s 120 2400)
      case first =>
        rename_i J K' hJ hM
        refine lastsB0 hc hp hb L2 ?_
        intro _ _ _ _ _ _ _ _ _ _ _ _ _ _ _ _ _ _ _ _ _ _ _ _ _ _ _ _ _ _ _ _ _ _ _ _ _ _ _ _ _ _ _ _ _ _ _ _ _ _ _ _ _ _ _ _ _ _ _ _ _ _ _ _ _ _ _ _ _ _ _ _ _ _ _ _ _ _ _ _ _ _ _ _ _ _ _ _ _ _ _ _ _ _ _ _ _ _ _ _ _ _ _ _ _ _ _ _ _ _ _ _ _ _ _ _ _ _ _ _ _ _ _ _ _ _ _ _ _ _ _ _ _ _ _ _ _ _ _ _ _ _ _ _ _ _ _ _ _ _ _ _ _ _ _ _ _ _ _ _ _ _ _ _ _ _ _ _ wx hrl
        refine hM _ _ ?_
        go_meet
        exact hrl
      case rest =>
        obtain ⟨bk, s, hL⟩ := hcut
        have HLE := hid_intro hL
        have hBkE := HLE.out.le
        obtain ⟨ov, ocap, ev⟩ : ∃ ao cap, u9 = .slice ao bk.length cap := owns_slice HLE.out.own
        subst ev
        go_wp2_with fail
        refine (dw_sync HLE.out.dw HLE.out.off (by rw [HLE.out.left]; decide) (by have := HLE.out.done; omega) (by rw [HLE.out.left]; decide)).mono ?_
        rintro e w6 ⟨rfl, hz6, hs6⟩
        have L6 := hid_intro (HLE.out.sync hz6 hs6)
        clear hz6 hs6 HLE
        go_wp2_with fail
        refine (dw_durable L6.out.dw).mono ?_
        rintro e w8 ⟨g8, l8, c8, rfl, hl8, ho8, hz8, hs8⟩
        have L8 := hid_intro (L6.out.asked hz8 hs8)
        have e2 : s.sync.L = bk.map fp := L6.out.view
        rw [e2] at ho8 hl8
        rw [List.length_map] at hl8
        have hl9 : (l8 : Int) = (bk.length : Int) * 4096 := by rw [hl8]; omega
        have CB : Hid (∀ j, j < l8 → w8.cell? ⟨g8, j, none⟩ = some (.int .u8 (bk.getD (j / 4096) 0))) := fun j hj => by
          have hlen := ho8.1
          rw [List.length_map] at hlen
          rw [ho8.cellAt j (by omega), List.getElem?_map, List.getElem?_eq_getElem (by omega), ← flat_fp bk j (by omega)]
          simp [List.getD, List.getElem?_eq_getElem (show j < ((bk.map fp).flatten).length by omega)]
        clear hz8 hs8 ho8 e2 L6
        go_wp2_with (go_at_call 13; refine (num_12 _ _ (by omega)).mono ?_; rintro e w7 ⟨rfl, rfl⟩)
        go_loopw [18] (fun sj wx => ∃ j, j ≤ l8 ∧ sj = .int .i64 (j : Nat) ∧ Qt w7 wx) (fun sj _ => l8 - (intOf sj).toNat)
        case atStart => exact ⟨0, Nat.zero_le _, rfl, Qt.refl _⟩
        case round =>
          obtain ⟨j, hj, rfl, hqt⟩ := hrel
          have hgq := hqt.grown none
          by_cases hjl : j < l8
          · have hjl' : (j : Int) < (l8 : Int) := by omega
            have k1 := hgq.cell (CB.out j hjl) (by simp)
            obtain ⟨gb, gcap, hv, -, -, hcell, -⟩ := L8.out.cell (by omega)
            simp only [Value.slice.injEq] at hv
            obtain ⟨rfl, _, rfl⟩ := hv
            have k2 := hgq.cell (hcell (j / 4096) (by omega)) (by simp)
            have d1 : (j : Int).tdiv 4096 = ((j / 4096 : Nat) : Int) := by rw [Int.tdiv_eq_ediv_of_nonneg (by omega)]; omega
            have d2 : ((j / 4096 : Nat) : Int) < (bk.length : Int) := by omega
            clear hcell
            revert k1 k2
            generalize bk.getD (j / 4096) 0 = y
            intro k1 k2
            go_wp2_with fail
            go_region
            all_goals
              go_wp2
              go_roundw
              case rel => exact ⟨j + 1, by omega, by go_num, hqt.drew⟩
              case measure => simp [intOf]; omega
          · have hjl' : ¬ (j : Int) < (l8 : Int) := by omega
            go_wp2
            go_ret
            exact ⟨rfl, grown_trans L8.out.dw.grown hgq⟩
end Go.Proofs.Ytiljdhhfhjhhiaa
