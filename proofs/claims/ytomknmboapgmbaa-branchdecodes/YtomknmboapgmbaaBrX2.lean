import Derived.Test.YtomknmboapgmbaaBrZ
namespace Go.Proofs.Ytomknmboapgmbaa
open Go.RowKit

set_option maxHeartbeats 1000000 in
set_option maxRecDepth 100000 in
theorem refPut_own (ao : Option Addr) (n cap : Nat) (zs : List Int) (x d : Nat) (w : World) (hb : Byt w ao n cap zs) (hn : n ≤ 1099511627776) (_hx : x < 18446744073709551616) (hd : d ≤ 8) :
    Calls Try.prog 62 #[.slice ao n cap, .int .u64 x, .int .i64 d] w fun e w' => ∃ ao' cap', e = .returned (.slice ao' (n + d) cap') ∧ w'.ownsRow w.heap.size 5 1 (.slice ao' (n + d) cap') (n + d) ((zs ++ lb d x).map (Value.int .u8)) ∧ w.grownBy w' none ∧ w.heap.size ≤ w'.heap.size := by
  go_enter Try.func62, Try.ntmps62
  go_wp2_with fail
  refine (refBytes_any ao n cap zs _ hb (by omega)).mono ?_
  rintro en w0 ⟨rfl, hown0, hg0, hs0⟩
  clear hb
  go_wp2
  go_loopw [7, 8] (fun out si wr => ∃ (k : Nat), k ≤ d ∧ si = .int .i64 k ∧ wr.ownsRow w.heap.size 5 1 out (n + k) ((zs ++ lb k x).map (Value.int .u8)) ∧ w.grownBy wr none) (fun _ si _ => d - (intOf si).toNat)
  case atStart => exact ⟨0, by omega, rfl, by simpa [lb] using hown0, hg0⟩
  case round =>
    obtain ⟨k, hk, rfl, hown, hg⟩ := hrel
    by_cases hlt : k < d
    · go_wp2_with (at_builtin; refine wpList_append_byt rfl _ _ rfl w.heap.size _ (n + k) (zs ++ lb k x) rfl (hown.alloc _) (some ⟨wr.heap.size, 0, none⟩) 1 1 [(x : Int) / 2 ^ (8 * k) % 256] rfl (Byt.lit wr 5 _ [(x : Int) / 2 ^ (8 * k) % 256] 1 rfl rfl) (by omega) (by have := hg.size; simp; omega) ?_)
      intro v' w1 h1 h2
      have hg2 := grown_own hg hown (Nat.le_refl _) h2
      have hown2 : w1.ownsRow w.heap.size 5 1 v' (n + (k + 1)) ((zs ++ lb (k + 1) x).map (Value.int .u8)) := by
        rw [lb_snoc, List.map_append, List.map_append, ← Nat.add_assoc, ← shift_byte]
        simpa using h1
      clear h1 h2 hown
      go_wp2
      go_roundw
      case rel => exact ⟨k + 1, by omega, by go_num, hown2, hg2⟩
      case measure => simp [intOf]; omega
    · have hkd : k = d := by omega
      subst hkd
      obtain ⟨ao', cap', hv, hB⟩ := owns_any hown
      subst hv
      have HB := hid_intro hown
      have HG : Hid (w.grownBy wr none) := hg
      clear hB hown hg
      go_wp2
      go_ret
      exact ⟨_, _, rfl, HB.out, HG.out, HG.out.size⟩


set_option maxHeartbeats 1000000 in
set_option maxRecDepth 100000 in
theorem refPutV_own (ao : Option Addr) (n cap : Nat) (zs : List Int) (x : Nat) (w : World) (hb : Byt w ao n cap zs) (hn : n ≤ 1099511627776) (hx : x < 18446744073709551616) :
    Calls Try.prog 63 #[.slice ao n cap, .int .u64 x] w fun e w' => ∃ ao' cap', e = .returned (.slice ao' (n + (vform x).length) cap') ∧ w'.ownsRow w.heap.size 5 1 (.slice ao' (n + (vform x).length) cap') (n + (vform x).length) ((zs ++ vform x).map (Value.int .u8)) ∧ w.grownBy w' none ∧ w.heap.size ≤ w'.heap.size := by
  have HL : Hid (zs.length = n) := hb.len
  have hvl := vform_le x
  go_enter Try.func63, Try.ntmps63
  go_wp2_with fail
  refine (refBytes_any ao n cap zs _ hb (by omega)).mono ?_
  rintro en w0 ⟨rfl, hown0, hg0, hs0⟩
  clear hb
  go_wp2
  go_loopw [5, 1] (fun out sx wr => ∃ (f y : Nat) (pre : List Int), 1 ≤ f ∧ f ≤ 10 ∧ y < 2 * 128 ^ (f - 1) ∧ sx = .int .u64 y ∧ y < 18446744073709551616 ∧ pre ++ lf f y = zs ++ vform x ∧
      wr.ownsRow w.heap.size 5 1 out pre.length (pre.map (Value.int .u8)) ∧ w.grownBy wr none) (fun _ sx _ => (intOf sx).toNat)
  case atStart => exact ⟨10, x, zs, by omega, by omega, by simp; omega, rfl, hx, rfl, by rw [HL.out]; exact hown0, hg0⟩
  case round =>
    obtain ⟨f, y, pre, hf1, hf2, hy, rfl, hy64, hpre, hown, hg⟩ := hrel
    have HP : Hid (pre ++ lf f y = zs ++ vform x) := hpre
    have hpl : pre.length ≤ n + 10 := by have := congrArg List.length hpre; simp at this; have := HL.out; omega
    have HY : Hid (y < 2 * 128 ^ (f - 1)) := hy
    clear hpre hy
    by_cases hlt : y < 128
    · go_wp2_with (at_builtin; refine wpList_append_byt rfl _ _ rfl w.heap.size _ pre.length pre rfl (hown.alloc _) (some ⟨wr.heap.size, 0, none⟩) 1 1 [(y : Int)] rfl (Byt.lit wr 5 _ [(y : Int)] 1 rfl rfl) (by omega) (by have := hg.size; simp; omega) ?_)
      intro v' w1 h1 h2
      have hg2 := grown_own hg hown (Nat.le_refl _) h2
      have hfin : pre ++ [(y : Int)] = zs ++ vform x := by rw [← HP.out]; obtain ⟨f', rfl⟩ : ∃ f', f = f' + 1 := ⟨f - 1, by omega⟩; rw [lf_small f' y hlt]
      have hl1 : pre.length + 1 = n + (vform x).length := by have := congrArg List.length hfin; simp at this; have := HL.out; omega
      have h3 : w1.ownsRow w.heap.size 5 1 v' (n + (vform x).length) ((zs ++ vform x).map (Value.int .u8)) := by rw [← hfin, ← hl1]; simpa using h1
      obtain ⟨ao', cap', hv, hB⟩ := owns_any h3
      subst hv
      have HB := hid_intro h3
      have HG : Hid (w.grownBy w1 none) := hg2
      clear hB hown hg h1 h2 h3 hfin hl1 hg2
      go_wp2
      go_ret
      exact ⟨_, _, rfl, HB.out, HG.out, HG.out.size⟩
    · go_wp2_with (at_builtin; refine wpList_append_byt rfl _ _ rfl w.heap.size _ pre.length pre rfl (hown.alloc _) (some ⟨wr.heap.size, 0, none⟩) 1 1 [(y : Int) % 128 + 128] rfl (Byt.lit wr 5 _ [(y : Int) % 128 + 128] 1 rfl rfl) (by omega) (by have := hg.size; simp; omega) ?_)
      intro v' w1 h1 h2
      have hg2 := grown_own hg hown (Nat.le_refl _) h2
      obtain ⟨f', rfl⟩ : ∃ f', f = f' + 1 := ⟨f - 1, by omega⟩
      have hy := HY.out
      have hp := HP.out
      rw [lf_big f' y hlt] at hp
      have hf' : 1 ≤ f' := by
        rcases Nat.eq_zero_or_pos f' with h | h
        · subst h; simp at hy; omega
        · exact h
      have hy2 : y / 128 < 2 * 128 ^ (f' - 1) := by
        rw [Nat.add_sub_cancel, show f' = (f' - 1) + 1 by omega, Nat.pow_succ] at hy
        omega
      have hp2 : (pre ++ [(y : Int) % 128 + 128]) ++ lf f' (y / 128) = zs ++ vform x := by rw [← hp]; simp
      have HP2 : Hid ((pre ++ [(y : Int) % 128 + 128]) ++ lf f' (y / 128) = zs ++ vform x) := hp2
      have HY2 : Hid (y / 128 < 2 * 128 ^ (f' - 1)) := hy2
      have H1 : Hid (w1.ownsRow w.heap.size 5 1 v' (pre ++ [(y : Int) % 128 + 128]).length ((pre ++ [(y : Int) % 128 + 128]).map (Value.int .u8))) := by
        show w1.ownsRow _ _ _ _ _ _
        simpa using h1
      clear hp hp2 hy hy2 HP HY h1 h2 hown
      go_wp2
      go_roundw
      case rel => exact ⟨f', y / 128, pre ++ [(y : Int) % 128 + 128], hf', by omega, HY2.out, by go_num, by omega, HP2.out, H1.out, hg2⟩
      case measure => simp [intOf]; omega



set_option maxHeartbeats 1000000 in
set_option maxRecDepth 100000 in
theorem refKid_any (no ks : Int) (w : World) : Calls Try.prog 39 #[.agg #[.int .i64 no, .int .i64 ks]] w fun en w' => en = .returned (.bool (!(wk ⟨no, ks⟩))) ∧ w.grownBy w' none := by
  have HW : Hid (wk ⟨no, ks⟩ = (decide (no < 2) || decide (524287 ≤ no) || decide (ks < 1) || decide (4294967295 < ks))) := rfl
  have G1 := hid_intro (World.grownBy_alloc w (.cells #[.int .i64 no, .int .i64 ks] 37) none)
  by_cases h1 : (2 : Int) ≤ no
  · by_cases h2 : no ≤ 524286
    · by_cases h3 : (1 : Int) ≤ ks
      · by_cases h4 : ks ≤ 4294967295
        · have HR : Hid (wk ⟨no, ks⟩ = false) := by show _ = _; rw [HW.out]; simp; omega
          go_enter Try.func39, Try.ntmps39
          go_wp2
          go_ret
          exact ⟨by rw [HR.out]; first | rfl | (simp [h4]), G1.out⟩
        · have HR : Hid (wk ⟨no, ks⟩ = true) := by show _ = _; rw [HW.out]; simp; omega
          have HD : Hid (decide (ks ≤ 4294967295) = false) := decide_eq_false h4
          go_enter Try.func39, Try.ntmps39
          go_wp2
          go_ret
          exact ⟨by rw [HR.out]; show Ending.returned (Value.bool _) = _; first | rfl | (rw [HD.out]; rfl), G1.out⟩
      · have HR : Hid (wk ⟨no, ks⟩ = true) := by show _ = _; rw [HW.out]; simp; omega
        go_enter Try.func39, Try.ntmps39
        go_wp2
        go_ret
        exact ⟨by rw [HR.out]; rfl, G1.out⟩
    · have HR : Hid (wk ⟨no, ks⟩ = true) := by show _ = _; rw [HW.out]; simp; omega
      go_enter Try.func39, Try.ntmps39
      go_wp2
      go_ret
      exact ⟨by rw [HR.out]; rfl, G1.out⟩
  · have HR : Hid (wk ⟨no, ks⟩ = true) := by show _ = _; rw [HW.out]; simp; omega
    go_enter Try.func39, Try.ntmps39
    go_wp2
    go_ret
    exact ⟨by rw [HR.out]; rfl, G1.out⟩

set_option maxHeartbeats 1000000 in
set_option maxRecDepth 100000 in
theorem refTwo_any (ao : Option Addr) (n cap : Nat) (zs : List Int) (k : Kd) (no ks : Int) (w : World) (hb : Byt w ao n cap zs) (hn : n ≤ 100000) (hk : wk k = false) (h1 : k.no = no) (h2 : k.keys = ks) :
    Calls Try.prog 64 #[.slice ao n cap, .agg #[.int .i64 no, .int .i64 ks]] w fun en w' => ∃ base ao' cap', en = .returned (.slice ao' (n + 8) cap') ∧ w'.ownsRow base 5 1 (.slice ao' (n + 8) cap') (n + 8) ((zs ++ kb k).map (Value.int .u8)) ∧ w.grownBy w' none ∧ w.heap.size ≤ base ∧ base ≤ w'.heap.size := by
  have hp := wk_parts hk
  obtain ⟨a, ha⟩ : ∃ a : Nat, no = (a : Int) := ⟨no.toNat, by omega⟩
  obtain ⟨b, hb'⟩ : ∃ b : Nat, ks = (b : Int) := ⟨ks.toNat, by omega⟩
  subst ha hb'
  have ha2 : a < 4294967296 := by omega
  have hb2 : b < 4294967296 := by omega
  have HKB : Hid (kb k = lb 4 a ++ lb 4 b) := by show _ = _; unfold kb; rw [h1, h2]; rfl
  have ga := World.grownBy_alloc w (.cells #[.int .i64 (a : Int), .int .i64 (b : Int)] 37) none
  have k1 : Hid ((w.alloc (.cells #[.int .i64 (a : Int), .int .i64 (b : Int)] 37)).cell? ⟨w.heap.size, 1, none⟩ = some (.int .i64 (b : Int))) := by show _ = _; rw [cell_of_row _ w.heap.size 1 _ _ (0, 0) (heap_alloc_new w _)]; rfl
  have HG := hid_intro ga
  have HB := hid_intro (hb.keptN ga)
  clear hb hk h1 h2 hp ga
  go_enter Try.func64, Try.ntmps64
  go_wp2_with fail
  have K1 := k1.out
  clear k1
  generalize w.alloc (.cells #[.int .i64 (a : Int), .int .i64 (b : Int)] 37) = w1 at *
  refine (refPut_own ao n cap zs a 4 _ HB.out (by omega) (by omega) (by omega)).mono ?_
  rintro en w2 ⟨ao2, cap2, rfl, ho2, hg2, hs2⟩
  have B2 : Hid (Byt w2 ao2 (n + 4) cap2 (zs ++ lb 4 a)) := by
    obtain ⟨ao9, c9, e9, hB⟩ := owns_any ho2
    injection e9 with x1 _ x3
    subst x1 x3
    exact hB
  have c1 := hg2.cell K1 (by simp)
  have G2 := hid_intro (grown_trans HG.out hg2)
  clear ho2 hg2 hs2 K1 HG HB
  go_wp2_with fail
  refine (refPut_own ao2 (n + 4) cap2 (zs ++ lb 4 a) b 4 _ B2.out (by omega) (by omega) (by omega)).mono ?_
  rintro en w3 ⟨ao3, cap3, rfl, ho3, hg3, hs3⟩
  have O3 : Hid (w3.ownsRow w2.heap.size 5 1 (.slice ao3 (n + 8) cap3) (n + 8) ((zs ++ kb k).map (Value.int .u8))) := by
    show World.ownsRow _ _ _ _ _ _ _
    rw [HKB.out, ← List.append_assoc]
    exact ho3
  have G3 := hid_intro (grown_trans G2.out hg3)
  have HS := hid_intro G2.out.size
  have HS3 := hid_intro hs3
  clear ho3 hg3 hs3 B2 c1
  go_wp2
  go_ret
  exact ⟨w2.heap.size, ao3, cap3, rfl, O3.out, G3.out, HS.out, HS3.out⟩
end Go.Proofs.Ytomknmboapgmbaa
