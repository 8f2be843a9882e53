import Derived.Test.YtlfhonlifgpnhaaBase
namespace Go.Proofs.Ytlfhonlifgpnhaa
open Go.RowKit

set_option maxHeartbeats 1000000 in
set_option maxRecDepth 100000 in
/-- coppiceref1.Put. -/
theorem refPut_any (ao : Option Addr) (n cap : Nat) (zs : List Int) (x d : Nat) (w : World) (hb : Byt w ao n cap zs) (hn : n ≤ 1099511627776) (_hx : x < 18446744073709551616) (hd : d ≤ 8) :
    Calls Try.prog 48 #[.slice ao n cap, .int .u64 x, .int .i64 d] w fun e w' => ∃ ao' cap', e = .returned (.slice ao' (n + d) cap') ∧ Byt w' ao' (n + d) cap' (zs ++ lb d x) ∧ w.grownBy w' none := by
  go_enter Try.func48, Try.ntmps48
  go_wp2_with fail
  refine (refBytes_any ao n cap zs _ hb (by omega)).mono ?_
  rintro en w0 ⟨rfl, hown0, hg0, hs0⟩
  clear hb
  go_wp2
  go_loopw [7, 8] (fun out si wr => ∃ (k : Nat), k ≤ d ∧ si = .int .i64 k ∧ wr.ownsRow w.heap.size 5 1 out (n + k) ((zs ++ lb k x).map (Value.int .u8)) ∧ w.grownBy wr none) (fun _ si _ => d - (intOf si).toNat)
  case atStart => exact ⟨0, by omega, rfl, by simpa [lb] using hown0, hg0⟩
  case round =>
    obtain ⟨k, hk, rfl, hown, hg⟩ := hrel
    by_cases hlt : k < d
    · go_wp2_with (at_builtin; refine wpList_append_byt rfl _ _ rfl w.heap.size _ (n + k) (zs ++ lb k x) rfl (hown.alloc _) (some ⟨wr.heap.size, 0, none⟩) 1 1 [(x : Int) / 2 ^ (8 * k) % 256] rfl (Byt.lit wr 5 _ [(x : Int) / 2 ^ (8 * k) % 256] 1 rfl rfl) (by omega) (by have := hg.size; simp; omega) ?_)
      intro v' w1 h1 h2
      have hg2 := grown_own hg hown (Nat.le_refl _) h2
      have hown2 : w1.ownsRow w.heap.size 5 1 v' (n + (k + 1)) ((zs ++ lb (k + 1) x).map (Value.int .u8)) := by
        rw [lb_snoc, List.map_append, List.map_append, ← Nat.add_assoc, ← shift_byte]
        simpa using h1
      clear h1 h2 hown
      go_wp2
      go_roundw
      case rel => exact ⟨k + 1, by omega, by go_num, hown2, hg2⟩
      case measure => simp [intOf]; omega
    · have hkd : k = d := by omega
      subst hkd
      obtain ⟨ao', cap', hv, hB⟩ := owns_any hown
      subst hv
      have HB : Hid (Byt wr ao' (n + k) cap' (zs ++ lb k x)) := hB
      have HG : Hid (w.grownBy wr none) := hg
      clear hB hown hg
      go_wp2
      go_ret
      exact ⟨_, _, rfl, HB.out, HG.out⟩

set_option maxHeartbeats 1000000 in
set_option maxRecDepth 100000 in
/-- coppiceref1.PutV. -/
theorem refPutV_any (ao : Option Addr) (n cap : Nat) (zs : List Int) (x : Nat) (w : World) (hb : Byt w ao n cap zs) (hn : n ≤ 1099511627776) (hx : x < 18446744073709551616) :
    Calls Try.prog 49 #[.slice ao n cap, .int .u64 x] w fun e w' => ∃ ao' cap', e = .returned (.slice ao' (n + (vform x).length) cap') ∧ Byt w' ao' (n + (vform x).length) cap' (zs ++ vform x) ∧ w.grownBy w' none := by
  have HL : Hid (zs.length = n) := hb.len
  have hvl := vform_le x
  go_enter Try.func49, Try.ntmps49
  go_wp2_with fail
  refine (refBytes_any ao n cap zs _ hb (by omega)).mono ?_
  rintro en w0 ⟨rfl, hown0, hg0, hs0⟩
  clear hb
  go_wp2
  go_loopw [5, 1] (fun out sx wr => ∃ (f y : Nat) (pre : List Int), 1 ≤ f ∧ f ≤ 10 ∧ y < 2 * 128 ^ (f - 1) ∧ sx = .int .u64 y ∧ y < 18446744073709551616 ∧ pre ++ lf f y = zs ++ vform x ∧
      wr.ownsRow w.heap.size 5 1 out pre.length (pre.map (Value.int .u8)) ∧ w.grownBy wr none) (fun _ sx _ => (intOf sx).toNat)
  case atStart => exact ⟨10, x, zs, by omega, by omega, by simp; omega, rfl, hx, rfl, by rw [HL.out]; exact hown0, hg0⟩
  case round =>
    obtain ⟨f, y, pre, hf1, hf2, hy, rfl, hy64, hpre, hown, hg⟩ := hrel
    have HP : Hid (pre ++ lf f y = zs ++ vform x) := hpre
    have hpl : pre.length ≤ n + 10 := by have := congrArg List.length hpre; simp at this; have := HL.out; omega
    have HY : Hid (y < 2 * 128 ^ (f - 1)) := hy
    clear hpre hy
    by_cases hlt : y < 128
    · go_wp2_with (at_builtin; refine wpList_append_byt rfl _ _ rfl w.heap.size _ pre.length pre rfl (hown.alloc _) (some ⟨wr.heap.size, 0, none⟩) 1 1 [(y : Int)] rfl (Byt.lit wr 5 _ [(y : Int)] 1 rfl rfl) (by omega) (by have := hg.size; simp; omega) ?_)
      intro v' w1 h1 h2
      have hg2 := grown_own hg hown (Nat.le_refl _) h2
      have hfin : pre ++ [(y : Int)] = zs ++ vform x := by rw [← HP.out]; obtain ⟨f', rfl⟩ : ∃ f', f = f' + 1 := ⟨f - 1, by omega⟩; rw [lf_small f' y hlt]
      have hl1 : pre.length + 1 = n + (vform x).length := by have := congrArg List.length hfin; simp at this; have := HL.out; omega
      have h3 : w1.ownsRow w.heap.size 5 1 v' (n + (vform x).length) ((zs ++ vform x).map (Value.int .u8)) := by rw [← hfin, ← hl1]; simpa using h1
      obtain ⟨ao', cap', hv, hB⟩ := owns_any h3
      subst hv
      have HB : Hid (Byt w1 ao' (n + (vform x).length) cap' (zs ++ vform x)) := hB
      have HG : Hid (w.grownBy w1 none) := hg2
      clear hB hown hg h1 h2 h3 hfin hl1 hg2
      go_wp2
      go_ret
      exact ⟨_, _, rfl, HB.out, HG.out⟩
    · go_wp2_with (at_builtin; refine wpList_append_byt rfl _ _ rfl w.heap.size _ pre.length pre rfl (hown.alloc _) (some ⟨wr.heap.size, 0, none⟩) 1 1 [(y : Int) % 128 + 128] rfl (Byt.lit wr 5 _ [(y : Int) % 128 + 128] 1 rfl rfl) (by omega) (by have := hg.size; simp; omega) ?_)
      intro v' w1 h1 h2
      have hg2 := grown_own hg hown (Nat.le_refl _) h2
      obtain ⟨f', rfl⟩ : ∃ f', f = f' + 1 := ⟨f - 1, by omega⟩
      have hy := HY.out
      have hp := HP.out
      rw [lf_big f' y hlt] at hp
      have hf' : 1 ≤ f' := by
        rcases Nat.eq_zero_or_pos f' with h | h
        · subst h; simp at hy; omega
        · exact h
      have hy2 : y / 128 < 2 * 128 ^ (f' - 1) := by
        rw [Nat.add_sub_cancel, show f' = (f' - 1) + 1 by omega, Nat.pow_succ] at hy
        omega
      have hp2 : (pre ++ [(y : Int) % 128 + 128]) ++ lf f' (y / 128) = zs ++ vform x := by rw [← hp]; simp
      have HP2 : Hid ((pre ++ [(y : Int) % 128 + 128]) ++ lf f' (y / 128) = zs ++ vform x) := hp2
      have HY2 : Hid (y / 128 < 2 * 128 ^ (f' - 1)) := hy2
      have H1 : Hid (w1.ownsRow w.heap.size 5 1 v' (pre ++ [(y : Int) % 128 + 128]).length ((pre ++ [(y : Int) % 128 + 128]).map (Value.int .u8))) := by
        show w1.ownsRow _ _ _ _ _ _
        simpa using h1
      clear hp hp2 hy hy2 HP HY h1 h2 hown
      go_wp2
      go_roundw
      case rel => exact ⟨f', y / 128, pre ++ [(y : Int) % 128 + 128], hf', by omega, HY2.out, by go_num, by omega, HP2.out, H1.out, hg2⟩
      case measure => simp [intOf]; omega

set_option maxHeartbeats 1000000 in
set_option maxRecDepth 100000 in
/-- coppiceref1.VLen. -/
theorem refVLen_any (x : Nat) (w : World) (hx : x < 18446744073709551616) :
    Calls Try.prog 30 #[.int .u64 x] w fun e w' => e = .returned (.int .i64 ((vform x).length : Nat)) ∧ w' = w := by
  have hvl := vform_le x
  go_enter Try.func30, Try.ntmps30
  go_wp2
  go_loopw [0, 3] (fun sx sn wr => ∃ (f y c : Nat), 1 ≤ f ∧ y < 2 * 128 ^ (f - 1) ∧ sx = .int .u64 y ∧ y < 18446744073709551616 ∧ sn = .int .i64 c ∧ c + (lf f y).length = (vform x).length + 1 ∧ wr = w) (fun sx _ _ => (intOf sx).toNat)
  case atStart => exact ⟨10, x, 1, by omega, by simp; omega, rfl, hx, rfl, Nat.add_comm _ _, rfl⟩
  case round =>
    obtain ⟨f, y, c, hf1, hy, rfl, hy64, rfl, hc, rfl⟩ := hrel
    obtain ⟨f', rfl⟩ : ∃ f', f = f' + 1 := ⟨f - 1, by omega⟩
    have HC : Hid (c + (lf (f' + 1) y).length = (vform x).length + 1) := hc
    have hcb : c ≤ 11 := by omega
    have HY : Hid (y < 2 * 128 ^ (f' + 1 - 1)) := hy
    clear hc hy
    by_cases hlt : y < 128
    · have hfin : c = (vform x).length := by have := HC.out; rw [lf_small f' y hlt] at this; simp at this; omega
      have HF : Hid (c = (vform x).length) := hfin
      clear hfin
      go_wp2
      go_ret
      rw [← HF.out]
      exact ⟨rfl, rfl⟩
    · have h1 := HC.out
      have hy := HY.out
      rw [lf_big f' y hlt, List.length_cons] at h1
      have hf' : 1 ≤ f' := by
        rcases Nat.eq_zero_or_pos f' with h | h
        · subst h; simp at hy; omega
        · exact h
      have hy2 : y / 128 < 2 * 128 ^ (f' - 1) := by
        rw [Nat.add_sub_cancel, show f' = (f' - 1) + 1 by omega, Nat.pow_succ] at hy
        omega
      have HC2 : Hid ((c + 1) + (lf f' (y / 128)).length = (vform x).length + 1) := by show _ = _; omega
      have HY2 : Hid (y / 128 < 2 * 128 ^ (f' - 1)) := hy2
      clear h1 hy hy2 HC HY
      go_wp2
      go_roundw
      case rel => exact ⟨f', y / 128, c + 1, hf', HY2.out, by go_num, by omega, by go_num, HC2.out, trivial⟩
      case measure => simp [intOf]; omega

end Go.Proofs.Ytlfhonlifgpnhaa
