import Derived.Test.YtplnaehjiinaoaaApp
namespace Go.Proofs.Ytplnaehjiinaoaa
open Go.RowKit

set_option maxHeartbeats 400000 in
theorem width_word (w : World) : Calls Try.prog 36 #[] w fun e w' => e = .returned (.int .i64 2) ∧ w' = w := by
  go_enter Try.func36, Try.ntmps36
  go_wp2_with fail
  rw [wbits_u16]
  refine (len64_any _ _ (by omega) (by omega)).mono ?_
  rintro e w' ⟨rfl, rfl⟩
  rw [wlen_u16]
  go_wp2
  go_ret
  exact ⟨rfl, rfl⟩

set_option maxHeartbeats 400000 in
theorem width_long (w : World) : Calls Try.prog 37 #[] w fun e w' => e = .returned (.int .i64 8) ∧ w' = w := by
  go_enter Try.func37, Try.ntmps37
  go_wp2_with fail
  rw [wbits_u64]
  refine (len64_any _ _ (by omega) (by omega)).mono ?_
  rintro e w' ⟨rfl, rfl⟩
  rw [wlen_u64]
  go_wp2
  go_ret
  exact ⟨rfl, rfl⟩

set_option maxHeartbeats 1000000 in
set_option maxRecDepth 100000 in
theorem put_word (ao : Option Addr) (n cap : Nat) (zs : List Int) (x : Nat) (w : World) (hb : Byt w ao n cap zs) (hn : n ≤ 140737488351232) (hx : x < 65536) :
    Calls Try.prog 22 #[.slice ao n cap, .int .u16 x] w fun e w' =>
      e = .returned (.slice (some ⟨w.heap.size, 0, none⟩) (n + 2) (n + 2)) ∧
      w'.ownsRow w.heap.size 5 1 (.slice (some ⟨w.heap.size, 0, none⟩) (n + 2) (n + 2)) (n + 2) ((zs ++ lb 2 x).map (Value.int .u8)) ∧ w.grownBy w' none ∧ w.heap.size < w'.heap.size := by
  obtain ⟨i0, hi, hz0, hz1, hz2⟩ := info_parts info_u8
  go_enter Try.func22, Try.ntmps22
  go_wp2_with fail
  refine (width_word _).mono ?_
  rintro e w' ⟨rfl, rfl⟩
  go_wp2_with fail
  refine (copy_any ao n cap zs 2 _ hb (by omega) hn).mono ?_
  rintro e w0 ⟨rfl, hown0, hg0, hs0⟩
  clear hb
  go_wp2
  go_loopw [6, 13] (fun out si wr => ∃ (k : Nat), k ≤ 2 ∧ si = .int .i64 k ∧
      out = .slice (some ⟨w'.heap.size, 0, none⟩) (n + k) (n + 2) ∧
      wr.ownsRow w'.heap.size 5 1 (.slice (some ⟨w'.heap.size, 0, none⟩) (n + k) (n + 2)) (n + k) ((zs ++ lb k x).map (Value.int .u8)) ∧ w'.grownBy wr none ∧ w'.heap.size < wr.heap.size)
    (fun _ si _ => 2 - (intOf si).toNat)
  case atStart => exact ⟨0, by omega, rfl, rfl, by simpa [lb] using hown0, hg0, hs0⟩
  case round =>
    obtain ⟨k, hk, rfl, rfl, hown, hg, hs⟩ := hrel
    by_cases hlt : k < 2
    · go_wp2_with (at_builtin; refine wpList_append_fits _ rfl _ _ 22 rfl w'.heap.size 5 i0 1 Try.underlying22 hi hz1 w'.heap.size (n + k) (n + 2) _ rfl (hown.alloc _) ⟨wr.heap.size, 0, none⟩ 1 1 [.int .u8 ((x : Int) / 2 ^ (8 * k) % 256)] rfl rfl (cell_one_new _ _ _) (by intro u hu; simp at hu; subst hu; rfl) (by omega) ?_)
      intro w1 hown1 hg1
      obtain ⟨hg2, hs2⟩ := grown_step _ hg hs hg1
      clear hg1 hown
      have hown2 : w1.ownsRow w'.heap.size 5 1 (.slice (some ⟨w'.heap.size, 0, none⟩) (n + (k + 1)) (n + 2)) (n + (k + 1)) ((zs ++ lb (k + 1) x).map (Value.int .u8)) := by
        rw [lb_snoc, List.map_append, List.map_append, ← Nat.add_assoc, ← shift_byte]; exact hown1
      clear hown1
      go_wp2
      go_roundw
      case rel => exact ⟨k + 1, by omega, by go_num, rfl, hown2, hg2, hs2⟩
      case measure => simp [intOf]; omega
    · have hk2 : k = 2 := by omega
      subst hk2
      go_wp2
      go_ret
      exact ⟨rfl, hown, hg, hs⟩

set_option maxHeartbeats 1000000 in
set_option maxRecDepth 100000 in
theorem put_long (ao : Option Addr) (n cap : Nat) (zs : List Int) (x : Nat) (w : World) (hb : Byt w ao n cap zs) (hn : n ≤ 140737488351232) (_hx : x < 18446744073709551616) :
    Calls Try.prog 23 #[.slice ao n cap, .int .u64 x] w fun e w' =>
      e = .returned (.slice (some ⟨w.heap.size, 0, none⟩) (n + 8) (n + 8)) ∧
      w'.ownsRow w.heap.size 5 1 (.slice (some ⟨w.heap.size, 0, none⟩) (n + 8) (n + 8)) (n + 8) ((zs ++ lb 8 x).map (Value.int .u8)) ∧ w.grownBy w' none ∧ w.heap.size < w'.heap.size := by
  obtain ⟨i0, hi, hz0, hz1, hz2⟩ := info_parts info_u8
  go_enter Try.func23, Try.ntmps23
  go_wp2_with fail
  refine (width_long _).mono ?_
  rintro e w' ⟨rfl, rfl⟩
  go_wp2_with fail
  refine (copy_any ao n cap zs 8 _ hb (by omega) hn).mono ?_
  rintro e w0 ⟨rfl, hown0, hg0, hs0⟩
  clear hb
  go_wp2
  go_loopw [6, 13] (fun out si wr => ∃ (k : Nat), k ≤ 8 ∧ si = .int .i64 k ∧
      out = .slice (some ⟨w'.heap.size, 0, none⟩) (n + k) (n + 8) ∧
      wr.ownsRow w'.heap.size 5 1 (.slice (some ⟨w'.heap.size, 0, none⟩) (n + k) (n + 8)) (n + k) ((zs ++ lb k x).map (Value.int .u8)) ∧ w'.grownBy wr none ∧ w'.heap.size < wr.heap.size)
    (fun _ si _ => 8 - (intOf si).toNat)
  case atStart => exact ⟨0, by omega, rfl, rfl, by simpa [lb] using hown0, hg0, hs0⟩
  case round =>
    obtain ⟨k, hk, rfl, rfl, hown, hg, hs⟩ := hrel
    by_cases hlt : k < 8
    · go_wp2_with (at_builtin; refine wpList_append_fits _ rfl _ _ 22 rfl w'.heap.size 5 i0 1 Try.underlying22 hi hz1 w'.heap.size (n + k) (n + 8) _ rfl (hown.alloc _) ⟨wr.heap.size, 0, none⟩ 1 1 [.int .u8 ((x : Int) / 2 ^ (8 * k) % 256)] rfl rfl (cell_one_new _ _ _) (by intro u hu; simp at hu; subst hu; rfl) (by omega) ?_)
      intro w1 hown1 hg1
      obtain ⟨hg2, hs2⟩ := grown_step _ hg hs hg1
      clear hg1 hown
      have hown2 : w1.ownsRow w'.heap.size 5 1 (.slice (some ⟨w'.heap.size, 0, none⟩) (n + (k + 1)) (n + 8)) (n + (k + 1)) ((zs ++ lb (k + 1) x).map (Value.int .u8)) := by
        rw [lb_snoc, List.map_append, List.map_append, ← Nat.add_assoc, ← shift_byte]; exact hown1
      clear hown1
      go_wp2
      go_roundw
      case rel => exact ⟨k + 1, by omega, by go_num, rfl, hown2, hg2, hs2⟩
      case measure => simp [intOf]; omega
    · have hk2 : k = 8 := by omega
      subst hk2
      go_wp2
      go_ret
      exact ⟨rfl, hown, hg, hs⟩


set_option maxHeartbeats 1000000 in
set_option maxRecDepth 100000 in
/-- coppiceref1.Put. -/
theorem refPut_any (ao : Option Addr) (n cap : Nat) (zs : List Int) (x d : Nat) (w : World) (hb : Byt w ao n cap zs) (hn : n ≤ 1099511627776) (_hx : x < 18446744073709551616) (hd : d ≤ 8) :
    Calls Try.prog 24 #[.slice ao n cap, .int .u64 x, .int .i64 d] w fun e w' => ∃ ao' cap', e = .returned (.slice ao' (n + d) cap') ∧ Byt w' ao' (n + d) cap' (zs ++ lb d x) ∧ w.grownBy w' none := by
  go_enter Try.func24, Try.ntmps24
  go_wp2_with fail
  refine (refBytes_any ao n cap zs _ hb (by omega)).mono ?_
  rintro en w0 ⟨rfl, hown0, hg0, hs0⟩
  clear hb
  go_wp2
  go_loopw [7, 8] (fun out si wr => ∃ (k : Nat), k ≤ d ∧ si = .int .i64 k ∧ wr.ownsRow w.heap.size 5 1 out (n + k) ((zs ++ lb k x).map (Value.int .u8)) ∧ w.grownBy wr none) (fun _ si _ => d - (intOf si).toNat)
  case atStart => exact ⟨0, by omega, rfl, by simpa [lb] using hown0, hg0⟩
  case round =>
    obtain ⟨k, hk, rfl, hown, hg⟩ := hrel
    by_cases hlt : k < d
    · go_wp2_with (at_builtin; refine wpList_append_byt rfl _ _ rfl w.heap.size _ (n + k) (zs ++ lb k x) rfl (hown.alloc _) (some ⟨wr.heap.size, 0, none⟩) 1 1 [(x : Int) / 2 ^ (8 * k) % 256] rfl (Byt.lit wr 5 _ [(x : Int) / 2 ^ (8 * k) % 256] 1 rfl rfl) (by omega) (by have := hg.size; simp; omega) ?_)
      intro v' w1 h1 h2
      have hg2 := grown_own hg hown (Nat.le_refl _) h2
      have hown2 : w1.ownsRow w.heap.size 5 1 v' (n + (k + 1)) ((zs ++ lb (k + 1) x).map (Value.int .u8)) := by
        rw [lb_snoc, List.map_append, List.map_append, ← Nat.add_assoc, ← shift_byte]
        simpa using h1
      clear h1 h2 hown
      go_wp2
      go_roundw
      case rel => exact ⟨k + 1, by omega, by go_num, hown2, hg2⟩
      case measure => simp [intOf]; omega
    · have hkd : k = d := by omega
      subst hkd
      obtain ⟨ao', cap', hv, hB⟩ := owns_any hown
      subst hv
      have HB : Hid (Byt wr ao' (n + k) cap' (zs ++ lb k x)) := hB
      have HG : Hid (w.grownBy wr none) := hg
      clear hB hown hg
      go_wp2
      go_ret
      exact ⟨_, _, rfl, HB.out, HG.out⟩

set_option maxHeartbeats 1000000 in
set_option maxRecDepth 100000 in
/-- coppiceref1.PutV. -/
theorem refPutV_any (ao : Option Addr) (n cap : Nat) (zs : List Int) (x : Nat) (w : World) (hb : Byt w ao n cap zs) (hn : n ≤ 1099511627776) (hx : x < 18446744073709551616) :
    Calls Try.prog 25 #[.slice ao n cap, .int .u64 x] w fun e w' => ∃ ao' cap', e = .returned (.slice ao' (n + (vform x).length) cap') ∧ Byt w' ao' (n + (vform x).length) cap' (zs ++ vform x) ∧ w.grownBy w' none := by
  have HL : Hid (zs.length = n) := hb.len
  have hvl := vform_le x
  go_enter Try.func25, Try.ntmps25
  go_wp2_with fail
  refine (refBytes_any ao n cap zs _ hb (by omega)).mono ?_
  rintro en w0 ⟨rfl, hown0, hg0, hs0⟩
  clear hb
  go_wp2
  go_loopw [5, 1] (fun out sx wr => ∃ (f y : Nat) (pre : List Int), 1 ≤ f ∧ f ≤ 10 ∧ y < 2 * 128 ^ (f - 1) ∧ sx = .int .u64 y ∧ y < 18446744073709551616 ∧ pre ++ lf f y = zs ++ vform x ∧
      wr.ownsRow w.heap.size 5 1 out pre.length (pre.map (Value.int .u8)) ∧ w.grownBy wr none) (fun _ sx _ => (intOf sx).toNat)
  case atStart => exact ⟨10, x, zs, by omega, by omega, by simp; omega, rfl, hx, rfl, by rw [HL.out]; exact hown0, hg0⟩
  case round =>
    obtain ⟨f, y, pre, hf1, hf2, hy, rfl, hy64, hpre, hown, hg⟩ := hrel
    have HP : Hid (pre ++ lf f y = zs ++ vform x) := hpre
    have hpl : pre.length ≤ n + 10 := by have := congrArg List.length hpre; simp at this; have := HL.out; omega
    have HY : Hid (y < 2 * 128 ^ (f - 1)) := hy
    clear hpre hy
    by_cases hlt : y < 128
    · go_wp2_with (at_builtin; refine wpList_append_byt rfl _ _ rfl w.heap.size _ pre.length pre rfl (hown.alloc _) (some ⟨wr.heap.size, 0, none⟩) 1 1 [(y : Int)] rfl (Byt.lit wr 5 _ [(y : Int)] 1 rfl rfl) (by omega) (by have := hg.size; simp; omega) ?_)
      intro v' w1 h1 h2
      have hg2 := grown_own hg hown (Nat.le_refl _) h2
      have hfin : pre ++ [(y : Int)] = zs ++ vform x := by rw [← HP.out]; obtain ⟨f', rfl⟩ : ∃ f', f = f' + 1 := ⟨f - 1, by omega⟩; rw [lf_small f' y hlt]
      have hl1 : pre.length + 1 = n + (vform x).length := by have := congrArg List.length hfin; simp at this; have := HL.out; omega
      have h3 : w1.ownsRow w.heap.size 5 1 v' (n + (vform x).length) ((zs ++ vform x).map (Value.int .u8)) := by rw [← hfin, ← hl1]; simpa using h1
      obtain ⟨ao', cap', hv, hB⟩ := owns_any h3
      subst hv
      have HB : Hid (Byt w1 ao' (n + (vform x).length) cap' (zs ++ vform x)) := hB
      have HG : Hid (w.grownBy w1 none) := hg2
      clear hB hown hg h1 h2 h3 hfin hl1 hg2
      go_wp2
      go_ret
      exact ⟨_, _, rfl, HB.out, HG.out⟩
    · go_wp2_with (at_builtin; refine wpList_append_byt rfl _ _ rfl w.heap.size _ pre.length pre rfl (hown.alloc _) (some ⟨wr.heap.size, 0, none⟩) 1 1 [(y : Int) % 128 + 128] rfl (Byt.lit wr 5 _ [(y : Int) % 128 + 128] 1 rfl rfl) (by omega) (by have := hg.size; simp; omega) ?_)
      intro v' w1 h1 h2
      have hg2 := grown_own hg hown (Nat.le_refl _) h2
      obtain ⟨f', rfl⟩ : ∃ f', f = f' + 1 := ⟨f - 1, by omega⟩
      have hy := HY.out
      have hp := HP.out
      rw [lf_big f' y hlt] at hp
      have hf' : 1 ≤ f' := by
        rcases Nat.eq_zero_or_pos f' with h | h
        · subst h; simp at hy; omega
        · exact h
      have hy2 : y / 128 < 2 * 128 ^ (f' - 1) := by
        rw [Nat.add_sub_cancel, show f' = (f' - 1) + 1 by omega, Nat.pow_succ] at hy
        omega
      have hp2 : (pre ++ [(y : Int) % 128 + 128]) ++ lf f' (y / 128) = zs ++ vform x := by rw [← hp]; simp
      have HP2 : Hid ((pre ++ [(y : Int) % 128 + 128]) ++ lf f' (y / 128) = zs ++ vform x) := hp2
      have HY2 : Hid (y / 128 < 2 * 128 ^ (f' - 1)) := hy2
      have H1 : Hid (w1.ownsRow w.heap.size 5 1 v' (pre ++ [(y : Int) % 128 + 128]).length ((pre ++ [(y : Int) % 128 + 128]).map (Value.int .u8))) := by
        show w1.ownsRow _ _ _ _ _ _
        simpa using h1
      clear hp hp2 hy hy2 HP HY h1 h2 hown
      go_wp2
      go_roundw
      case rel => exact ⟨f', y / 128, pre ++ [(y : Int) % 128 + 128], hf', by omega, HY2.out, by go_num, by omega, HP2.out, H1.out, hg2⟩
      case measure => simp [intOf]; omega

set_option maxHeartbeats 1000000 in
set_option maxRecDepth 100000 in
/-- coppiceref1.VLen. -/
theorem refVLen_any (x : Nat) (w : World) (hx : x < 18446744073709551616) :
    Calls Try.prog 26 #[.int .u64 x] w fun e w' => e = .returned (.int .i64 ((vform x).length : Nat)) ∧ w' = w := by
  have hvl := vform_le x
  go_enter Try.func26, Try.ntmps26
  go_wp2
  go_loopw [0, 3] (fun sx sn wr => ∃ (f y c : Nat), 1 ≤ f ∧ y < 2 * 128 ^ (f - 1) ∧ sx = .int .u64 y ∧ y < 18446744073709551616 ∧ sn = .int .i64 c ∧ c + (lf f y).length = (vform x).length + 1 ∧ wr = w) (fun sx _ _ => (intOf sx).toNat)
  case atStart => exact ⟨10, x, 1, by omega, by simp; omega, rfl, hx, rfl, Nat.add_comm _ _, rfl⟩
  case round =>
    obtain ⟨f, y, c, hf1, hy, rfl, hy64, rfl, hc, rfl⟩ := hrel
    obtain ⟨f', rfl⟩ : ∃ f', f = f' + 1 := ⟨f - 1, by omega⟩
    have HC : Hid (c + (lf (f' + 1) y).length = (vform x).length + 1) := hc
    have hcb : c ≤ 11 := by omega
    have HY : Hid (y < 2 * 128 ^ (f' + 1 - 1)) := hy
    clear hc hy
    by_cases hlt : y < 128
    · have hfin : c = (vform x).length := by have := HC.out; rw [lf_small f' y hlt] at this; simp at this; omega
      have HF : Hid (c = (vform x).length) := hfin
      clear hfin
      go_wp2
      go_ret
      rw [← HF.out]
      exact ⟨rfl, rfl⟩
    · have h1 := HC.out
      have hy := HY.out
      rw [lf_big f' y hlt, List.length_cons] at h1
      have hf' : 1 ≤ f' := by
        rcases Nat.eq_zero_or_pos f' with h | h
        · subst h; simp at hy; omega
        · exact h
      have hy2 : y / 128 < 2 * 128 ^ (f' - 1) := by
        rw [Nat.add_sub_cancel, show f' = (f' - 1) + 1 by omega, Nat.pow_succ] at hy
        omega
      have HC2 : Hid ((c + 1) + (lf f' (y / 128)).length = (vform x).length + 1) := by show _ = _; omega
      have HY2 : Hid (y / 128 < 2 * 128 ^ (f' - 1)) := hy2
      clear h1 hy hy2 HC HY
      go_wp2
      go_roundw
      case rel => exact ⟨f', y / 128, c + 1, hf', HY2.out, by go_num, by omega, by go_num, HC2.out, trivial⟩
      case measure => simp [intOf]; omega

set_option maxHeartbeats 400000 in
/-- room: the bytes, and three marks behind them. -/
theorem room_any (ao : Option Addr) (n cap : Nat) (zs : List Int) (w : World) (hb : Byt w ao n cap zs) (hn : n ≤ 1099511627776) :
    Calls Try.prog 5 #[.slice ao n cap] w fun e w' => ∃ g cap', e = .returned (.slice (some ⟨g, 0, none⟩) (n + 3) cap') ∧ w.heap.size ≤ g ∧
      w'.ownsRow w.heap.size 5 1 (.slice (some ⟨g, 0, none⟩) (n + 3) cap') (n + 3) ((zs ++ [161, 162, 163]).map (Value.int .u8)) ∧ w.grownBy w' none := by
  go_enter Try.func5, Try.ntmps5
  go_wp2_with fail
  refine (refBytes_any ao n cap zs _ hb (by omega)).mono ?_
  rintro en w0 ⟨rfl, hown0, hg0, hs0⟩
  clear hb
  go_wp2_with (at_builtin; refine wpList_append_byt rfl _ _ rfl w.heap.size _ n zs rfl (hown0.alloc _) (some ⟨w0.heap.size, 0, none⟩) 3 3 [161, 162, 163] rfl (Byt.lit w0 5 _ [161, 162, 163] 3 rfl rfl) (by omega) (by have := hg0.size; simp; omega) ?_)
  intro v' w1 h1 h2
  have hg2 := grown_own hg0 hown0 (Nat.le_refl _) h2
  have h3 : w1.ownsRow w.heap.size 5 1 v' (n + 3) ((zs ++ [161, 162, 163]).map (Value.int .u8)) := by rw [List.map_append]; simpa using h1
  obtain ⟨g, cap', hv, hbg, _, _⟩ := owns_shape h3 (by omega)
  subst hv
  have H3 : Hid _ := h3
  have HG : Hid (w.grownBy w1 none) := hg2
  clear h1 h2 h3 hg2 hown0
  go_wp2
  go_ret
  exact ⟨_, _, rfl, hbg, H3.out, HG.out⟩

set_option maxHeartbeats 4000000 in
set_option maxRecDepth 100000 in
/-- puts: true. -/
theorem puts_any (ao : Option Addr) (n cap : Nat) (zs : List Int) (x : Nat) (w : World) (hb : Byt w ao n cap zs) (hn : n ≤ 1099511627776) (hx : x < 18446744073709551616) :
    Calls Try.prog 6 #[.slice ao n cap, .int .u64 x] w fun e w' => e = .returned (.bool true) ∧ w.grownBy w' none := by
  have B0 : Hid (Byt w ao n cap zs) := hb
  have G0 : Hid (w.grownBy w none) := World.grownBy.refl _ _
  have hvl := vform_le x
  clear hb
  go_enter Try.func6, Try.ntmps6
  go_wp2_with fail
  rw [show (x : Int) % 256 = ((x % 256 : Nat) : Int) by omega]
  refine (put_u8 ao n cap zs (x % 256) _ B0.out (by omega) (by omega)).mono ?_
  rintro en w1 ⟨rfl, hown, hg, hs⟩
  have G1 : Hid (w.grownBy w1 none) := grown_trans G0.out hg
  have B1 : Hid (Byt w1 ao n cap zs) := B0.out.keptN hg
  have Pu81 : Hid (Byt w1 (some ⟨w.heap.size, 0, none⟩) (n + 1) (n + 1) (zs ++ lb 1 x)) := by
    show Byt _ _ _ _ _
    rw [← lb_mod 1 x]; exact Byt.of_owns hown
  clear hown hg hs
  go_wp2_with fail
  first | rw [show (x : Int) % 65536 = ((x % 65536 : Nat) : Int) by omega] | rw [show IntKind.u16.wrap (x : Int) = ((x % 65536 : Nat) : Int) by rw [IntKind.wrap_u16]; omega]
  refine (put_u16 ao n cap zs (x % 65536) _ B1.out (by omega) (by omega)).mono ?_
  rintro en w2 ⟨rfl, hown, hg, hs⟩
  have G2 : Hid (w.grownBy w2 none) := grown_trans G1.out hg
  have B2 : Hid (Byt w2 ao n cap zs) := B1.out.keptN hg
  have Pu82 : Hid (Byt w2 (some ⟨w.heap.size, 0, none⟩) (n + 1) (n + 1) (zs ++ lb 1 x)) := Pu81.out.keptN hg
  have Pu162 : Hid (Byt w2 (some ⟨w1.heap.size, 0, none⟩) (n + 2) (n + 2) (zs ++ lb 2 x)) := by
    show Byt _ _ _ _ _
    rw [← lb_mod 2 x]; exact Byt.of_owns hown
  clear hown hg hs
  go_wp2_with fail
  first | rw [show (x : Int) % 4294967296 = ((x % 4294967296 : Nat) : Int) by omega] | rw [show IntKind.u32.wrap (x : Int) = ((x % 4294967296 : Nat) : Int) by rw [IntKind.wrap_u32']; omega]
  refine (put_u32 ao n cap zs (x % 4294967296) _ B2.out (by omega) (by omega)).mono ?_
  rintro en w3 ⟨rfl, hown, hg, hs⟩
  have G3 : Hid (w.grownBy w3 none) := grown_trans G2.out hg
  have B3 : Hid (Byt w3 ao n cap zs) := B2.out.keptN hg
  have Pu83 : Hid (Byt w3 (some ⟨w.heap.size, 0, none⟩) (n + 1) (n + 1) (zs ++ lb 1 x)) := Pu82.out.keptN hg
  have Pu163 : Hid (Byt w3 (some ⟨w1.heap.size, 0, none⟩) (n + 2) (n + 2) (zs ++ lb 2 x)) := Pu162.out.keptN hg
  have Pu323 : Hid (Byt w3 (some ⟨w2.heap.size, 0, none⟩) (n + 4) (n + 4) (zs ++ lb 4 x)) := by
    show Byt _ _ _ _ _
    rw [← lb_mod 4 x]; exact Byt.of_owns hown
  clear hown hg hs
  go_wp2_with fail
  refine (put_u64 ao n cap zs x _ B3.out (by omega) (by omega)).mono ?_
  rintro en w4 ⟨rfl, hown, hg, hs⟩
  have G4 : Hid (w.grownBy w4 none) := grown_trans G3.out hg
  have B4 : Hid (Byt w4 ao n cap zs) := B3.out.keptN hg
  have Pu84 : Hid (Byt w4 (some ⟨w.heap.size, 0, none⟩) (n + 1) (n + 1) (zs ++ lb 1 x)) := Pu83.out.keptN hg
  have Pu164 : Hid (Byt w4 (some ⟨w1.heap.size, 0, none⟩) (n + 2) (n + 2) (zs ++ lb 2 x)) := Pu163.out.keptN hg
  have Pu324 : Hid (Byt w4 (some ⟨w2.heap.size, 0, none⟩) (n + 4) (n + 4) (zs ++ lb 4 x)) := Pu323.out.keptN hg
  have Pu644 : Hid (Byt w4 (some ⟨w3.heap.size, 0, none⟩) (n + 8) (n + 8) (zs ++ lb 8 x)) := by
    show Byt _ _ _ _ _
    exact Byt.of_owns hown
  clear hown hg hs
  go_wp2_with fail
  first | rw [show (x : Int) % 65536 = ((x % 65536 : Nat) : Int) by omega] | rw [show IntKind.u16.wrap (x : Int) = ((x % 65536 : Nat) : Int) by rw [IntKind.wrap_u16]; omega]
  refine (put_word ao n cap zs (x % 65536) _ B4.out (by omega) (by omega)).mono ?_
  rintro en w5 ⟨rfl, hown, hg, hs⟩
  have G5 : Hid (w.grownBy w5 none) := grown_trans G4.out hg
  have B5 : Hid (Byt w5 ao n cap zs) := B4.out.keptN hg
  have Pu85 : Hid (Byt w5 (some ⟨w.heap.size, 0, none⟩) (n + 1) (n + 1) (zs ++ lb 1 x)) := Pu84.out.keptN hg
  have Pu165 : Hid (Byt w5 (some ⟨w1.heap.size, 0, none⟩) (n + 2) (n + 2) (zs ++ lb 2 x)) := Pu164.out.keptN hg
  have Pu325 : Hid (Byt w5 (some ⟨w2.heap.size, 0, none⟩) (n + 4) (n + 4) (zs ++ lb 4 x)) := Pu324.out.keptN hg
  have Pu645 : Hid (Byt w5 (some ⟨w3.heap.size, 0, none⟩) (n + 8) (n + 8) (zs ++ lb 8 x)) := Pu644.out.keptN hg
  have Pword5 : Hid (Byt w5 (some ⟨w4.heap.size, 0, none⟩) (n + 2) (n + 2) (zs ++ lb 2 x)) := by
    show Byt _ _ _ _ _
    rw [← lb_mod 2 x]; exact Byt.of_owns hown
  clear hown hg hs
  go_wp2_with fail
  refine (put_long ao n cap zs x _ B5.out (by omega) (by omega)).mono ?_
  rintro en w6 ⟨rfl, hown, hg, hs⟩
  have G6 : Hid (w.grownBy w6 none) := grown_trans G5.out hg
  have B6 : Hid (Byt w6 ao n cap zs) := B5.out.keptN hg
  have Pu86 : Hid (Byt w6 (some ⟨w.heap.size, 0, none⟩) (n + 1) (n + 1) (zs ++ lb 1 x)) := Pu85.out.keptN hg
  have Pu166 : Hid (Byt w6 (some ⟨w1.heap.size, 0, none⟩) (n + 2) (n + 2) (zs ++ lb 2 x)) := Pu165.out.keptN hg
  have Pu326 : Hid (Byt w6 (some ⟨w2.heap.size, 0, none⟩) (n + 4) (n + 4) (zs ++ lb 4 x)) := Pu325.out.keptN hg
  have Pu646 : Hid (Byt w6 (some ⟨w3.heap.size, 0, none⟩) (n + 8) (n + 8) (zs ++ lb 8 x)) := Pu645.out.keptN hg
  have Pword6 : Hid (Byt w6 (some ⟨w4.heap.size, 0, none⟩) (n + 2) (n + 2) (zs ++ lb 2 x)) := Pword5.out.keptN hg
  have Plong6 : Hid (Byt w6 (some ⟨w5.heap.size, 0, none⟩) (n + 8) (n + 8) (zs ++ lb 8 x)) := by
    show Byt _ _ _ _ _
    exact Byt.of_owns hown
  clear hown hg hs
  go_wp2_with fail
  refine (putV_any ao n cap zs x _ B6.out (by omega) hx).mono ?_
  rintro en w7 ⟨rfl, hown, hg, hs⟩
  have G7 : Hid (w.grownBy w7 none) := grown_trans G6.out hg
  have B7 : Hid (Byt w7 ao n cap zs) := B6.out.keptN hg
  have Pu87 : Hid (Byt w7 (some ⟨w.heap.size, 0, none⟩) (n + 1) (n + 1) (zs ++ lb 1 x)) := Pu86.out.keptN hg
  have Pu167 : Hid (Byt w7 (some ⟨w1.heap.size, 0, none⟩) (n + 2) (n + 2) (zs ++ lb 2 x)) := Pu166.out.keptN hg
  have Pu327 : Hid (Byt w7 (some ⟨w2.heap.size, 0, none⟩) (n + 4) (n + 4) (zs ++ lb 4 x)) := Pu326.out.keptN hg
  have Pu647 : Hid (Byt w7 (some ⟨w3.heap.size, 0, none⟩) (n + 8) (n + 8) (zs ++ lb 8 x)) := Pu646.out.keptN hg
  have Pword7 : Hid (Byt w7 (some ⟨w4.heap.size, 0, none⟩) (n + 2) (n + 2) (zs ++ lb 2 x)) := Pword6.out.keptN hg
  have Plong7 : Hid (Byt w7 (some ⟨w5.heap.size, 0, none⟩) (n + 8) (n + 8) (zs ++ lb 8 x)) := Plong6.out.keptN hg
  have PV7 : Hid (Byt w7 (some ⟨w6.heap.size, 0, none⟩) (n + (vform x).length) (n + (vform x).length) (zs ++ vform x)) := Byt.of_owns hown
  clear hown hg hs
  go_wp2_with fail
  refine (refPut_any ao n cap zs x 1 _ B7.out hn hx (by omega)).mono ?_
  rintro en w8 ⟨ro8, rc8, rfl, hr, hg⟩
  have G8 : Hid (w.grownBy w8 none) := grown_trans G7.out hg
  have B8 : Hid (Byt w8 ao n cap zs) := B7.out.keptN hg
  have Pu88 : Hid (Byt w8 (some ⟨w.heap.size, 0, none⟩) (n + 1) (n + 1) (zs ++ lb 1 x)) := Pu87.out.keptN hg
  have Pu168 : Hid (Byt w8 (some ⟨w1.heap.size, 0, none⟩) (n + 2) (n + 2) (zs ++ lb 2 x)) := Pu167.out.keptN hg
  have Pu328 : Hid (Byt w8 (some ⟨w2.heap.size, 0, none⟩) (n + 4) (n + 4) (zs ++ lb 4 x)) := Pu327.out.keptN hg
  have Pu648 : Hid (Byt w8 (some ⟨w3.heap.size, 0, none⟩) (n + 8) (n + 8) (zs ++ lb 8 x)) := Pu647.out.keptN hg
  have Pword8 : Hid (Byt w8 (some ⟨w4.heap.size, 0, none⟩) (n + 2) (n + 2) (zs ++ lb 2 x)) := Pword7.out.keptN hg
  have Plong8 : Hid (Byt w8 (some ⟨w5.heap.size, 0, none⟩) (n + 8) (n + 8) (zs ++ lb 8 x)) := Plong7.out.keptN hg
  have PV8 : Hid (Byt w8 (some ⟨w6.heap.size, 0, none⟩) (n + (vform x).length) (n + (vform x).length) (zs ++ vform x)) := PV7.out.keptN hg
  have HR8 : Hid (Byt w8 ro8 _ rc8 (zs ++ lb 1 x)) := hr
  clear hr hg
  go_wp2_with fail
  refine (same_yes _ _ _ _ _ _ (zs ++ lb 1 x) (zs ++ lb 1 x) _ Pu88.out HR8.out rfl).mono ?_
  rintro en ws ⟨rfl, hws⟩
  subst hws
  go_wp2_with fail
  refine (refPut_any ao n cap zs x 2 _ B8.out hn hx (by omega)).mono ?_
  rintro en w9 ⟨ro9, rc9, rfl, hr, hg⟩
  have G9 : Hid (w.grownBy w9 none) := grown_trans G8.out hg
  have B9 : Hid (Byt w9 ao n cap zs) := B8.out.keptN hg
  have Pu89 : Hid (Byt w9 (some ⟨w.heap.size, 0, none⟩) (n + 1) (n + 1) (zs ++ lb 1 x)) := Pu88.out.keptN hg
  have Pu169 : Hid (Byt w9 (some ⟨w1.heap.size, 0, none⟩) (n + 2) (n + 2) (zs ++ lb 2 x)) := Pu168.out.keptN hg
  have Pu329 : Hid (Byt w9 (some ⟨w2.heap.size, 0, none⟩) (n + 4) (n + 4) (zs ++ lb 4 x)) := Pu328.out.keptN hg
  have Pu649 : Hid (Byt w9 (some ⟨w3.heap.size, 0, none⟩) (n + 8) (n + 8) (zs ++ lb 8 x)) := Pu648.out.keptN hg
  have Pword9 : Hid (Byt w9 (some ⟨w4.heap.size, 0, none⟩) (n + 2) (n + 2) (zs ++ lb 2 x)) := Pword8.out.keptN hg
  have Plong9 : Hid (Byt w9 (some ⟨w5.heap.size, 0, none⟩) (n + 8) (n + 8) (zs ++ lb 8 x)) := Plong8.out.keptN hg
  have PV9 : Hid (Byt w9 (some ⟨w6.heap.size, 0, none⟩) (n + (vform x).length) (n + (vform x).length) (zs ++ vform x)) := PV8.out.keptN hg
  have HR9 : Hid (Byt w9 ro9 _ rc9 (zs ++ lb 2 x)) := hr
  clear hr hg
  go_wp2_with fail
  refine (same_yes _ _ _ _ _ _ (zs ++ lb 2 x) (zs ++ lb 2 x) _ Pu169.out HR9.out rfl).mono ?_
  rintro en ws ⟨rfl, hws⟩
  subst hws
  go_wp2_with fail
  refine (same_yes _ _ _ _ _ _ (zs ++ lb 2 x) (zs ++ lb 2 x) _ Pword9.out Pu169.out rfl).mono ?_
  rintro en ws ⟨rfl, hws⟩
  subst hws
  go_wp2_with fail
  refine (refPut_any ao n cap zs x 4 _ B9.out hn hx (by omega)).mono ?_
  rintro en w10 ⟨ro10, rc10, rfl, hr, hg⟩
  have G10 : Hid (w.grownBy w10 none) := grown_trans G9.out hg
  have B10 : Hid (Byt w10 ao n cap zs) := B9.out.keptN hg
  have Pu810 : Hid (Byt w10 (some ⟨w.heap.size, 0, none⟩) (n + 1) (n + 1) (zs ++ lb 1 x)) := Pu89.out.keptN hg
  have Pu1610 : Hid (Byt w10 (some ⟨w1.heap.size, 0, none⟩) (n + 2) (n + 2) (zs ++ lb 2 x)) := Pu169.out.keptN hg
  have Pu3210 : Hid (Byt w10 (some ⟨w2.heap.size, 0, none⟩) (n + 4) (n + 4) (zs ++ lb 4 x)) := Pu329.out.keptN hg
  have Pu6410 : Hid (Byt w10 (some ⟨w3.heap.size, 0, none⟩) (n + 8) (n + 8) (zs ++ lb 8 x)) := Pu649.out.keptN hg
  have Pword10 : Hid (Byt w10 (some ⟨w4.heap.size, 0, none⟩) (n + 2) (n + 2) (zs ++ lb 2 x)) := Pword9.out.keptN hg
  have Plong10 : Hid (Byt w10 (some ⟨w5.heap.size, 0, none⟩) (n + 8) (n + 8) (zs ++ lb 8 x)) := Plong9.out.keptN hg
  have PV10 : Hid (Byt w10 (some ⟨w6.heap.size, 0, none⟩) (n + (vform x).length) (n + (vform x).length) (zs ++ vform x)) := PV9.out.keptN hg
  have HR10 : Hid (Byt w10 ro10 _ rc10 (zs ++ lb 4 x)) := hr
  clear hr hg
  go_wp2_with fail
  refine (same_yes _ _ _ _ _ _ (zs ++ lb 4 x) (zs ++ lb 4 x) _ Pu3210.out HR10.out rfl).mono ?_
  rintro en ws ⟨rfl, hws⟩
  subst hws
  go_wp2_with fail
  refine (refPut_any ao n cap zs x 8 _ B10.out hn hx (by omega)).mono ?_
  rintro en w11 ⟨ro11, rc11, rfl, hr, hg⟩
  have G11 : Hid (w.grownBy w11 none) := grown_trans G10.out hg
  have B11 : Hid (Byt w11 ao n cap zs) := B10.out.keptN hg
  have Pu811 : Hid (Byt w11 (some ⟨w.heap.size, 0, none⟩) (n + 1) (n + 1) (zs ++ lb 1 x)) := Pu810.out.keptN hg
  have Pu1611 : Hid (Byt w11 (some ⟨w1.heap.size, 0, none⟩) (n + 2) (n + 2) (zs ++ lb 2 x)) := Pu1610.out.keptN hg
  have Pu3211 : Hid (Byt w11 (some ⟨w2.heap.size, 0, none⟩) (n + 4) (n + 4) (zs ++ lb 4 x)) := Pu3210.out.keptN hg
  have Pu6411 : Hid (Byt w11 (some ⟨w3.heap.size, 0, none⟩) (n + 8) (n + 8) (zs ++ lb 8 x)) := Pu6410.out.keptN hg
  have Pword11 : Hid (Byt w11 (some ⟨w4.heap.size, 0, none⟩) (n + 2) (n + 2) (zs ++ lb 2 x)) := Pword10.out.keptN hg
  have Plong11 : Hid (Byt w11 (some ⟨w5.heap.size, 0, none⟩) (n + 8) (n + 8) (zs ++ lb 8 x)) := Plong10.out.keptN hg
  have PV11 : Hid (Byt w11 (some ⟨w6.heap.size, 0, none⟩) (n + (vform x).length) (n + (vform x).length) (zs ++ vform x)) := PV10.out.keptN hg
  have HR11 : Hid (Byt w11 ro11 _ rc11 (zs ++ lb 8 x)) := hr
  clear hr hg
  go_wp2_with fail
  refine (same_yes _ _ _ _ _ _ (zs ++ lb 8 x) (zs ++ lb 8 x) _ Pu6411.out HR11.out rfl).mono ?_
  rintro en ws ⟨rfl, hws⟩
  subst hws
  go_wp2_with fail
  refine (same_yes _ _ _ _ _ _ (zs ++ lb 8 x) (zs ++ lb 8 x) _ Plong11.out Pu6411.out rfl).mono ?_
  rintro en ws ⟨rfl, hws⟩
  subst hws
  go_wp2_with fail
  refine (refPutV_any ao n cap zs x _ B11.out hn hx).mono ?_
  rintro en w12 ⟨ro12, rc12, rfl, hr, hg⟩
  have G12 : Hid (w.grownBy w12 none) := grown_trans G11.out hg
  have B12 : Hid (Byt w12 ao n cap zs) := B11.out.keptN hg
  have Pu812 : Hid (Byt w12 (some ⟨w.heap.size, 0, none⟩) (n + 1) (n + 1) (zs ++ lb 1 x)) := Pu811.out.keptN hg
  have Pu1612 : Hid (Byt w12 (some ⟨w1.heap.size, 0, none⟩) (n + 2) (n + 2) (zs ++ lb 2 x)) := Pu1611.out.keptN hg
  have Pu3212 : Hid (Byt w12 (some ⟨w2.heap.size, 0, none⟩) (n + 4) (n + 4) (zs ++ lb 4 x)) := Pu3211.out.keptN hg
  have Pu6412 : Hid (Byt w12 (some ⟨w3.heap.size, 0, none⟩) (n + 8) (n + 8) (zs ++ lb 8 x)) := Pu6411.out.keptN hg
  have Pword12 : Hid (Byt w12 (some ⟨w4.heap.size, 0, none⟩) (n + 2) (n + 2) (zs ++ lb 2 x)) := Pword11.out.keptN hg
  have Plong12 : Hid (Byt w12 (some ⟨w5.heap.size, 0, none⟩) (n + 8) (n + 8) (zs ++ lb 8 x)) := Plong11.out.keptN hg
  have PV12 : Hid (Byt w12 (some ⟨w6.heap.size, 0, none⟩) (n + (vform x).length) (n + (vform x).length) (zs ++ vform x)) := PV11.out.keptN hg
  have HR12 : Hid (Byt w12 ro12 _ rc12 (zs ++ vform x)) := hr
  clear hr hg
  go_wp2_with fail
  refine (same_yes _ _ _ _ _ _ (zs ++ vform x) (zs ++ vform x) _ PV12.out HR12.out rfl).mono ?_
  rintro en ws ⟨rfl, hws⟩
  subst hws
  go_wp2_with fail
  refine (vlen_calls x _ hx).mono ?_
  rintro en ws ⟨rfl, hws⟩
  subst hws
  go_wp2_with fail
  refine (refVLen_any x _ hx).mono ?_
  rintro en ws ⟨rfl, hws⟩
  subst hws
  go_wp2
  go_ret
  exact ⟨rfl, G12.out⟩
end Go.Proofs.Ytplnaehjiinaoaa
