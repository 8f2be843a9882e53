import Derived.Test.YthebdbdahdegfaaBackM
namespace Go.Proofs.Ythebdbdahdegfaa
open Go.RowKit
set_option linter.unusedVariables false

set_option maxHeartbeats 400000 in
theorem getw0_ok (R G : Nat) (zs t : List Int) (p x : Nat) (w : World) (h : Rd w R G zs p 0) (hbt : Bt zs) (hx : x < 18446744073709551616) (hz : zs.drop p = vform x ++ t) :
    Calls Try.prog 19 #[.pointer (some ⟨R, 0, none⟩), .int .i64 0] w fun en w' => en = .returned (.int .u64 (x : Nat)) ∧ Rd w' R G zs (p + (vform x).length) 0 ∧ w.grownBy w' (some R) := by
  have HR : Hid (Rd w R G zs p 0) := h
  have HZ : Hid (zs.drop p = vform x ++ t) := hz
  clear h hz
  go_enter Try.func19, Try.ntmps19
  go_wp2_with fail
  refine (v_ok R G zs p x (vform x).length _ HR.out hbt (by rw [HZ.out]; exact rv_vform x t hx)).mono ?_
  rintro en w1 ⟨rfl, hr, hg⟩
  have HR1 : Hid (Rd w1 R G zs (p + (vform x).length) 0) := hr
  have HG1 : Hid (w.grownBy w1 (some R)) := hg
  clear hr hg
  go_wp2
  go_ret
  exact ⟨rfl, HR1.out, HG1.out⟩

set_option maxHeartbeats 400000 in
theorem getw0_cut (R G : Nat) (zs : List Int) (p x m : Nat) (w : World) (h : Rd w R G zs p 0) (hbt : Bt zs) (hx : x < 18446744073709551616) (hm : m < (vform x).length) (hz : zs.drop p = (vform x).take m) :
    Calls Try.prog 19 #[.pointer (some ⟨R, 0, none⟩), .int .i64 0] w fun en w' => en = .returned (.int .u64 0) ∧ Rd w' R G zs p 10 ∧ w.grownBy w' (some R) := by
  have HR : Hid (Rd w R G zs p 0) := h
  have HZ : Hid (zs.drop p = (vform x).take m) := hz
  have HM : Hid (m < (vform x).length) := hm
  clear h hz hm
  go_enter Try.func19, Try.ntmps19
  go_wp2_with fail
  refine (v_bad R G zs p 10 _ HR.out hbt (by rw [HZ.out]; exact rv_cut x m hx HM.out) rfl).mono ?_
  rintro en w1 ⟨rfl, hr, hg⟩
  have HR1 : Hid (Rd w1 R G zs p 10) := hr
  have HG1 : Hid (w.grownBy w1 (some R)) := hg
  clear hr hg
  go_wp2
  go_ret
  exact ⟨rfl, HR1.out, HG1.out⟩

set_option maxHeartbeats 400000 in
theorem getw1_ok (R G : Nat) (zs t : List Int) (p x r : Nat) (w : World) (hrx : r = x % 256) (h : Rd w R G zs p 0) (hbt : Bt zs) (hx : x < 18446744073709551616) (hz : zs.drop p = lb 1 x ++ t) :
    Calls Try.prog 19 #[.pointer (some ⟨R, 0, none⟩), .int .i64 1] w fun en w' => en = .returned (.int .u64 (r : Nat)) ∧ Rd w' R G zs (p + 1) 0 ∧ w.grownBy w' (some R) := by
  have HR : Hid (Rd w R G zs p 0) := h
  have HZ : Hid (zs.drop p = lb 1 x ++ t) := hz
  clear h hz
  go_enter Try.func19, Try.ntmps19
  go_wp2_with fail
  refine (get_u8_ok R G zs p _ HR.out hbt (by have := congrArg List.length HZ.out; rw [List.length_drop, List.length_append, lb_len] at this; omega)).mono ?_
  rintro en w1 ⟨rfl, hr, hg⟩
  have HR1 : Hid (Rd w1 R G zs (p + 1) 0) := hr
  have HG1 : Hid (w.grownBy w1 (some R)) := hg
  clear hr hg
  rw [show le 1 (zs.drop p) = r from by rw [HZ.out, le_lb, hrx]]
  have hb : r < 256 := by rw [hrx]; exact Nat.mod_lt _ (by omega)
  clear hrx
  go_wp2
  go_ret
  exact ⟨rfl, HR1.out, HG1.out⟩

set_option maxHeartbeats 400000 in
theorem getw1_cut (R G : Nat) (zs : List Int) (p x m : Nat) (w : World) (h : Rd w R G zs p 0) (hbt : Bt zs) (hx : x < 18446744073709551616) (hm : m < 1) (hz : zs.drop p = (lb 1 x).take m) :
    Calls Try.prog 19 #[.pointer (some ⟨R, 0, none⟩), .int .i64 1] w fun en w' => en = .returned (.int .u64 0) ∧ Rd w' R G zs p 10 ∧ w.grownBy w' (some R) := by
  have HR : Hid (Rd w R G zs p 0) := h
  have HZ : Hid (zs.drop p = (lb 1 x).take m) := hz
  have HM : Hid (m < 1) := hm
  clear h hz hm
  go_enter Try.func19, Try.ntmps19
  go_wp2_with fail
  refine (get_u8_short R G zs p _ HR.out (by have := congrArg List.length HZ.out; rw [List.length_drop, List.length_take, lb_len] at this; have := HM.out; have := HR.out.le; omega)).mono ?_
  rintro en w1 ⟨rfl, hr, hg⟩
  have HR1 : Hid (Rd w1 R G zs p 10) := hr
  have HG1 : Hid (w.grownBy w1 (some R)) := hg
  clear hr hg
  go_wp2
  go_ret
  exact ⟨rfl, HR1.out, HG1.out⟩

set_option maxHeartbeats 400000 in
theorem getw2_ok (R G : Nat) (zs t : List Int) (p x r : Nat) (w : World) (hrx : r = x % 65536) (h : Rd w R G zs p 0) (hbt : Bt zs) (hx : x < 18446744073709551616) (hz : zs.drop p = lb 2 x ++ t) :
    Calls Try.prog 19 #[.pointer (some ⟨R, 0, none⟩), .int .i64 2] w fun en w' => en = .returned (.int .u64 (r : Nat)) ∧ Rd w' R G zs (p + 2) 0 ∧ w.grownBy w' (some R) := by
  have HR : Hid (Rd w R G zs p 0) := h
  have HZ : Hid (zs.drop p = lb 2 x ++ t) := hz
  clear h hz
  go_enter Try.func19, Try.ntmps19
  go_wp2_with fail
  refine (get_u16_ok R G zs p _ HR.out hbt (by have := congrArg List.length HZ.out; rw [List.length_drop, List.length_append, lb_len] at this; omega)).mono ?_
  rintro en w1 ⟨rfl, hr, hg⟩
  have HR1 : Hid (Rd w1 R G zs (p + 2) 0) := hr
  have HG1 : Hid (w.grownBy w1 (some R)) := hg
  clear hr hg
  rw [show le 2 (zs.drop p) = r from by rw [HZ.out, le_lb, hrx]]
  have hb : r < 65536 := by rw [hrx]; exact Nat.mod_lt _ (by omega)
  clear hrx
  go_wp2
  go_ret
  exact ⟨rfl, HR1.out, HG1.out⟩

set_option maxHeartbeats 400000 in
theorem getw2_cut (R G : Nat) (zs : List Int) (p x m : Nat) (w : World) (h : Rd w R G zs p 0) (hbt : Bt zs) (hx : x < 18446744073709551616) (hm : m < 2) (hz : zs.drop p = (lb 2 x).take m) :
    Calls Try.prog 19 #[.pointer (some ⟨R, 0, none⟩), .int .i64 2] w fun en w' => en = .returned (.int .u64 0) ∧ Rd w' R G zs p 10 ∧ w.grownBy w' (some R) := by
  have HR : Hid (Rd w R G zs p 0) := h
  have HZ : Hid (zs.drop p = (lb 2 x).take m) := hz
  have HM : Hid (m < 2) := hm
  clear h hz hm
  go_enter Try.func19, Try.ntmps19
  go_wp2_with fail
  refine (get_u16_short R G zs p _ HR.out (by have := congrArg List.length HZ.out; rw [List.length_drop, List.length_take, lb_len] at this; have := HM.out; have := HR.out.le; omega)).mono ?_
  rintro en w1 ⟨rfl, hr, hg⟩
  have HR1 : Hid (Rd w1 R G zs p 10) := hr
  have HG1 : Hid (w.grownBy w1 (some R)) := hg
  clear hr hg
  go_wp2
  go_ret
  exact ⟨rfl, HR1.out, HG1.out⟩

set_option maxHeartbeats 400000 in
theorem getw4_ok (R G : Nat) (zs t : List Int) (p x r : Nat) (w : World) (hrx : r = x % 4294967296) (h : Rd w R G zs p 0) (hbt : Bt zs) (hx : x < 18446744073709551616) (hz : zs.drop p = lb 4 x ++ t) :
    Calls Try.prog 19 #[.pointer (some ⟨R, 0, none⟩), .int .i64 4] w fun en w' => en = .returned (.int .u64 (r : Nat)) ∧ Rd w' R G zs (p + 4) 0 ∧ w.grownBy w' (some R) := by
  have HR : Hid (Rd w R G zs p 0) := h
  have HZ : Hid (zs.drop p = lb 4 x ++ t) := hz
  clear h hz
  go_enter Try.func19, Try.ntmps19
  go_wp2_with fail
  refine (get_u32_ok R G zs p _ HR.out hbt (by have := congrArg List.length HZ.out; rw [List.length_drop, List.length_append, lb_len] at this; omega)).mono ?_
  rintro en w1 ⟨rfl, hr, hg⟩
  have HR1 : Hid (Rd w1 R G zs (p + 4) 0) := hr
  have HG1 : Hid (w.grownBy w1 (some R)) := hg
  clear hr hg
  rw [show le 4 (zs.drop p) = r from by rw [HZ.out, le_lb, hrx]]
  have hb : r < 4294967296 := by rw [hrx]; exact Nat.mod_lt _ (by omega)
  clear hrx
  go_wp2
  go_ret
  exact ⟨rfl, HR1.out, HG1.out⟩

set_option maxHeartbeats 400000 in
theorem getw4_cut (R G : Nat) (zs : List Int) (p x m : Nat) (w : World) (h : Rd w R G zs p 0) (hbt : Bt zs) (hx : x < 18446744073709551616) (hm : m < 4) (hz : zs.drop p = (lb 4 x).take m) :
    Calls Try.prog 19 #[.pointer (some ⟨R, 0, none⟩), .int .i64 4] w fun en w' => en = .returned (.int .u64 0) ∧ Rd w' R G zs p 10 ∧ w.grownBy w' (some R) := by
  have HR : Hid (Rd w R G zs p 0) := h
  have HZ : Hid (zs.drop p = (lb 4 x).take m) := hz
  have HM : Hid (m < 4) := hm
  clear h hz hm
  go_enter Try.func19, Try.ntmps19
  go_wp2_with fail
  refine (get_u32_short R G zs p _ HR.out (by have := congrArg List.length HZ.out; rw [List.length_drop, List.length_take, lb_len] at this; have := HM.out; have := HR.out.le; omega)).mono ?_
  rintro en w1 ⟨rfl, hr, hg⟩
  have HR1 : Hid (Rd w1 R G zs p 10) := hr
  have HG1 : Hid (w.grownBy w1 (some R)) := hg
  clear hr hg
  go_wp2
  go_ret
  exact ⟨rfl, HR1.out, HG1.out⟩

set_option maxHeartbeats 400000 in
theorem getw8_ok (R G : Nat) (zs t : List Int) (p x : Nat) (w : World) (h : Rd w R G zs p 0) (hbt : Bt zs) (hx : x < 18446744073709551616) (hz : zs.drop p = lb 8 x ++ t) :
    Calls Try.prog 19 #[.pointer (some ⟨R, 0, none⟩), .int .i64 8] w fun en w' => en = .returned (.int .u64 (x : Nat)) ∧ Rd w' R G zs (p + 8) 0 ∧ w.grownBy w' (some R) := by
  have HR : Hid (Rd w R G zs p 0) := h
  have HZ : Hid (zs.drop p = lb 8 x ++ t) := hz
  clear h hz
  go_enter Try.func19, Try.ntmps19
  go_wp2_with fail
  refine (get_u64_ok R G zs p _ HR.out hbt (by have := congrArg List.length HZ.out; rw [List.length_drop, List.length_append, lb_len] at this; omega)).mono ?_
  rintro en w1 ⟨rfl, hr, hg⟩
  have HR1 : Hid (Rd w1 R G zs (p + 8) 0) := hr
  have HG1 : Hid (w.grownBy w1 (some R)) := hg
  clear hr hg
  rw [show le 8 (zs.drop p) = x from by rw [HZ.out, le_lb]; exact Nat.mod_eq_of_lt hx]
  go_wp2
  go_ret
  exact ⟨rfl, HR1.out, HG1.out⟩

set_option maxHeartbeats 400000 in
theorem getw8_cut (R G : Nat) (zs : List Int) (p x m : Nat) (w : World) (h : Rd w R G zs p 0) (hbt : Bt zs) (hx : x < 18446744073709551616) (hm : m < 8) (hz : zs.drop p = (lb 8 x).take m) :
    Calls Try.prog 19 #[.pointer (some ⟨R, 0, none⟩), .int .i64 8] w fun en w' => en = .returned (.int .u64 0) ∧ Rd w' R G zs p 10 ∧ w.grownBy w' (some R) := by
  have HR : Hid (Rd w R G zs p 0) := h
  have HZ : Hid (zs.drop p = (lb 8 x).take m) := hz
  have HM : Hid (m < 8) := hm
  clear h hz hm
  go_enter Try.func19, Try.ntmps19
  go_wp2_with fail
  refine (get_u64_short R G zs p _ HR.out (by have := congrArg List.length HZ.out; rw [List.length_drop, List.length_take, lb_len] at this; have := HM.out; have := HR.out.le; omega)).mono ?_
  rintro en w1 ⟨rfl, hr, hg⟩
  have HR1 : Hid (Rd w1 R G zs p 10) := hr
  have HG1 : Hid (w.grownBy w1 (some R)) := hg
  clear hr hg
  go_wp2
  go_ret
  exact ⟨rfl, HR1.out, HG1.out⟩

set_option maxHeartbeats 400000 in
theorem rest_quiet (R G : Nat) (zs : List Int) (p : Nat) (w : World) (h : Rd w R G zs p 0) :
    Calls Try.prog 41 #[.pointer (some ⟨R, 0, none⟩)] w fun en w' => (∃ ao, en = .returned (.slice ao (zs.length - p) (zs.length - p))) ∧ ∃ n, w' = w.drewN n := by
  obtain ⟨c0, c1, c2, f1, f2⟩ := h.cells
  have h1 := h.le
  have h2 := h.max
  have hp : (p : Int) ≤ (zs.length : Int) := by omega
  clear h
  go_enter Try.func41, Try.ntmps41
  go_wp2
  go_quiet (fail)
  go_wp2
  · go_ret
    exact ⟨⟨_, rfl⟩, _, rfl⟩
  · go_ret
    exact ⟨⟨_, rfl⟩, _, rfl⟩

set_option maxHeartbeats 400000 in
theorem left_quiet (R G : Nat) (zs : List Int) (p L : Nat) (w : World) (h : Rd w R G zs p 0) (hL : zs.length - p = L) :
    Calls Try.prog 22 #[.pointer (some ⟨R, 0, none⟩)] w fun en w' => en = .returned (.int .i64 (L : Nat)) ∧ ∃ n, w' = w.drewN n := by
  go_enter Try.func22, Try.ntmps22
  go_wp2_with fail
  refine (rest_quiet R G zs p _ h).mono ?_
  rintro e w' ⟨⟨ao, rfl⟩, n, rfl⟩
  rw [hL]
  clear h
  go_wp2
  go_ret
  exact ⟨rfl, _, rfl⟩

theorem left_inquiet (R G : Nat) (zs : List Int) (p L : Nat) (w : World) (k : Nat) (h : Rd w R G zs p 0) (hL : zs.length - p = L) :
    Calls Try.prog 22 #[.pointer (some ⟨R, 0, none⟩)] (w.drewN k) fun en w' => en = .returned (.int .i64 (L : Nat)) ∧ ∃ n, w' = w.drewN n := by
  refine (left_quiet R G zs p L (w.drewN k) (h.qt (Qt.drewN w k)) hL).mono ?_
  rintro e w' ⟨rfl, n, rfl⟩
  exact ⟨rfl, k + n, by simp⟩

end Go.Proofs.Ythebdbdahdegfaa
