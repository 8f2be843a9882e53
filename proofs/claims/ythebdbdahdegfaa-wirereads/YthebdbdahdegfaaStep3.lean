import Derived.Test.YthebdbdahdegfaaStep1
namespace Go.Proofs.Ythebdbdahdegfaa
open Go.RowKit

set_option maxHeartbeats 1000000 in
theorem step6_ok (R G Q H : Nat) (zs : List Int) (p x n : Nat) (N : Int) (S : Bool) (w : World) (h : Two w R G Q H zs p 0) (hbt : Bt zs) (hv : rv (zs.drop p) = (x, n, 0)) :
    Calls Try.prog 14 #[.agg #[.int .i64 6, .int .i64 N, .bool S], .pointer (some ⟨R, 0, none⟩), .pointer (some ⟨Q, 0, none⟩)] w fun en w' => en = .returned (.bool true) ∧ Two w' R G Q H zs (p + n) 0 ∧ Fr w w' R G Q H := by
  have HT := hid_intro h
  have HB := hid_intro hbt
  have HV := hid_intro hv
  clear h hbt hv
  go_enter Try.func14, Try.ntmps14
  go_wp2_with fail
  refine (v_ok R G zs p x n _ (HT.out.al _) HB.out HV.out).mono ?_
  rintro en w1 ⟨rfl, hr, hg⟩
  have HG1 := hid_intro (grown_al hg)
  have HR1 := hid_intro hr
  clear hr hg
  go_wp2_with fail
  refine (refV_ok Q H zs p x n _ (HT.out.ref HG1.out) HB.out HV.out).mono ?_
  rintro en w2 ⟨rfl, hr, hg⟩
  have HN := hid_intro (HT.out.next HG1.out HR1.out hg hr)
  clear hr hg
  go_wp2
  go_ret
  exact ⟨ret_true (by simp), HN.out⟩

set_option maxHeartbeats 1000000 in
theorem step6_bad (R G Q H : Nat) (zs : List Int) (p : Nat) (er N : Int) (S : Bool) (w : World) (h : Two w R G Q H zs p 0) (hbt : Bt zs) (hv : rv (zs.drop p) = (0, 0, er)) (her : er ≠ 0) :
    Calls Try.prog 14 #[.agg #[.int .i64 6, .int .i64 N, .bool S], .pointer (some ⟨R, 0, none⟩), .pointer (some ⟨Q, 0, none⟩)] w fun en w' => en = .returned (.bool true) ∧ Two w' R G Q H zs p er ∧ Fr w w' R G Q H := by
  have HT := hid_intro h
  have HB := hid_intro hbt
  have HV := hid_intro hv
  clear h hbt hv
  go_enter Try.func14, Try.ntmps14
  go_wp2_with fail
  refine (v_bad R G zs p er _ (HT.out.al _) HB.out HV.out (by simpa using her)).mono ?_
  rintro en w1 ⟨rfl, hr, hg⟩
  have HG1 := hid_intro (grown_al hg)
  have HR1 := hid_intro hr
  clear hr hg
  go_wp2_with fail
  refine (refV_bad Q H zs p er _ (HT.out.ref HG1.out) HB.out HV.out her).mono ?_
  rintro en w2 ⟨rfl, hr, hg⟩
  have HN := hid_intro (HT.out.next HG1.out HR1.out hg hr)
  clear hr hg
  go_wp2
  go_ret
  exact ⟨rfl, HN.out⟩

set_option maxHeartbeats 1000000 in
theorem step6_broken (R G Q H : Nat) (zs : List Int) (p : Nat) (e N : Int) (S : Bool) (w : World) (h : Two w R G Q H zs p e) (he : (e == 0) = false) :
    Calls Try.prog 14 #[.agg #[.int .i64 6, .int .i64 N, .bool S], .pointer (some ⟨R, 0, none⟩), .pointer (some ⟨Q, 0, none⟩)] w fun en w' => en = .returned (.bool true) ∧ Two w' R G Q H zs p e ∧ Fr w w' R G Q H := by
  have HT := hid_intro h
  clear h
  go_enter Try.func14, Try.ntmps14
  go_wp2_with fail
  refine (v_broken R G zs p e _ (HT.out.al _) he).mono ?_
  rintro en w1 ⟨rfl, hr, hg⟩
  have HG1 := hid_intro (grown_al hg)
  have HR1 := hid_intro hr
  clear hr hg
  go_wp2_with fail
  refine (refV_broken Q H zs p e _ (HT.out.ref HG1.out) he).mono ?_
  rintro en w2 ⟨rfl, rfl⟩
  have HN := hid_intro (HT.out.next HG1.out HR1.out (Qt.grown (Qt.refl _) _) (HT.out.ref HG1.out))
  go_wp2
  go_ret
  exact ⟨rfl, HN.out⟩

set_option maxHeartbeats 1000000 in
theorem step7_ok (R G Q H : Nat) (zs : List Int) (p : Nat) (N : Int) (S : Bool) (w : World) (h : Two w R G Q H zs p 0) :
    Calls Try.prog 14 #[.agg #[.int .i64 7, .int .i64 N, .bool S], .pointer (some ⟨R, 0, none⟩), .pointer (some ⟨Q, 0, none⟩)] w fun en w' => en = .returned (.bool true) ∧ Two w' R G Q H zs p 0 ∧ Fr w w' R G Q H := by
  have HT := hid_intro h
  have hle := h.a.le
  clear h
  go_enter Try.func14, Try.ntmps14
  go_wp2_with fail
  refine (left_whole R G zs p _ (HT.out.al _)).mono ?_
  rintro en w1 ⟨rfl, hq⟩
  have HG1 := hid_intro (grown_al (hq.grown (some R)))
  have HR1 := hid_intro ((HT.out.al _).qt hq)
  clear hq
  go_wp2_with fail
  refine (rleft_whole Q H zs p _ (HT.out.ref HG1.out)).mono ?_
  rintro en w2 ⟨rfl, hq⟩
  have HN := hid_intro (HT.out.next HG1.out HR1.out (hq.grown _) ((HT.out.ref HG1.out).qt hq))
  clear hq
  go_wp2
  go_ret
  exact ⟨ret_true (by simp; omega), HN.out⟩

set_option maxHeartbeats 1000000 in
theorem step7_broken (R G Q H : Nat) (zs : List Int) (p : Nat) (e N : Int) (S : Bool) (w : World) (h : Two w R G Q H zs p e) (he : (e == 0) = false) :
    Calls Try.prog 14 #[.agg #[.int .i64 7, .int .i64 N, .bool S], .pointer (some ⟨R, 0, none⟩), .pointer (some ⟨Q, 0, none⟩)] w fun en w' => en = .returned (.bool true) ∧ Two w' R G Q H zs p e ∧ Fr w w' R G Q H := by
  have HT := hid_intro h
  clear h
  go_enter Try.func14, Try.ntmps14
  go_wp2_with fail
  refine (left_broken R G zs p e _ (HT.out.al _) he).mono ?_
  rintro en w1 ⟨rfl, hq⟩
  have HG1 := hid_intro (grown_al (hq.grown (some R)))
  have HR1 := hid_intro ((HT.out.al _).qt hq)
  clear hq
  go_wp2_with fail
  refine (rleft_broken Q H zs p e _ (HT.out.ref HG1.out) he).mono ?_
  rintro en w2 ⟨rfl, hq⟩
  have HN := hid_intro (HT.out.next HG1.out HR1.out (hq.grown _) ((HT.out.ref HG1.out).qt hq))
  clear hq
  go_wp2
  go_ret
  exact ⟨rfl, HN.out⟩

set_option maxHeartbeats 1000000 in
theorem step_none (R G Q H : Nat) (zs : List Int) (p : Nat) (e K N : Int) (S : Bool) (w : World) (h : Two w R G Q H zs p e) (hK : K < 1 ∨ 9 < K) :
    Calls Try.prog 14 #[.agg #[.int .i64 K, .int .i64 N, .bool S], .pointer (some ⟨R, 0, none⟩), .pointer (some ⟨Q, 0, none⟩)] w fun en w' => en = .returned (.bool true) ∧ Two w' R G Q H zs p e ∧ Fr w w' R G Q H := by
  have HT := hid_intro h
  have k1 : (K == 1) = false := by simp; omega
  have k2 : (K == 2) = false := by simp; omega
  have k3 : (K == 3) = false := by simp; omega
  have k4 : (K == 4) = false := by simp; omega
  have k5 : (K == 5) = false := by simp; omega
  have k6 : (K == 6) = false := by simp; omega
  have k7 : (K == 7) = false := by simp; omega
  have k8 : (K == 8) = false := by simp; omega
  have k9 : (K == 9) = false := by simp; omega
  clear h hK
  go_enter Try.func14, Try.ntmps14
  go_wp2
  go_ret
  exact ⟨rfl, HT.out.kept (World.grownBy_alloc _ _ none), Fr.of (World.grownBy_alloc _ _ none) (by simp)⟩

set_option maxHeartbeats 1000000 in
theorem step8_any (R G Q H : Nat) (zs : List Int) (p : Nat) (e N : Int) (S : Bool) (w : World) (h : Two w R G Q H zs p e) :
    Calls Try.prog 14 #[.agg #[.int .i64 8, .int .i64 N, .bool S], .pointer (some ⟨R, 0, none⟩), .pointer (some ⟨Q, 0, none⟩)] w fun en w' => en = .returned (.bool true) ∧ Two w' R G Q H zs p e ∧ Fr w w' R G Q H := by
  have HT := hid_intro h
  clear h
  go_enter Try.func14, Try.ntmps14
  go_wp2_with fail
  refine (err_any R G zs p e _ (HT.out.al _)).mono ?_
  rintro en w1 ⟨rfl, hq⟩
  have HG1 := hid_intro (grown_al (hq.grown (some R)))
  have HR1 := hid_intro ((HT.out.al _).qt hq)
  obtain ⟨c0, c1, c2, f1, f2⟩ := (HT.out.ref HG1.out).cells
  clear hq
  have hee : (e == e) = true := by simp
  have hpp : ((p : Int) == (p : Int)) = true := by simp
  go_wp2
  go_quiet ((go_at_call 21; exact Calls.quiet_of_same (num_any _ _)))
  go_wp2
  go_ret
  have hq := Qt.drewN w1 nq
  exact ⟨rfl, HT.out.next HG1.out HR1.out (hq.grown _) ((HT.out.ref HG1.out).qt hq)⟩
end Go.Proofs.Ythebdbdahdegfaa
