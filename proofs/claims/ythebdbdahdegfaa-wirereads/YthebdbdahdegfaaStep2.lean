import Derived.Test.YthebdbdahdegfaaStep1
import Derived.Test.YthebdbdahdegfaaGet2
namespace Go.Proofs.Ythebdbdahdegfaa
open Go.RowKit

set_option maxHeartbeats 1000000 in
theorem step2_ok (R G Q H : Nat) (zs : List Int) (p : Nat) (N : Int) (S : Bool) (w : World) (h : Two w R G Q H zs p 0) (hbt : Bt zs) (hp : p + 2 ≤ zs.length) :
    Calls Try.prog 14 #[.agg #[.int .i64 2, .int .i64 N, .bool S], .pointer (some ⟨R, 0, none⟩), .pointer (some ⟨Q, 0, none⟩)] w fun en w' => en = .returned (.bool true) ∧ Two w' R G Q H zs (p + 2) 0 ∧ Fr w w' R G Q H := by
  have HT := hid_intro h
  have HB := hid_intro hbt
  obtain ⟨v, hv⟩ : ∃ v, le 2 (zs.drop p) = v := ⟨_, rfl⟩
  have hvl : v < 65536 := by rw [← hv]; exact le_lt 2 _ (hbt.drop p)
  have HV := hid_intro hv
  clear h hbt hv
  go_enter Try.func14, Try.ntmps14
  go_wp2_with fail
  refine (get_u16_ok R G zs p _ (HT.out.al _) HB.out hp).mono ?_
  rintro en w1 ⟨rfl, hr, hg⟩
  rw [HV.out]
  have HG1 := hid_intro (grown_al hg)
  have HR1 := hid_intro hr
  clear hr hg
  go_wp2_with fail
  refine (rnum_ok Q H zs p 2 _ (HT.out.ref HG1.out) HB.out (by omega) hp).mono ?_
  rintro en w2 ⟨rfl, hr, hg⟩
  rw [HV.out]
  have HN := hid_intro (HT.out.next HG1.out HR1.out hg hr)
  clear hr hg
  go_wp2
  go_ret
  exact ⟨ret_true (by simp), HN.out⟩

set_option maxHeartbeats 1000000 in
theorem step2_short (R G Q H : Nat) (zs : List Int) (p : Nat) (N : Int) (S : Bool) (w : World) (h : Two w R G Q H zs p 0) (hp : zs.length < p + 2) :
    Calls Try.prog 14 #[.agg #[.int .i64 2, .int .i64 N, .bool S], .pointer (some ⟨R, 0, none⟩), .pointer (some ⟨Q, 0, none⟩)] w fun en w' => en = .returned (.bool true) ∧ Two w' R G Q H zs p 10 ∧ Fr w w' R G Q H := by
  have HT := hid_intro h
  clear h
  go_enter Try.func14, Try.ntmps14
  go_wp2_with fail
  refine (get_u16_short R G zs p _ (HT.out.al _) hp).mono ?_
  rintro en w1 ⟨rfl, hr, hg⟩
  have HG1 := hid_intro (grown_al hg)
  have HR1 := hid_intro hr
  clear hr hg
  go_wp2_with fail
  refine (rnum_short Q H zs p 2 _ (HT.out.ref HG1.out) (by omega) hp).mono ?_
  rintro en w2 ⟨rfl, hr, hg⟩
  have HN := hid_intro (HT.out.next HG1.out HR1.out hg hr)
  clear hr hg
  go_wp2
  go_ret
  exact ⟨rfl, HN.out⟩

set_option maxHeartbeats 1000000 in
theorem step2_broken (R G Q H : Nat) (zs : List Int) (p : Nat) (e N : Int) (S : Bool) (w : World) (h : Two w R G Q H zs p e) (he : (e == 0) = false) :
    Calls Try.prog 14 #[.agg #[.int .i64 2, .int .i64 N, .bool S], .pointer (some ⟨R, 0, none⟩), .pointer (some ⟨Q, 0, none⟩)] w fun en w' => en = .returned (.bool true) ∧ Two w' R G Q H zs p e ∧ Fr w w' R G Q H := by
  have HT := hid_intro h
  clear h
  go_enter Try.func14, Try.ntmps14
  go_wp2_with fail
  refine (get_u16_broken R G zs p e _ (HT.out.al _) he).mono ?_
  rintro en w1 ⟨rfl, hr, hg⟩
  have HG1 := hid_intro (grown_al hg)
  have HR1 := hid_intro hr
  clear hr hg
  go_wp2_with fail
  refine (rnum_broken Q H zs p e 2 _ (HT.out.ref HG1.out) he).mono ?_
  rintro en w2 ⟨rfl, rfl⟩
  have HN := hid_intro (HT.out.next HG1.out HR1.out (Qt.grown (Qt.refl _) _) (HT.out.ref HG1.out))
  go_wp2
  go_ret
  exact ⟨rfl, HN.out⟩

set_option maxHeartbeats 1000000 in
theorem step3_ok (R G Q H : Nat) (zs : List Int) (p : Nat) (N : Int) (S : Bool) (w : World) (h : Two w R G Q H zs p 0) (hbt : Bt zs) (hp : p + 4 ≤ zs.length) :
    Calls Try.prog 14 #[.agg #[.int .i64 3, .int .i64 N, .bool S], .pointer (some ⟨R, 0, none⟩), .pointer (some ⟨Q, 0, none⟩)] w fun en w' => en = .returned (.bool true) ∧ Two w' R G Q H zs (p + 4) 0 ∧ Fr w w' R G Q H := by
  have HT := hid_intro h
  have HB := hid_intro hbt
  obtain ⟨v, hv⟩ : ∃ v, le 4 (zs.drop p) = v := ⟨_, rfl⟩
  have hvl : v < 4294967296 := by rw [← hv]; exact le_lt 4 _ (hbt.drop p)
  have HV := hid_intro hv
  clear h hbt hv
  go_enter Try.func14, Try.ntmps14
  go_wp2_with fail
  refine (get_u32_ok R G zs p _ (HT.out.al _) HB.out hp).mono ?_
  rintro en w1 ⟨rfl, hr, hg⟩
  rw [HV.out]
  have HG1 := hid_intro (grown_al hg)
  have HR1 := hid_intro hr
  clear hr hg
  go_wp2_with fail
  refine (rnum_ok Q H zs p 4 _ (HT.out.ref HG1.out) HB.out (by omega) hp).mono ?_
  rintro en w2 ⟨rfl, hr, hg⟩
  rw [HV.out]
  have HN := hid_intro (HT.out.next HG1.out HR1.out hg hr)
  clear hr hg
  go_wp2
  go_ret
  exact ⟨ret_true (by simp), HN.out⟩

set_option maxHeartbeats 1000000 in
theorem step3_short (R G Q H : Nat) (zs : List Int) (p : Nat) (N : Int) (S : Bool) (w : World) (h : Two w R G Q H zs p 0) (hp : zs.length < p + 4) :
    Calls Try.prog 14 #[.agg #[.int .i64 3, .int .i64 N, .bool S], .pointer (some ⟨R, 0, none⟩), .pointer (some ⟨Q, 0, none⟩)] w fun en w' => en = .returned (.bool true) ∧ Two w' R G Q H zs p 10 ∧ Fr w w' R G Q H := by
  have HT := hid_intro h
  clear h
  go_enter Try.func14, Try.ntmps14
  go_wp2_with fail
  refine (get_u32_short R G zs p _ (HT.out.al _) hp).mono ?_
  rintro en w1 ⟨rfl, hr, hg⟩
  have HG1 := hid_intro (grown_al hg)
  have HR1 := hid_intro hr
  clear hr hg
  go_wp2_with fail
  refine (rnum_short Q H zs p 4 _ (HT.out.ref HG1.out) (by omega) hp).mono ?_
  rintro en w2 ⟨rfl, hr, hg⟩
  have HN := hid_intro (HT.out.next HG1.out HR1.out hg hr)
  clear hr hg
  go_wp2
  go_ret
  exact ⟨rfl, HN.out⟩

set_option maxHeartbeats 1000000 in
theorem step3_broken (R G Q H : Nat) (zs : List Int) (p : Nat) (e N : Int) (S : Bool) (w : World) (h : Two w R G Q H zs p e) (he : (e == 0) = false) :
    Calls Try.prog 14 #[.agg #[.int .i64 3, .int .i64 N, .bool S], .pointer (some ⟨R, 0, none⟩), .pointer (some ⟨Q, 0, none⟩)] w fun en w' => en = .returned (.bool true) ∧ Two w' R G Q H zs p e ∧ Fr w w' R G Q H := by
  have HT := hid_intro h
  clear h
  go_enter Try.func14, Try.ntmps14
  go_wp2_with fail
  refine (get_u32_broken R G zs p e _ (HT.out.al _) he).mono ?_
  rintro en w1 ⟨rfl, hr, hg⟩
  have HG1 := hid_intro (grown_al hg)
  have HR1 := hid_intro hr
  clear hr hg
  go_wp2_with fail
  refine (rnum_broken Q H zs p e 4 _ (HT.out.ref HG1.out) he).mono ?_
  rintro en w2 ⟨rfl, rfl⟩
  have HN := hid_intro (HT.out.next HG1.out HR1.out (Qt.grown (Qt.refl _) _) (HT.out.ref HG1.out))
  go_wp2
  go_ret
  exact ⟨rfl, HN.out⟩

set_option maxHeartbeats 1000000 in
theorem step4_ok (R G Q H : Nat) (zs : List Int) (p : Nat) (N : Int) (S : Bool) (w : World) (h : Two w R G Q H zs p 0) (hbt : Bt zs) (hp : p + 8 ≤ zs.length) :
    Calls Try.prog 14 #[.agg #[.int .i64 4, .int .i64 N, .bool S], .pointer (some ⟨R, 0, none⟩), .pointer (some ⟨Q, 0, none⟩)] w fun en w' => en = .returned (.bool true) ∧ Two w' R G Q H zs (p + 8) 0 ∧ Fr w w' R G Q H := by
  have HT := hid_intro h
  have HB := hid_intro hbt
  obtain ⟨v, hv⟩ : ∃ v, le 8 (zs.drop p) = v := ⟨_, rfl⟩
  have hvl : v < 18446744073709551616 := by rw [← hv]; exact le_lt 8 _ (hbt.drop p)
  have HV := hid_intro hv
  clear h hbt hv
  go_enter Try.func14, Try.ntmps14
  go_wp2_with fail
  refine (get_u64_ok R G zs p _ (HT.out.al _) HB.out hp).mono ?_
  rintro en w1 ⟨rfl, hr, hg⟩
  rw [HV.out]
  have HG1 := hid_intro (grown_al hg)
  have HR1 := hid_intro hr
  clear hr hg
  go_wp2_with fail
  refine (rnum_ok Q H zs p 8 _ (HT.out.ref HG1.out) HB.out (by omega) hp).mono ?_
  rintro en w2 ⟨rfl, hr, hg⟩
  rw [HV.out]
  have HN := hid_intro (HT.out.next HG1.out HR1.out hg hr)
  clear hr hg
  go_wp2
  go_ret
  exact ⟨ret_true (by simp), HN.out⟩

set_option maxHeartbeats 1000000 in
theorem step4_short (R G Q H : Nat) (zs : List Int) (p : Nat) (N : Int) (S : Bool) (w : World) (h : Two w R G Q H zs p 0) (hp : zs.length < p + 8) :
    Calls Try.prog 14 #[.agg #[.int .i64 4, .int .i64 N, .bool S], .pointer (some ⟨R, 0, none⟩), .pointer (some ⟨Q, 0, none⟩)] w fun en w' => en = .returned (.bool true) ∧ Two w' R G Q H zs p 10 ∧ Fr w w' R G Q H := by
  have HT := hid_intro h
  clear h
  go_enter Try.func14, Try.ntmps14
  go_wp2_with fail
  refine (get_u64_short R G zs p _ (HT.out.al _) hp).mono ?_
  rintro en w1 ⟨rfl, hr, hg⟩
  have HG1 := hid_intro (grown_al hg)
  have HR1 := hid_intro hr
  clear hr hg
  go_wp2_with fail
  refine (rnum_short Q H zs p 8 _ (HT.out.ref HG1.out) (by omega) hp).mono ?_
  rintro en w2 ⟨rfl, hr, hg⟩
  have HN := hid_intro (HT.out.next HG1.out HR1.out hg hr)
  clear hr hg
  go_wp2
  go_ret
  exact ⟨rfl, HN.out⟩

set_option maxHeartbeats 1000000 in
theorem step4_broken (R G Q H : Nat) (zs : List Int) (p : Nat) (e N : Int) (S : Bool) (w : World) (h : Two w R G Q H zs p e) (he : (e == 0) = false) :
    Calls Try.prog 14 #[.agg #[.int .i64 4, .int .i64 N, .bool S], .pointer (some ⟨R, 0, none⟩), .pointer (some ⟨Q, 0, none⟩)] w fun en w' => en = .returned (.bool true) ∧ Two w' R G Q H zs p e ∧ Fr w w' R G Q H := by
  have HT := hid_intro h
  clear h
  go_enter Try.func14, Try.ntmps14
  go_wp2_with fail
  refine (get_u64_broken R G zs p e _ (HT.out.al _) he).mono ?_
  rintro en w1 ⟨rfl, hr, hg⟩
  have HG1 := hid_intro (grown_al hg)
  have HR1 := hid_intro hr
  clear hr hg
  go_wp2_with fail
  refine (rnum_broken Q H zs p e 8 _ (HT.out.ref HG1.out) he).mono ?_
  rintro en w2 ⟨rfl, rfl⟩
  have HN := hid_intro (HT.out.next HG1.out HR1.out (Qt.grown (Qt.refl _) _) (HT.out.ref HG1.out))
  go_wp2
  go_ret
  exact ⟨rfl, HN.out⟩

set_option maxHeartbeats 1000000 in
theorem step9_ok (R G Q H : Nat) (zs : List Int) (p : Nat) (N : Int) (S : Bool) (w : World) (h : Two w R G Q H zs p 0) (hbt : Bt zs) (hp : p + 2 ≤ zs.length) :
    Calls Try.prog 14 #[.agg #[.int .i64 9, .int .i64 N, .bool S], .pointer (some ⟨R, 0, none⟩), .pointer (some ⟨Q, 0, none⟩)] w fun en w' => en = .returned (.bool true) ∧ Two w' R G Q H zs (p + 2) 0 ∧ Fr w w' R G Q H := by
  have HT := hid_intro h
  have HB := hid_intro hbt
  obtain ⟨v, hv⟩ : ∃ v, le 2 (zs.drop p) = v := ⟨_, rfl⟩
  have hvl : v < 65536 := by rw [← hv]; exact le_lt 2 _ (hbt.drop p)
  have HV := hid_intro hv
  clear h hbt hv
  go_enter Try.func14, Try.ntmps14
  go_wp2_with fail
  refine (get_word_ok R G zs p _ (HT.out.al _) HB.out hp).mono ?_
  rintro en w1 ⟨rfl, hr, hg⟩
  rw [HV.out]
  have HG1 := hid_intro (grown_al hg)
  have HR1 := hid_intro hr
  clear hr hg
  go_wp2_with fail
  refine (rnum_ok Q H zs p 2 _ (HT.out.ref HG1.out) HB.out (by omega) hp).mono ?_
  rintro en w2 ⟨rfl, hr, hg⟩
  rw [HV.out]
  have HN := hid_intro (HT.out.next HG1.out HR1.out hg hr)
  clear hr hg
  go_wp2
  go_ret
  exact ⟨ret_true (by simp), HN.out⟩

set_option maxHeartbeats 1000000 in
theorem step9_short (R G Q H : Nat) (zs : List Int) (p : Nat) (N : Int) (S : Bool) (w : World) (h : Two w R G Q H zs p 0) (hp : zs.length < p + 2) :
    Calls Try.prog 14 #[.agg #[.int .i64 9, .int .i64 N, .bool S], .pointer (some ⟨R, 0, none⟩), .pointer (some ⟨Q, 0, none⟩)] w fun en w' => en = .returned (.bool true) ∧ Two w' R G Q H zs p 10 ∧ Fr w w' R G Q H := by
  have HT := hid_intro h
  clear h
  go_enter Try.func14, Try.ntmps14
  go_wp2_with fail
  refine (get_word_short R G zs p _ (HT.out.al _) hp).mono ?_
  rintro en w1 ⟨rfl, hr, hg⟩
  have HG1 := hid_intro (grown_al hg)
  have HR1 := hid_intro hr
  clear hr hg
  go_wp2_with fail
  refine (rnum_short Q H zs p 2 _ (HT.out.ref HG1.out) (by omega) hp).mono ?_
  rintro en w2 ⟨rfl, hr, hg⟩
  have HN := hid_intro (HT.out.next HG1.out HR1.out hg hr)
  clear hr hg
  go_wp2
  go_ret
  exact ⟨rfl, HN.out⟩

set_option maxHeartbeats 1000000 in
theorem step9_broken (R G Q H : Nat) (zs : List Int) (p : Nat) (e N : Int) (S : Bool) (w : World) (h : Two w R G Q H zs p e) (he : (e == 0) = false) :
    Calls Try.prog 14 #[.agg #[.int .i64 9, .int .i64 N, .bool S], .pointer (some ⟨R, 0, none⟩), .pointer (some ⟨Q, 0, none⟩)] w fun en w' => en = .returned (.bool true) ∧ Two w' R G Q H zs p e ∧ Fr w w' R G Q H := by
  have HT := hid_intro h
  clear h
  go_enter Try.func14, Try.ntmps14
  go_wp2_with fail
  refine (get_word_broken R G zs p e _ (HT.out.al _) he).mono ?_
  rintro en w1 ⟨rfl, hr, hg⟩
  have HG1 := hid_intro (grown_al hg)
  have HR1 := hid_intro hr
  clear hr hg
  go_wp2_with fail
  refine (rnum_broken Q H zs p e 2 _ (HT.out.ref HG1.out) he).mono ?_
  rintro en w2 ⟨rfl, rfl⟩
  have HN := hid_intro (HT.out.next HG1.out HR1.out (Qt.grown (Qt.refl _) _) (HT.out.ref HG1.out))
  go_wp2
  go_ret
  exact ⟨rfl, HN.out⟩

end Go.Proofs.Ythebdbdahdegfaa
