import Derived.Test.YtlfhonlifgpnhaaLeast
namespace Go.Proofs.Ytlfhonlifgpnhaa
open Go.RowKit

/-- readLeast of what is left. -/
theorem readLeast_any (ao : Option Addr) (G p n : Nat) (zs : List Int) (w : World) (hm : n ≤ 1099511627776) (hl : zs.length = n) (hao : 0 < n → ao = some ⟨G, p, none⟩) (hb : Byt w (some ⟨G, p, none⟩) n n zs) (hbt : Bt zs) :
    Calls Try.prog 84 #[.slice ao n n] w fun en w' => en = .returned (.tuple #[.int .u64 (rv zs).1, .int .i64 (rv zs).2.1, .int .i64 (rv zs).2.2]) ∧ w' = w := by
  rcases Nat.eq_zero_or_pos n with h | h
  · subst h
    have : zs = [] := List.length_eq_zero_iff.1 hl
    subst this
    exact readLeast_none ao 0 w
  · rw [hao h]; exact readLeast_some G p n n zs w (Nat.le_refl _) hm h hb hbt

set_option maxHeartbeats 400000 in
theorem v_broken (R G : Nat) (zs : List Int) (p : Nat) (e : Int) (w : World) (h : Rd w R G zs p e) (he : (e == 0) = false) :
    Calls Try.prog 68 #[.pointer (some ⟨R, 0, none⟩)] w fun en w' => en = .returned (.int .u64 0) ∧ Rd w' R G zs p e ∧ w.grownBy w' (some R) := by
  have HR : Hid (Rd w R G zs p e) := h
  clear h
  go_enter Try.func68, Try.ntmps68
  go_wp2_with fail
  refine (rest_broken R G zs p e _ HR.out he).mono ?_
  rintro en w1 ⟨rfl, hq⟩
  have HR1 : Hid (Rd w1 R G zs p e) := HR.out.qt hq
  have HQ : Hid (Qt w w1) := hq
  clear hq
  go_wp2_with fail
  refine (readLeast_none none 0 _).mono ?_
  rintro en w2 ⟨rfl, rfl⟩
  go_wp2_with fail
  refine (breakBy_broken R G zs p e 10 _ HR1.out he).mono ?_
  rintro en w2 ⟨rfl, rfl⟩
  go_wp2
  go_ret
  exact ⟨rfl, HR1.out, HQ.out.grown _⟩

set_option maxHeartbeats 400000 in
/-- V of a whole reader, whose bytes are no number. -/
theorem v_bad (R G : Nat) (zs : List Int) (p : Nat) (er : Int) (w : World) (h : Rd w R G zs p 0) (hbt : Bt zs) (hv : rv (zs.drop p) = (0, 0, er)) (he : (er != 0) = true) :
    Calls Try.prog 68 #[.pointer (some ⟨R, 0, none⟩)] w fun en w' => en = .returned (.int .u64 0) ∧ Rd w' R G zs p er ∧ w.grownBy w' (some R) := by
  have HR : Hid (Rd w R G zs p 0) := h
  have HV : Hid (rv (zs.drop p) = (0, 0, er)) := hv
  clear h hv
  go_enter Try.func68, Try.ntmps68
  go_wp2_with fail
  refine (rest_whole R G zs p _ HR.out).mono ?_
  rintro en w1 ⟨ao, rfl, hao, hq⟩
  have HR1 : Hid (Rd w1 R G zs p 0) := HR.out.qt hq
  have HQ : Hid (Qt w w1) := hq
  have HO : Hid (p < zs.length → ao = some ⟨G, p, none⟩) := hao
  clear hq hao
  go_wp2_with fail
  have hby : Byt w1 (some ⟨G, p, none⟩) (zs.length - p) (zs.length - p) (zs.drop p) := by
    have := HR1.out.rest (zs.length - p) (zs.length - p) (by have := HR1.out.le; omega)
    rwa [List.take_of_length_le (by simp)] at this
  refine (readLeast_any ao G p (zs.length - p) (zs.drop p) _ (by have := HR1.out.max; omega) (by simp) (fun h => HO.out (by omega)) hby (hbt.drop p)).mono ?_
  rintro en w2 ⟨rfl, rfl⟩
  rw [HV.out]
  clear hby
  go_wp2_with fail
  refine (breakBy_whole R G zs p er _ HR1.out).mono ?_
  rintro en w3 ⟨rfl, hr, hg⟩
  have HR3 : Hid (Rd w3 R G zs p er) := hr
  have HG3 : Hid (w2.grownBy w3 (some R)) := hg
  clear hr hg
  go_wp2
  go_ret
  exact ⟨rfl, HR3.out, grown_trans (HQ.out.grown _) HG3.out⟩

set_option maxHeartbeats 400000 in
/-- V of a whole reader, whose bytes are a number. -/
theorem v_ok (R G : Nat) (zs : List Int) (p x n : Nat) (w : World) (h : Rd w R G zs p 0) (hbt : Bt zs) (hv : rv (zs.drop p) = (x, n, 0)) :
    Calls Try.prog 68 #[.pointer (some ⟨R, 0, none⟩)] w fun en w' => en = .returned (.int .u64 x) ∧ Rd w' R G zs (p + n) 0 ∧ w.grownBy w' (some R) := by
  have HR : Hid (Rd w R G zs p 0) := h
  have HV : Hid (rv (zs.drop p) = (x, n, 0)) := hv
  have hn := (rv_back (zs.drop p) x n (hbt.drop p) hv).2.2.2.2
  have hmx := h.max
  have hle := h.le
  rw [List.length_drop] at hn
  clear h hv
  go_enter Try.func68, Try.ntmps68
  go_wp2_with fail
  refine (rest_whole R G zs p _ HR.out).mono ?_
  rintro en w1 ⟨ao, rfl, hao, hq⟩
  have HR1 : Hid (Rd w1 R G zs p 0) := HR.out.qt hq
  have HQ : Hid (Qt w w1) := hq
  have HO : Hid (p < zs.length → ao = some ⟨G, p, none⟩) := hao
  clear hq hao
  go_wp2_with fail
  have hby : Byt w1 (some ⟨G, p, none⟩) (zs.length - p) (zs.length - p) (zs.drop p) := by
    have := HR1.out.rest (zs.length - p) (zs.length - p) (by omega)
    rwa [List.take_of_length_le (by simp)] at this
  refine (readLeast_any ao G p (zs.length - p) (zs.drop p) _ (by omega) (by simp) (fun h => HO.out (by omega)) hby (hbt.drop p)).mono ?_
  rintro en w2 ⟨rfl, rfl⟩
  rw [HV.out]
  obtain ⟨c0, c1, c2, f1, f2⟩ := HR1.out.cells
  clear hby
  go_wp2
  go_ret
  obtain ⟨r1, r2⟩ := HR1.out.setPlace (p + n) ((p : Int) + (n : Int)) (by omega) (by omega) (by omega)
  exact ⟨rfl, r1, grown_trans (HQ.out.grown _) r2⟩
end Go.Proofs.Ytlfhonlifgpnhaa
