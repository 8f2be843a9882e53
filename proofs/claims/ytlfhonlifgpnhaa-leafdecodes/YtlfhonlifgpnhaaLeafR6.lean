import Derived.Test.YtlfhonlifgpnhaaLeaf8
import Derived.Test.YtlfhonlifgpnhaaRefB
import Derived.Test.YtlfhonlifgpnhaaRefW
namespace Go.Proofs.Ytlfhonlifgpnhaa
open Go.RowKit

/-! ### The reference's reader: one contract a call -/

theorem rr_V (R G : Nat) (zs : List Int) (s : Nat × Int) (w : World) (h : Rr w R G zs s.1 s.2) (hbt : Bt zs) :
    Calls Try.prog 53 #[.pointer (some ⟨R, 0, none⟩)] w fun en w' => en = .returned (.int .u64 ((sV zs s).1 : Nat)) ∧ Rr w' R G zs (sV zs s).2.1 (sV zs s).2.2 ∧ w.grownBy w' (some R) := by
  obtain ⟨p, e⟩ := s
  by_cases he : e = 0
  · subst he
    by_cases h0 : (rv (zs.drop p)).2.2 = 0
    · have e1 : sV zs (p, 0) = ((rv (zs.drop p)).1, (p + (rv (zs.drop p)).2.1, 0)) := by unfold sV; rw [if_pos rfl, if_pos h0]
      rw [e1]
      exact refV_ok R G zs p _ _ w h hbt (by rw [← h0])
    · have e1 : sV zs (p, 0) = (0, (p, (rv (zs.drop p)).2.2)) := by unfold sV; rw [if_pos rfl, if_neg h0]
      rw [e1]
      refine refV_bad R G zs p _ w h hbt ?_ h0
      rcases scan_err 10 0 0 (zs.drop p) with h1 | h1 | h1 | h1
      · exact absurd h1 h0
      · show rv _ = _; unfold rv; rw [h1]
      · show rv _ = _; unfold rv; rw [h1]
      · show rv _ = _; unfold rv; rw [h1]
  · have e1 : sV zs (p, e) = (0, (p, e)) := by unfold sV; rw [if_neg he]
    rw [e1]
    refine (refV_broken R G zs p e w h (by simpa using he)).mono ?_
    rintro en w' ⟨rfl, rfl⟩
    exact ⟨rfl, h, World.grownBy.refl _ _⟩

theorem rr_B (R G : Nat) (zs : List Int) (s : Nat × Int) (m : Int) (w : World) (h : Rr w R G zs s.1 s.2) :
    Calls Try.prog 54 #[.pointer (some ⟨R, 0, none⟩), .int .i64 m] w fun en w' => (∃ ao k c, en = .returned (.slice ao k c) ∧ Byt w' ao k c (sB zs s m).1 ∧ k ≤ zs.length ∧ k ≤ c ∧ c ≤ zs.length ∧ (∀ ad, ao = some ad → 0 < k → w.heap.size ≤ ad.block ∧ ∃ cur, w'.heap[ad.block]? = some (.cells cur 5 (0, 0)))) ∧ Rr w' R G zs (sB zs s m).2.1 (sB zs s m).2.2 ∧ w.grownBy w' (some R) := by
  obtain ⟨p, e⟩ := s
  by_cases he : e = 0
  · subst he
    have hp : p ≤ zs.length := h.le
    by_cases h0 : m < 0 ∨ (zs.length : Int) - p < m
    · have e1 : sB zs (p, 0) m = ([], (p, 10)) := by unfold sB; rw [if_pos rfl, if_pos h0]
      rw [e1]
      rcases h0 with h0 | h0
      · refine (rbytes_neg R G zs p m w h h0).mono ?_
        rintro en w' ⟨rfl, h1, h2⟩
        exact ⟨⟨_, _, _, rfl, Byt.zero _ _, by omega, by omega, by omega, fun _ _ h => by omega⟩, h1, h2⟩
      · refine (rbytes_short R G zs p m w h h0).mono ?_
        rintro en w' ⟨rfl, h1, h2⟩
        exact ⟨⟨_, _, _, rfl, Byt.zero _ _, by omega, by omega, by omega, fun _ _ h => by omega⟩, h1, h2⟩
    · have e1 : sB zs (p, 0) m = ((zs.drop p).take m.toNat, (p + m.toNat, 0)) := by unfold sB; rw [if_pos rfl, if_neg h0]
      rw [e1]
      obtain ⟨k, rfl⟩ : ∃ k : Nat, m = (k : Int) := ⟨m.toNat, by omega⟩
      rw [Int.toNat_natCast]
      refine (rbytes_new R G zs p k w h (by omega)).mono ?_
      rintro en w' ⟨ao, rfl, h2, h3, h4, h5⟩
      exact ⟨⟨ao, k, k, rfl, h2, by omega, Nat.le_refl _, by omega, fun ad e _ => h5 ad e⟩, h3, h4⟩
  · have e1 : sB zs (p, e) m = ([], (p, e)) := by unfold sB; rw [if_neg he]
    rw [e1]
    refine (rbytes_broken R G zs p e m w h (by simpa using he)).mono ?_
    rintro en w' ⟨rfl, rfl⟩
    exact ⟨⟨_, _, _, rfl, Byt.zero _ _, by omega, by omega, by omega, fun _ _ h => by omega⟩, h, World.grownBy.refl _ _⟩

theorem rr_N (R G : Nat) (zs : List Int) (s : Nat × Int) (k : Nat) (w : World) (h : Rr w R G zs s.1 s.2) (hbt : Bt zs) (hk : k ≤ 8) :
    Calls Try.prog 52 #[.pointer (some ⟨R, 0, none⟩), .int .i64 k] w fun en w' => en = .returned (.int .u64 ((sN zs s k).1 : Nat)) ∧ Rr w' R G zs (sN zs s k).2.1 (sN zs s k).2.2 ∧ w.grownBy w' (some R) := by
  obtain ⟨p, e⟩ := s
  by_cases he : e = 0
  · subst he
    by_cases h0 : zs.length < p + k
    · have e1 : sN zs (p, 0) k = (0, (p, 10)) := by unfold sN; rw [if_pos rfl, if_pos h0]
      rw [e1]
      exact rnum_short R G zs p k w h hk h0
    · have e1 : sN zs (p, 0) k = (le k (zs.drop p), (p + k, 0)) := by unfold sN; rw [if_pos rfl, if_neg h0]
      rw [e1]
      exact rnum_ok R G zs p k w h hbt hk (by omega)
  · have e1 : sN zs (p, e) k = (0, (p, e)) := by unfold sN; rw [if_neg he]
    rw [e1]
    refine (rnum_broken R G zs p e k w h (by simpa using he)).mono ?_
    rintro en w' ⟨rfl, rfl⟩
    exact ⟨rfl, h, World.grownBy.refl _ _⟩
end Go.Proofs.Ytlfhonlifgpnhaa
