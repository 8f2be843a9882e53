import Derived.Test.YtlfhonlifgpnhaaRefR
import Derived.Test.YtlfhonlifgpnhaaLens
namespace Go.Proofs.Ytlfhonlifgpnhaa
open Go.RowKit

/-- The digits' number. -/
def dv : List Int → Nat
  | [] => 0
  | z :: zs => (z % 128).toNat + 128 * dv zs

theorem dv_lf : ∀ (f x : Nat), x < 128 ^ f → dv (lf f x) = x
  | 0, x, h => by simp at h; subst h; rfl
  | f + 1, x, h => by
    by_cases hs : x < 128
    · rw [lf_small f x hs]; simp [dv]; omega
    · rw [lf_big f x hs, dv, dv_lf f (x / 128) (by rw [Nat.pow_succ] at h; omega)]
      have : ((x % 128 + 128 : Nat) : Int) % 128 = ((x % 128 : Nat) : Int) := by omega
      rw [this, Int.toNat_natCast]; omega

theorem dv_at (ys : List Int) (j : Nat) (h : j < ys.length) : dv (ys.drop j) = (ys.getD j 0 % 128).toNat + 128 * dv (ys.drop (j + 1)) := by
  rw [List.drop_eq_getElem_cons h, dv]
  simp [List.getD, List.getElem?_eq_getElem h]

theorem dv_lt : ∀ ys : List Int, dv ys < 128 ^ ys.length
  | [] => by simp [dv]
  | z :: zs => by
    have := dv_lt zs
    rw [dv, List.length_cons, Nat.pow_succ]; omega

/-- How a V's bytes look: k bytes of 128 and more, and what is behind them. -/
theorem rv_shape (ys : List Int) : ∃ k, k ≤ 10 ∧ k ≤ ys.length ∧ (∀ i, i < k → 128 ≤ ys.getD i 0) ∧
    ((k = 10 ∧ rv ys = (0, 0, 12)) ∨ (k < 10 ∧ k = ys.length ∧ rv ys = (0, 0, 10)) ∨ (k < 10 ∧ k < ys.length ∧ ys.getD k 0 < 128 ∧ ∃ a, rv ys = endL a k (ys.getD k 0))) := by
  have main : ∀ (n k a : Nat), k + n = 10 → k ≤ ys.length → (∀ i, i < k → 128 ≤ ys.getD i 0) → scan n k a (ys.drop k) = rv ys →
      ∃ k, k ≤ 10 ∧ k ≤ ys.length ∧ (∀ i, i < k → 128 ≤ ys.getD i 0) ∧ ((k = 10 ∧ rv ys = (0, 0, 12)) ∨ (k < 10 ∧ k = ys.length ∧ rv ys = (0, 0, 10)) ∨ (k < 10 ∧ k < ys.length ∧ ys.getD k 0 < 128 ∧ ∃ a, rv ys = endL a k (ys.getD k 0))) := by
    intro n
    induction n with
    | zero => intro k a h1 h2 h3 h4; exact ⟨k, by omega, h2, h3, Or.inl ⟨by omega, by rw [← h4]; rfl⟩⟩
    | succ n ih =>
      intro k a h1 h2 h3 h4
      by_cases hl : k < ys.length
      · have hd : ys.drop k = ys.getD k 0 :: ys.drop (k + 1) := by
          rw [List.drop_eq_getElem_cons hl]; simp [List.getD, List.getElem?_eq_getElem hl]
        rw [hd, scan] at h4
        by_cases hz : ys.getD k 0 < 128
        · rw [if_pos hz] at h4
          exact ⟨k, by omega, h2, h3, Or.inr (Or.inr ⟨by omega, hl, hz, a, h4.symm⟩)⟩
        · rw [if_neg hz] at h4
          refine ih (k + 1) _ (by omega) (by omega) ?_ h4
          intro i hi
          by_cases e : i = k
          · subst e; omega
          · exact h3 i (by omega)
      · have hd : ys.drop k = [] := List.drop_eq_nil_of_le (by omega)
        rw [hd] at h4
        exact ⟨k, by omega, h2, h3, Or.inr (Or.inl ⟨by omega, by omega, by rw [← h4]; rfl⟩)⟩
  exact main 10 0 0 rfl (Nat.zero_le _) (fun i hi => by omega) rfl

set_option maxHeartbeats 400000 in
theorem refV_broken (R G : Nat) (zs : List Int) (p : Nat) (e : Int) (w : World) (h : Rr w R G zs p e) (he : (e == 0) = false) :
    Calls Try.prog 53 #[.pointer (some ⟨R, 0, none⟩)] w fun en w' => en = .returned (.int .u64 0) ∧ w' = w := by
  obtain ⟨c0, c1, c2, f1, f2⟩ := h.cells
  have he' : (e != 0) = true := by simpa using he
  clear h
  go_enter Try.func53, Try.ntmps53
  go_wp2
  go_ret
  exact ⟨rfl, rfl⟩

set_option maxHeartbeats 2000000 in
set_option maxRecDepth 100000 in
theorem refV_bad (R G : Nat) (zs : List Int) (p : Nat) (er : Int) (w : World) (h : Rr w R G zs p 0) (hbt : Bt zs) (hv : rv (zs.drop p) = (0, 0, er)) (her : er ≠ 0) :
    Calls Try.prog 53 #[.pointer (some ⟨R, 0, none⟩)] w fun en w' => en = .returned (.int .u64 0) ∧ Rr w' R G zs p er ∧ w.grownBy w' (some R) := by
  have HR : Hid (Rr w R G zs p 0) := h
  obtain ⟨c0, c1, c2, f1, f2⟩ := h.cells
  have h1 := h.le
  have h2 := h.max
  have hp : (p : Int) ≤ (zs.length : Int) := by omega
  have HBY : Hid (∀ i, p ≤ i → i < zs.length → w.cell? ⟨G, i, none⟩ = some (.int .u8 (zs.getD i 0))) := h.bytes
  have HB : Hid (Bt zs) := hbt
  obtain ⟨n, hn10, hnl, hhi, hcase⟩ := rv_shape (zs.drop p)
  rw [List.length_drop] at hnl hcase
  have HHI : Hid (∀ i, i < n → 128 ≤ (zs.drop p).getD i 0) := hhi
  have HCA := hid_intro hcase
  have HV := hid_intro hv
  clear h hbt hhi hcase hv
  go_enter Try.func53, Try.ntmps53
  go_wp2
  go_quiet (fail)
  go_wp2
  go_loopw [4] (fun sn wr => ∃ k : Nat, k ≤ n ∧ sn = .int .i64 k ∧ ∃ m, wr = w.drewN m) (fun sn _ => n - (intOf sn).toNat)
  case atStart => exact ⟨0, Nat.zero_le _, rfl, _, rfl⟩
  case round =>
    obtain ⟨k, hk, rfl, m, rfl⟩ := hrel
    by_cases hlt : k < n
    · obtain ⟨z, hz⟩ : ∃ z, z = zs.getD (p + k) 0 := ⟨_, rfl⟩
      have hcell : w.cell? ⟨G, p + k, none⟩ = some (.int .u8 z) := by rw [hz]; exact HBY.out (p + k) (by omega) (by omega)
      have hz1 : 128 ≤ z := by have := HHI.out k hlt; rw [hz]; simpa [List.getD] using this
      clear hz
      have hd1 : decide ((k : Int) < (zs.length : Int) - (p : Int)) = true := by simp; omega
      have hd2 : decide ((k : Int) < 10) = true := by simp; omega
      go_wp2
      go_quiet (fail)
      go_wp2
      go_roundw
      case rel => exact ⟨k + 1, by omega, by go_num, _, rfl⟩
      case measure => simp [intOf]; omega
    · have hkn : k = n := by omega
      subst hkn
      rcases HCA.out with ⟨hk10, hr⟩ | ⟨hk10, hkl, hr⟩ | ⟨hk10, hkl, hz, a, hr⟩
      · have hd2 : decide ((k : Int) < 10) = false := by simp; omega
        have hb1 : ((k : Int) == 10) = true := by simp; omega
        have e : er = 12 := by have := HV.out; rw [hr] at this; simp at this; exact this.symm
        subst e
        clear hk10 hr
        by_cases hl : (k : Int) < (zs.length : Int) - (p : Int)
        · have hd1 : decide ((k : Int) < (zs.length : Int) - (p : Int)) = true := by simpa using hl
          go_wp2
          go_quiet (fail)
          go_wp2
          go_ret
          obtain ⟨r1, r2⟩ := (HR.out.qt (Qt.drewN w _)).setErr 12
          exact ⟨rfl, r1, grown_trans ((Qt.drewN _ _).grown _) r2⟩
        · have hd1 : decide ((k : Int) < (zs.length : Int) - (p : Int)) = false := by simpa using hl
          go_wp2
          go_quiet (fail)
          go_wp2
          go_ret
          obtain ⟨r1, r2⟩ := (HR.out.qt (Qt.drewN w _)).setErr 12
          exact ⟨rfl, r1, grown_trans ((Qt.drewN _ _).grown _) r2⟩
      · have e : er = 10 := by have := HV.out; rw [hr] at this; simp at this; exact this.symm
        subst e
        have hd1 : decide ((k : Int) < (zs.length : Int) - (p : Int)) = false := by simp; omega
        have hb1 : ((k : Int) == 10) = false := by simp; omega
        have hb2 : ((k : Int) == (zs.length : Int) - (p : Int)) = true := by simp; omega
        clear hkl
        go_wp2
        go_quiet (fail)
        go_wp2
        go_ret
        obtain ⟨r1, r2⟩ := (HR.out.qt (Qt.drewN w _)).setErr 10
        exact ⟨rfl, r1, grown_trans ((Qt.drewN _ _).grown _) r2⟩
      · obtain ⟨z, hze⟩ : ∃ z, z = zs.getD (p + k) 0 := ⟨_, rfl⟩
        have hzd : (zs.drop p).getD k 0 = z := by rw [hze]; simp [List.getD]
        rw [hzd] at hz hr
        have hcell : w.cell? ⟨G, p + k, none⟩ = some (.int .u8 z) := by rw [hze]; exact HBY.out (p + k) (by omega) (by omega)
        obtain ⟨hz0, hz255⟩ : 0 ≤ z ∧ z ≤ 255 := by rw [hze]; exact HB.out.getD _
        have he := HV.out
        rw [hr, endL] at he
        clear hze hzd
        have hd1 : decide ((k : Int) < (zs.length : Int) - (p : Int)) = true := by simp; omega
        have hd2 : decide ((k : Int) < 10) = true := by simp; omega
        have hb1 : ((k : Int) == 10) = false := by simp; omega
        have hb2 : ((k : Int) == (zs.length : Int) - (p : Int)) = false := by simp; omega
        by_cases h9 : k = 9 ∧ 1 < z
        · rw [if_pos h9] at he
          have e : er = 12 := by simp at he; exact he.symm
          subst e
          obtain ⟨hk9, hz9⟩ := h9
          have hb3 : ((k : Int) == 9) = true := by simp; omega
          clear he hr hk9
          go_wp2
          go_quiet (fail)
          go_wp2
          go_quiet (fail)
          go_wp2
          go_ret
          obtain ⟨r1, r2⟩ := (HR.out.qt (Qt.drewN w _)).setErr 12
          exact ⟨rfl, r1, grown_trans ((Qt.drewN _ _).grown _) r2⟩
        · rw [if_neg h9] at he
          by_cases h0 : 0 < k ∧ z = 0
          · rw [if_pos h0] at he
            have e : er = 11 := by simp at he; exact he.symm
            subst e
            obtain ⟨hk0, rfl⟩ := h0
            clear he hr h9
            by_cases hk9 : k = 9
            · have hb3 : ((k : Int) == 9) = true := by simp; omega
              clear hk9
              go_wp2
              go_quiet (fail)
              go_wp2
              go_quiet (fail)
              go_wp2
              go_ret
              obtain ⟨r1, r2⟩ := (HR.out.qt (Qt.drewN w _)).setErr 11
              exact ⟨rfl, r1, grown_trans ((Qt.drewN _ _).grown _) r2⟩
            · have hb3 : ((k : Int) == 9) = false := by simp; omega
              clear hk9
              go_wp2
              go_quiet (fail)
              go_wp2
              go_quiet (fail)
              go_wp2
              go_ret
              obtain ⟨r1, r2⟩ := (HR.out.qt (Qt.drewN w _)).setErr 11
              exact ⟨rfl, r1, grown_trans ((Qt.drewN _ _).grown _) r2⟩
          · rw [if_neg h0] at he
            exact absurd (by simpa using (Prod.mk.inj (Prod.mk.inj he).2).2.symm) her
end Go.Proofs.Ytlfhonlifgpnhaa
