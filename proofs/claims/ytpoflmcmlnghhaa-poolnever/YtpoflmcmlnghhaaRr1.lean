import Derived.Test.YtpoflmcmlnghhaaPl8
namespace Go.Proofs.Ytpoflmcmlnghhaa
open Go.RowKit Go.Maps

set_option maxHeartbeats 2000000 in
set_option maxRecDepth 100000 in
/-- The document's rises. -/
theorem rises_any (a : Option Addr) (n cap : Nat) (c : Int) (L : List Int) (w : World) (hl : Nt w a L) (hn : L.length = n) (hm : n ≤ 9223372036854775806) :
    Calls Try.prog 45 #[.slice a n cap, .int .i64 c] w fun en w' => en = .returned (.bool (rp 1 c L)) ∧ Qt w w' := by
  have HL := hid_intro hl
  clear hl
  go_enter Try.func45, Try.ntmps45
  go_wp2
  go_loopw [5] (fun si wr => ∃ (i : Nat) (last : Int), i ≤ n ∧ si = .int .i64 i ∧ rp 1 c L = rp last c (L.drop i) ∧ (i = 0 → last = 1) ∧ (0 < i → last = L.getD (i - 1) 0 ∧ 2 ≤ last) ∧ Qt w wr) (fun si _ => n - (zOf si).toNat)
  case atStart => exact ⟨0, 1, Nat.zero_le _, rfl, rfl, fun _ => rfl, fun h => by omega, Qt.refl _⟩
  case round =>
    obtain ⟨i, last, hi, rfl, hr, h0, h1, hq⟩ := hrel
    have HQ := hid_intro hq
    clear hq
    by_cases hlt : i < n
    · obtain ⟨b, off, rfl, q0⟩ := HL.out.row i (by omega)
      have c0 := (HQ.out.cell _).trans q0
      have HR : Hid (rp 1 c L = (decide (last < L.getD i 0) && decide (L.getD i 0 < c) && rp (L.getD i 0) c (L.drop (i + 1)))) := by
        show _ = _
        rw [hr, drop_cons (by omega)]
        rfl
      have g1 : (i : Int) < (n : Int) := by omega
      have g0 : (0 : Int) ≤ (i : Int) := by omega
      have HX : Hid (L.getD (i + 1 - 1) 0 = L.getD i 0) := by show _ = _; rw [Nat.add_sub_cancel]
      rcases Nat.eq_zero_or_pos i with hz | hpos
      · have hl1 := h0 hz
        subst hl1
        have gp : decide (0 < i) = false := by simp; omega
        have gp2 : decide ((0 : Int) < (i : Int)) = false := by simp; omega
        clear h0 h1 hr q0 hz
        generalize L.getD i 0 = x at *
        by_cases e1 : x < 2
        · have d1 : decide (x < 2) = true := by simp [e1]
          have HE : Hid (rp 1 c L = false) := by show _ = _; rw [HR.out]; simp [show ¬ 1 < x by omega]
          clear HR e1
          go_wp2
          go_quiet (fail)
          go_wp2
          go_ret
          exact ⟨by rw [HE.out]; rfl, HQ.out.trans (Qt.drewN _ _)⟩
        · have d1 : decide (x < 2) = false := by simp; omega
          by_cases e2 : c ≤ x
          · have d2 : decide (c ≤ x) = true := by simp [e2]
            have HE : Hid (rp 1 c L = false) := by show _ = _; rw [HR.out]; simp [show ¬ x < c by omega]
            clear HR e1 e2
            go_wp2
            go_quiet (fail)
            go_wp2
            go_ret
            exact ⟨by rw [HE.out]; rfl, HQ.out.trans (Qt.drewN _ _)⟩
          · have d2 : decide (c ≤ x) = false := by simp; omega
            have HE : Hid (rp 1 c L = rp x c (L.drop (i + 1))) := by show _ = _; rw [HR.out]; simp [show 1 < x by omega, show x < c by omega]
            have hx2 : 2 ≤ x := by omega
            clear HR e1 e2
            go_wp2
            go_quiet (fail)
            go_wp2
            go_roundw
            case rel => exact ⟨i + 1, x, by omega, by go_num, HE.out, fun h => by omega, fun _ => ⟨HX.out.symm, hx2⟩, HQ.out.trans (Qt.drewN _ _)⟩
            case measure => simp [zOf]; omega
      · obtain ⟨hl1, hl2⟩ := h1 hpos
        obtain ⟨j, hj⟩ : ∃ j, j = i - 1 := ⟨_, rfl⟩
        rw [← hj] at hl1
        obtain ⟨b2, off2, e2, q1⟩ := HL.out.row j (by omega)
        simp only [Option.some.injEq, Addr.mk.injEq] at e2
        obtain ⟨rfl, rfl, _⟩ := e2
        have c1 := (HQ.out.cell _).trans q1
        rw [← hl1] at c1
        have hij : (i : Int) - 1 = (j : Int) := by omega
        have hwk : IntKind.i64.wrap (j : Int) = (j : Int) := by simp [IntKind.wrap, IntKind.signed, IntKind.bits]; omega
        have g3 : (j : Int) < (n : Int) := by omega
        have g2 : (0 : Int) ≤ (j : Int) := by omega
        have gp : decide (0 < i) = true := by simp [hpos]
        have gp2 : decide ((0 : Int) < (i : Int)) = true := by simp; omega
        have HP := hid_intro hpos
        clear h0 h1 hr q0 q1 hl1 hj hpos
        generalize L.getD i 0 = x at *
        by_cases e1 : x < 2
        · have d1 : decide (x < 2) = true := by simp [e1]
          have HE : Hid (rp 1 c L = false) := by show _ = _; rw [HR.out]; simp [show ¬ last < x by omega]
          clear HR e1 hl2
          go_wp2
          go_quiet (fail)
          go_wp2
          go_ret
          exact ⟨by rw [HE.out]; rfl, HQ.out.trans (Qt.drewN _ _)⟩
        · have d1 : decide (x < 2) = false := by simp; omega
          by_cases e2 : c ≤ x
          · have d2 : decide (c ≤ x) = true := by simp [e2]
            have HE : Hid (rp 1 c L = false) := by show _ = _; rw [HR.out]; simp [show ¬ x < c by omega]
            clear HR e1 e2 hl2
            go_wp2
            go_quiet (fail)
            go_wp2
            go_ret
            exact ⟨by rw [HE.out]; rfl, HQ.out.trans (Qt.drewN _ _)⟩
          · have d2 : decide (c ≤ x) = false := by simp; omega
            by_cases e3 : x ≤ last
            · have d3 : decide (x ≤ last) = true := by simp [e3]
              have HE : Hid (rp 1 c L = false) := by show _ = _; rw [HR.out]; simp [show ¬ last < x by omega]
              clear HR e1 e2 e3 hl2
              go_wp2
              go_quiet (fail)
              go_wp2
              go_ret
              exact ⟨by rw [HE.out]; rfl, HQ.out.trans (Qt.drewN _ _)⟩
            · have d3 : decide (x ≤ last) = false := by simp; omega
              have HE : Hid (rp 1 c L = rp x c (L.drop (i + 1))) := by show _ = _; rw [HR.out]; simp [show last < x by omega, show x < c by omega]
              have hx2 : Hid (2 ≤ x) := by show 2 ≤ x; omega
              clear HR e1 e2 e3 hl2
              go_wp2
              go_quiet (fail)
              go_wp2
              go_roundw
              case rel => exact ⟨i + 1, x, by omega, by go_num, HE.out, fun h => by omega, fun _ => ⟨HX.out.symm, hx2.out⟩, HQ.out.trans (Qt.drewN _ _)⟩
              case measure => simp [zOf]; omega
    · have hin : i = n := by omega
      have HE : Hid (rp 1 c L = true) := by
        show _ = _
        rw [hr, List.drop_of_length_le (by omega)]
        rfl
      clear h0 h1 hr
      subst hin
      go_wp2
      go_ret
      exact ⟨by rw [HE.out]; rfl, HQ.out⟩
end Go.Proofs.Ytpoflmcmlnghhaa
