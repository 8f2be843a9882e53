import Derived.Test.YtmdljegaggjnhaaCh1
namespace Go.Proofs.Ytmdljegaggjnhaa
open Go.RowKit

/-! ### Lists of numbers -/

/-- The slice at a reads in w as the numbers xs. -/
structure Nt (w : World) (a : Option Addr) (xs : List Int) : Prop where
  row : ∀ i, i < xs.length → ∃ b off, a = some ⟨b, off, none⟩ ∧ w.cell? ⟨b, off + i, none⟩ = some (.int .i64 (xs.getD i 0))
theorem Nt.heap {w w' : World} {a : Option Addr} {xs : List Int} (h : Nt w a xs) (e : w'.heap = w.heap) : Nt w' a xs := by
  refine ⟨fun i hi => ?_⟩
  obtain ⟨b, off, h1, h2⟩ := h.row i hi
  exact ⟨b, off, h1, (World.cell?_of_block (by rw [e])).trans h2⟩
theorem Nt.keptN {w w' : World} {a : Option Addr} {xs : List Int} (h : Nt w a xs) (hg : w.grownBy w' none) : Nt w' a xs := by
  refine ⟨fun i hi => ?_⟩
  obtain ⟨b, off, h1, h2⟩ := h.row i hi
  exact ⟨b, off, h1, hg.cell h2 (by simp)⟩
theorem Nt.kept {w w' : World} {row : Option Nat} {a : Option Addr} {xs : List Int} (h : Nt w a xs) (hg : w.grownBy w' row) (hne : ∀ ad, a = some ad → some ad.block ≠ row) : Nt w' a xs := by
  refine ⟨fun i hi => ?_⟩
  obtain ⟨b, off, h1, h2⟩ := h.row i hi
  exact ⟨b, off, h1, hg.cell h2 (hne ⟨b, off, none⟩ h1)⟩
theorem Nt.zero (w : World) (a : Option Addr) : Nt w a [] := ⟨fun i hi => by simp at hi⟩
theorem Nt.at {w : World} {b off : Nat} {xs : List Int} (h : Nt w (some ⟨b, off, none⟩) xs) (i : Nat) (hi : i < xs.length) : w.cell? ⟨b, off + i, none⟩ = some (.int .i64 (xs.getD i 0)) := by
  obtain ⟨b', off', h1, h2⟩ := h.row i hi
  simp only [Option.some.injEq, Addr.mk.injEq] at h1
  obtain ⟨rfl, rfl, _⟩ := h1
  exact h2
theorem Nt.where {w : World} {a : Option Addr} {xs : List Int} (h : Nt w a xs) (h0 : 0 < xs.length) : ∃ b off, a = some ⟨b, off, none⟩ ∧ b < w.heap.size := by
  obtain ⟨b, off, h1, h2⟩ := h.row 0 h0
  exact ⟨b, off, h1, World.block_lt_of_cell? w _ h2⟩
theorem nget_mem {xs : List Int} {i : Nat} (h : i < xs.length) : xs.getD i 0 ∈ xs := by
  simp [List.getD, List.getElem?_eq_getElem h]
theorem nall_take {xs : List Int} {i : Nat} (h : i < xs.length) (k : (xs.take i).all inR = true) (e : inR (xs.getD i 0) = true) : (xs.take (i + 1)).all inR = true := by
  have hg : xs.getD i 0 = xs[i] := by simp [List.getD, List.getElem?_eq_getElem h]
  rw [List.take_add_one, List.getElem?_eq_getElem h, List.all_append, k]
  rw [hg] at e
  simp [e]
theorem nall_no {xs : List Int} {i : Nat} (h : i < xs.length) (e : inR (xs.getD i 0) = false) : xs.all inR = false := by
  cases hh : xs.all inR with
  | false => rfl
  | true => have := List.all_eq_true.1 hh _ (nget_mem h); rw [e] at this; cases this

set_option maxHeartbeats 2000000 in
set_option maxRecDepth 100000 in
theorem index_no (a : Option Addr) (n cap : Nat) (xs : List Int) (w : World) (hl : Nt w a xs) (hn : xs.length = n) (hm : n ≤ 9223372036854775807) :
    Calls Try.prog 48 #[.slice a n cap, .func (.func 35) #[] #[]] w fun en w' => (∃ r : Int, en = .returned (.int .i64 r) ∧ (r < 0 ↔ xs.all inR = true)) ∧ w' = w := by
  have HL := hid_intro hl
  clear hl
  go_enter Try.func48, Try.ntmps48
  go_wp2
  go_loopw [5, 8] (fun _ si wr => ∃ i : Nat, i ≤ n ∧ si = .int .i64 i ∧ (xs.take i).all inR = true ∧ wr = w) (fun _ si _ => n - (intOf si).toNat)
  case atStart => exact ⟨0, Nat.zero_le _, rfl, by simp, rfl⟩
  case round =>
    obtain ⟨i, hi, rfl, ha, rfl⟩ := hrel
    have HA := hid_intro ha
    clear ha
    by_cases hlt : i < n
    · obtain ⟨b, off, rfl, c0⟩ := HL.out.row i (by omega)
      have HX : Hid (inR (xs.getD i 0) = true → (xs.take (i + 1)).all inR = true) := fun e => nall_take (by omega) HA.out e
      have HY : Hid (inR (xs.getD i 0) = false → xs.all inR = false) := fun e => nall_no (by omega) e
      have HC := hid_intro (fun (W : World) => wrongNo_any (xs.getD i 0) W)
      generalize inR (xs.getD i 0) = bb at *
      generalize xs.getD i 0 = v at *
      go_wp2_with fail
      refine (HC.out _).mono ?_
      rintro en w2 ⟨rfl, rfl⟩
      cases bb with
      | false =>
        have HY1 := hid_intro (HY.out rfl)
        clear HX HY
        go_wp2
        go_ret
        refine ⟨⟨_, rfl, ?_⟩, rfl⟩
        rw [HY1.out]
        simp
      | true =>
        have HX1 := hid_intro (HX.out rfl)
        clear HX HY
        go_wp2
        go_roundw
        case rel => exact ⟨i + 1, by omega, by go_num, HX1.out, by trivial⟩
        case measure => simp [intOf]; omega
    · have hin : i = n := by omega
      subst hin
      go_wp2
      go_ret
      refine ⟨⟨-1, rfl, ?_⟩, rfl⟩
      have := HA.out
      rw [← hn, List.take_length] at this
      rw [this]
      simp

set_option maxHeartbeats 1000000 in
set_option maxRecDepth 100000 in
theorem contains_no (a : Option Addr) (n cap : Nat) (xs : List Int) (w : World) (hl : Nt w a xs) (hn : xs.length = n) (hm : n ≤ 9223372036854775807) :
    Calls Try.prog 34 #[.slice a n cap, .func (.func 35) #[] #[]] w fun en w' => en = .returned (.bool (!(xs.all inR))) ∧ w' = w := by
  go_enter Try.func34, Try.ntmps34
  go_wp2_with fail
  refine (index_no a n cap xs _ hl hn hm).mono ?_
  rintro en w1 ⟨⟨r, rfl, hr⟩, rfl⟩
  have HR := hid_intro hr
  clear hr hl
  by_cases h0 : r < 0
  · go_wp2
    go_ret
    exact ⟨by rw [HR.out.1 h0]; simp [h0], rfl⟩
  · have this : Hid (xs.all inR = false) := by
      show _ = _
      cases hb : xs.all inR with
      | false => rfl
      | true => exact absurd (HR.out.2 hb) h0
    go_wp2
    go_ret
    exact ⟨by rw [this.out]; simp, rfl⟩

theorem ris_true {xs : List Int} (h : ∀ j, j + 1 < xs.length → xs.getD j 0 < xs.getD (j + 1) 0) : ris xs = true := by
  unfold ris
  rw [List.all_eq_true]
  intro i hi
  have := List.mem_range.1 hi
  exact decide_eq_true (h i (by omega))
theorem ris_false {xs : List Int} {j : Nat} (hj : j + 1 < xs.length) (h : ¬ xs.getD j 0 < xs.getD (j + 1) 0) : ris xs = false := by
  cases hh : ris xs with
  | false => rfl
  | true =>
    unfold ris at hh
    have := List.all_eq_true.1 hh j (List.mem_range.2 (by omega))
    exact absurd (of_decide_eq_true this) h

set_option maxHeartbeats 1000000 in
set_option maxRecDepth 100000 in
theorem rising_any (a : Option Addr) (n cap : Nat) (xs : List Int) (w : World) (hl : Nt w a xs) (hn : xs.length = n) (hm : n ≤ 9223372036854775806) :
    Calls Try.prog 36 #[.slice a n cap] w fun en w' => en = .returned (.bool (ris xs)) ∧ Qt w w' := by
  have HL := hid_intro hl
  clear hl
  go_enter Try.func36, Try.ntmps36
  go_wp2
  go_loopw [3] (fun si wr => ∃ i : Nat, si = .int .i64 ((i : Int) + 1) ∧ i ≤ n ∧ (∀ j, j + 1 < i + 1 → j + 1 < n → xs.getD j 0 < xs.getD (j + 1) 0) ∧ Qt w wr) (fun si _ => n + 1 - (intOf si).toNat)
  case atStart => exact ⟨0, rfl, Nat.zero_le _, fun j hj => by omega, Qt.refl _⟩
  case round =>
    obtain ⟨i, rfl, hi, ha, hq⟩ := hrel
    have HA := hid_intro ha
    have HQ := hid_intro hq
    clear ha hq
    by_cases hlt : i + 1 < n
    · obtain ⟨b, off, rfl, q0⟩ := HL.out.row i (by omega)
      have q1 := HL.out.at (i + 1) (by omega)
      have c0 := (HQ.out.cell _).trans q0
      have c1 := (HQ.out.cell _).trans q1
      have g1 : (i : Int) < (n : Int) := by omega
      have g0 : (0 : Int) ≤ (i : Int) := by omega
      have g2 : (i : Int) + 1 < (n : Int) := by omega
      have g3 : (0 : Int) ≤ (i : Int) + 1 := by omega
      have HX : Hid (xs.getD i 0 < xs.getD (i + 1) 0 → ∀ j, j + 1 < i + 1 + 1 → j + 1 < n → xs.getD j 0 < xs.getD (j + 1) 0) := by
        intro h j hj hj2
        by_cases e : j = i
        · subst e; exact h
        · exact HA.out j (by omega) hj2
      have HY : Hid (¬ xs.getD i 0 < xs.getD (i + 1) 0 → ris xs = false) := fun h => ris_false (by omega) h
      clear q0 q1
      generalize xs.getD i 0 = u at *
      generalize xs.getD (i + 1) 0 = v at *
      by_cases h : u < v
      · have HX1 := hid_intro (HX.out h)
        have h2 : ¬ v ≤ u := by omega
        clear HX HY
        go_wp2
        go_quiet (fail)
        go_wp2
        go_roundw
        case rel => exact ⟨i + 1, by go_num, by omega, HX1.out, HQ.out.trans (Qt.drewN _ _)⟩
        case measure => simp [intOf]; omega
      · have HY1 := hid_intro (HY.out h)
        have h2 : v ≤ u := by omega
        clear HX HY
        go_wp2
        go_quiet (fail)
        go_wp2
        go_ret
        exact ⟨by rw [HY1.out]; rfl, HQ.out.trans (Qt.drewN _ _)⟩
    · have g2 : ¬ (i : Int) + 1 < (n : Int) := by omega
      have HT : Hid (ris xs = true) := ris_true (fun j hj => HA.out j (by omega) (by omega))
      go_wp2
      go_ret
      exact ⟨by rw [HT.out]; rfl, HQ.out⟩
end Go.Proofs.Ytmdljegaggjnhaa
