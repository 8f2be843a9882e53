import Derived.Test.YtomknmboapgmbaaBr8
import Derived.Lib.SlBytesConst
namespace Go.Proofs.Ytomknmboapgmbaa
open Go.RowKit

set_option maxHeartbeats 400000 in
theorem num5_any (n : Int) (w : World) : Calls Try.prog 22 #[.int .i64 n] w fun en w' => en = .returned (.int .i64 n) ∧ w' = w := by
  go_enter Try.func22, Try.ntmps22
  go_wp2
  go_ret
  exact ⟨rfl, rfl⟩

def fw (L : List (List Int)) (m : Nat) : Bool := decide (L.length ≤ 2000) && decide (m ≤ 2000) && L.all (fun s => decide (s.length ≤ 4096))
theorem fw_parts {L : List (List Int)} {m : Nat} (h : fw L m = true) : L.length ≤ 2000 ∧ m ≤ 2000 ∧ ∀ x ∈ L, x.length ≤ 4096 := by
  unfold fw at h
  simp at h
  exact ⟨h.1.1, h.1.2, h.2⟩
theorem fw_all {L : List (List Int)} {m : Nat} (h1 : L.length ≤ 2000) (h2 : m ≤ 2000) (h3 : ∀ j, j < L.length → (L.getD j []).length ≤ 4096) : fw L m = true := by
  unfold fw
  simp only [Bool.and_eq_true, decide_eq_true_eq, List.all_eq_true]
  refine ⟨⟨h1, h2⟩, fun s hs => ?_⟩
  obtain ⟨j, hj, rfl⟩ := List.getElem_of_mem hs
  have := h3 j hj
  simpa [List.getD, List.getElem?_eq_getElem hj] using this
theorem fw_no {L : List (List Int)} {m : Nat} (h : ¬ (L.length ≤ 2000 ∧ m ≤ 2000 ∧ ∀ x ∈ L, x.length ≤ 4096)) : fw L m = false := by
  cases hs : fw L m with
  | false => rfl
  | true => exact absurd (fw_parts hs) h

set_option maxHeartbeats 1000000 in
set_option maxRecDepth 100000 in
theorem few_any (a : Option Addr) (n cap : Nat) (L : List (List Int)) (b : Option Addr) (m cap2 : Nat) (w : World) (hl : Lz w a L) (hn : L.length = n) :
    Calls Try.prog 10 #[.slice a n cap, .slice b m cap2] w fun en w' => en = .returned (.bool (fw L m)) ∧ w' = w := by
  have HL := hid_intro hl
  clear hl
  by_cases h1 : n ≤ 2000
  · by_cases h2 : m ≤ 2000
    · go_enter Try.func10, Try.ntmps10
      go_wp2
      go_loopw [5] (fun si wr => ∃ i : Nat, i ≤ n ∧ si = .int .i64 i ∧ (∀ j, j < i → (L.getD j []).length ≤ 4096) ∧ wr = w) (fun si _ => n - (intOf si).toNat)
      case atStart => exact ⟨0, Nat.zero_le _, rfl, fun j hj => by omega, rfl⟩
      case round =>
        obtain ⟨i, hi, rfl, ha, rfl⟩ := hrel
        have HA := hid_intro ha
        clear ha
        by_cases hlt : i < n
        · obtain ⟨b1, off, ao, k, c, rfl, q2, q3, q4, q5⟩ := HL.out.row i (by omega)
          have hk := q3.len
          have HX : Hid (k ≤ 4096 → ∀ j, j < i + 1 → (L.getD j []).length ≤ 4096) := by
            intro h j hj
            by_cases e : j = i
            · subst e; omega
            · exact HA.out j (by omega)
          have HN : Hid (¬ k ≤ 4096 → fw L m = false) := fun h => fw_no (fun hh => h (by have := hh.2.2 _ (lget_mem (show i < L.length by omega)); omega))
          clear q3 hk
          by_cases hk : k ≤ 4096
          · have HX1 := hid_intro (HX.out hk)
            go_wp2
            go_roundw
            case rel => exact ⟨i + 1, by omega, by go_num, HX1.out, by trivial⟩
            case measure => simp [intOf]; omega
          · have HN1 := hid_intro (HN.out hk)
            go_wp2
            go_ret
            exact ⟨by rw [HN1.out]; rfl, rfl⟩
        · have hin : i = n := by omega
          subst hin
          have HT : Hid (fw L m = true) := fw_all (by omega) h2 (fun j hj => HA.out j (by omega))
          go_wp2
          go_ret
          exact ⟨by rw [HT.out]; rfl, rfl⟩
    · have HN1 : Hid (fw L m = false) := fw_no (fun hh => h2 hh.2.1)
      go_enter Try.func10, Try.ntmps10
      go_wp2
      go_ret
      exact ⟨by rw [HN1.out]; rfl, rfl⟩
  · have HN1 : Hid (fw L m = false) := fw_no (fun hh => h1 (by omega))
    go_enter Try.func10, Try.ntmps10
    go_wp2
    go_ret
    exact ⟨by rw [HN1.out]; rfl, rfl⟩

theorem lget_ext {L M : List (List Int)} (hl : L.length = M.length) (h : ∀ j, j < L.length → L.getD j [] = M.getD j []) : L = M := by
  refine List.ext_getElem hl fun j h1 h2 => ?_
  have := h j h1
  simpa [List.getD, List.getElem?_eq_getElem h1, List.getElem?_eq_getElem h2] using this
theorem kget_ext {L M : List Kd} (hl : L.length = M.length) (h : ∀ j, j < L.length → L.getD j kd0 = M.getD j kd0) : L = M := by
  refine List.ext_getElem hl fun j h1 h2 => ?_
  have := h j h1
  simpa [List.getD, List.getElem?_eq_getElem h1, List.getElem?_eq_getElem h2] using this

set_option maxHeartbeats 1000000 in
set_option maxRecDepth 100000 in
theorem sameLists_any (a : Option Addr) (n cap : Nat) (L : List (List Int)) (a' : Option Addr) (n' cap' : Nat) (M : List (List Int)) (w : World) (hl : Lz w a L) (hb : Lb L) (hn : L.length = n) (hl' : Lz w a' M) (hb' : Lb M) (hn' : M.length = n') (hm : n ≤ 9223372036854775807) :
    Calls Try.prog 27 #[.slice a n cap, .slice a' n' cap'] w fun en w' => (∃ b, en = .returned (.bool b) ∧ (b = true ↔ L = M)) ∧ Qt w w' := by
  have HL := hid_intro hl
  have HM := hid_intro hl'
  have HB := hid_intro hb
  have HB' := hid_intro hb'
  clear hl hl' hb hb'
  by_cases h1 : n = n'
  · subst h1
    go_enter Try.func27, Try.ntmps27
    go_wp2
    go_loopw [5, 6] (fun si _ wr => ∃ i : Nat, i ≤ n ∧ si = .int .i64 i ∧ (∀ j, j < i → L.getD j [] = M.getD j []) ∧ Qt w wr) (fun si _ _ => n - (intOf si).toNat)
    case atStart => exact ⟨0, Nat.zero_le _, rfl, fun j hj => by omega, Qt.refl _⟩
    case round =>
      obtain ⟨i, hi, rfl, ha, hq⟩ := hrel
      have HA := hid_intro ha
      have HQ := hid_intro hq
      clear ha hq
      by_cases hlt : i < n
      · obtain ⟨b1, off, ao, k, c, rfl, q2, q3, q4, q5⟩ := HL.out.row i (by omega)
        obtain ⟨b2, off2, ao2, k2, c2, rfl, r2, r3, r4, r5⟩ := HM.out.row i (by omega)
        have c0 := (HQ.out.cell _).trans q2
        have c1 := (HQ.out.cell _).trans r2
        have g1 : (i : Int) < (n : Int) := by omega
        have g0 : (0 : Int) ≤ (i : Int) := by omega
        by_cases he : L.getD i [] = M.getD i []
        · have HC := hid_intro (fun (W : World) (hW : W.heap = wr.heap) => same_yes ao ao2 k k2 c c2 _ _ W (q3.heap (hW.trans HQ.out.heap)) (r3.heap (hW.trans HQ.out.heap)) he)
          have HX1 : Hid (∀ j, j < i + 1 → L.getD j [] = M.getD j []) := by
            intro j hj
            by_cases e : j = i
            · subst e; exact he
            · exact HA.out j (by omega)
          clear q2 q3 r2 r3 he
          go_wp2
          go_quiet ((go_at_call 21; exact Calls.quiet_of_same (HC.out _ rfl)))
          go_wp2
          go_roundw
          case rel => exact ⟨i + 1, by omega, by go_num, HX1.out, HQ.out.trans (Qt.drewN _ _)⟩
          case measure => simp [intOf]; omega
        · have HC := hid_intro (fun (W : World) (hW : W.heap = wr.heap) => same_no ao ao2 k k2 c c2 _ _ W (q3.heap (hW.trans HQ.out.heap)) (r3.heap (hW.trans HQ.out.heap)) (HB.out _ (lget_mem (by omega))) (HB'.out _ (lget_mem (by omega))) he)
          have HX1 : Hid (¬ L = M) := fun e => he (by rw [e])
          clear q2 q3 r2 r3 he
          go_wp2
          go_quiet ((go_at_call 21; exact Calls.quiet_of_same (HC.out _ rfl)))
          go_wp2
          go_ret
          exact ⟨⟨false, rfl, by simp [HX1.out]⟩, HQ.out.trans (Qt.drewN _ _)⟩
      · have hin : i = n := by omega
        subst hin
        have HT : Hid (L = M) := lget_ext (by omega) (fun j hj => HA.out j (by omega))
        go_wp2
        go_ret
        exact ⟨⟨true, rfl, by simp [HT.out]⟩, HQ.out⟩
  · have HX1 : Hid (¬ L = M) := fun e => h1 (by rw [← hn, ← hn', e])
    have h1' : ¬ (n : Int) = (n' : Int) := by omega
    go_enter Try.func27, Try.ntmps27
    go_wp2
    go_ret
    exact ⟨⟨false, rfl, by simp [HX1.out]⟩, Qt.refl _⟩

set_option maxHeartbeats 1000000 in
set_option maxRecDepth 100000 in
theorem sameKids_any (a : Option Addr) (n cap : Nat) (L : List Kd) (a' : Option Addr) (n' cap' : Nat) (M : List Kd) (w : World) (hl : Kl w a L) (hn : L.length = n) (hl' : Kl w a' M) (hn' : M.length = n') (hm : n ≤ 9223372036854775807) :
    Calls Try.prog 28 #[.slice a n cap, .slice a' n' cap'] w fun en w' => (∃ b, en = .returned (.bool b) ∧ (b = true ↔ L = M)) ∧ Qt w w' := by
  have HL := hid_intro hl
  have HM := hid_intro hl'
  clear hl hl'
  by_cases h1 : n = n'
  · subst h1
    go_enter Try.func28, Try.ntmps28
    go_wp2
    go_loopw [5] (fun si wr => ∃ i : Nat, i ≤ n ∧ si = .int .i64 i ∧ (∀ j, j < i → L.getD j kd0 = M.getD j kd0) ∧ Qt w wr) (fun si _ => n - (intOf si).toNat)
    case atStart => exact ⟨0, Nat.zero_le _, rfl, fun j hj => by omega, Qt.refl _⟩
    case round =>
      obtain ⟨i, hi, rfl, ha, hq⟩ := hrel
      have HA := hid_intro ha
      have HQ := hid_intro hq
      clear ha hq
      by_cases hlt : i < n
      · obtain ⟨b1, off, rfl, q2, q3⟩ := HL.out.row i (by omega)
        obtain ⟨b2, off2, rfl, r2, r3⟩ := HM.out.row i (by omega)
        have c0 := (HQ.out.cell _).trans q2
        have c1 := (HQ.out.cell _).trans r2
        have c2 := (HQ.out.cell _).trans q3
        have c3 := (HQ.out.cell _).trans r3
        have g1 : (i : Int) < (n : Int) := by omega
        have g0 : (0 : Int) ≤ (i : Int) := by omega
        have HE : Hid (L.getD i kd0 = M.getD i kd0 ↔ (L.getD i kd0).no = (M.getD i kd0).no ∧ (L.getD i kd0).keys = (M.getD i kd0).keys) := by
          show _ ↔ _
          generalize L.getD i kd0 = x
          generalize M.getD i kd0 = y
          cases x; cases y; simp
        have HX : Hid (L.getD i kd0 = M.getD i kd0 → ∀ j, j < i + 1 → L.getD j kd0 = M.getD j kd0) := by
          intro h j hj
          by_cases e : j = i
          · subst e; exact h
          · exact HA.out j (by omega)
        have HY : Hid (¬ L.getD i kd0 = M.getD i kd0 → ¬ L = M) := fun h e => h (by rw [e])
        clear q2 q3 r2 r3
        rw [HE.out] at HX HY
        clear HE
        generalize (L.getD i kd0).no = n1 at *
        generalize (L.getD i kd0).keys = k1 at *
        generalize (M.getD i kd0).no = n2 at *
        generalize (M.getD i kd0).keys = k2 at *
        by_cases e1 : n1 = n2
        · subst e1
          by_cases e2 : k1 = k2
          · subst e2
            have HX1 := hid_intro (HX.out ⟨rfl, rfl⟩)
            clear HX HY
            go_wp2
            go_quiet (fail)
            go_wp2
            go_roundw
            case rel => exact ⟨i + 1, by omega, by go_num, HX1.out, HQ.out.trans (Qt.drewN _ _)⟩
            case measure => simp [intOf]; omega
          · have HY1 := hid_intro (HY.out (fun h => e2 h.2))
            have d2 : decide (k1 = k2) = false := decide_eq_false e2
            have d3 : (k1 == k2) = false := beq_eq_false_iff_ne.2 e2
            clear HX HY
            go_wp2
            go_quiet (fail)
            go_wp2
            go_ret
            exact ⟨⟨false, rfl, by simp [HY1.out]⟩, HQ.out.trans (Qt.drewN _ _)⟩
        · have HY1 := hid_intro (HY.out (fun h => e1 h.1))
          have d2 : decide (n1 = n2) = false := decide_eq_false e1
          have d3 : (n1 == n2) = false := beq_eq_false_iff_ne.2 e1
          clear HX HY
          go_wp2
          go_quiet (fail)
          go_wp2
          go_ret
          exact ⟨⟨false, rfl, by simp [HY1.out]⟩, HQ.out.trans (Qt.drewN _ _)⟩
      · have hin : i = n := by omega
        subst hin
        have HT : Hid (L = M) := kget_ext (by omega) (fun j hj => HA.out j (by omega))
        go_wp2
        go_ret
        exact ⟨⟨true, rfl, by simp [HT.out]⟩, HQ.out⟩
  · have HX1 : Hid (¬ L = M) := fun e => h1 (by rw [← hn, ← hn', e])
    have h1' : ¬ (n : Int) = (n' : Int) := by omega
    go_enter Try.func28, Try.ntmps28
    go_wp2
    go_ret
    exact ⟨⟨false, rfl, by simp [HX1.out]⟩, Qt.refl _⟩
end Go.Proofs.Ytomknmboapgmbaa
