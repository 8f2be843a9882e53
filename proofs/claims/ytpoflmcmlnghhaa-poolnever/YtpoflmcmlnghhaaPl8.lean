import Derived.Test.YtpoflmcmlnghhaaPl7
namespace Go.Proofs.Ytpoflmcmlnghhaa
open Go.RowKit Go.Maps

set_option maxHeartbeats 1000000 in
set_option maxRecDepth 100000 in
/-- coppiceref.Ints: a copy. -/
theorem refInts_any (a : Option Addr) (n cap : Nat) (K : List Int) (w : World) (hl : Nt w a K) (hn : K.length = n) (hm : n ≤ 1000000) :
    Calls Try.prog 21 #[.slice a n cap] w fun en w' => (∃ v, en = .returned v ∧ w'.ownsRow w.heap.size 3 1 v n (K.map (Value.int .i64))) ∧ w.grownBy w' none ∧ w.heap.size < w'.heap.size := by
  obtain ⟨i1, hi1, hy0, hy1, hy2⟩ := info_parts info_int
  have HL := hid_intro hl
  clear hl
  go_enter Try.func21, Try.ntmps21
  go_wp2_with (at_make; refine wpList_make_own _ rfl _ _ 22 rfl w.heap.size 3 i1 (.int .i64 0) 1 Try.underlying22 hi1 hy0 hy1 _ _ _ n rfl rfl rfl ?b2 ?b3 (Nat.le_refl _) ?_)
  case b2 => rw [hy2]; omega
  case b3 => unfold maxLen; omega
  intro w0 hown0 hg0
  have hs0 : w.heap.size < w0.heap.size := (hown0.lt w.heap.size rfl).2
  have O0 := hid_intro hown0
  have G0 := hid_intro hg0
  clear hown0 hg0
  go_wp2
  go_loopw [3, 4] (fun sl si wr => ∃ i : Nat, i ≤ n ∧ si = .int .i64 i ∧ wr.ownsRow w.heap.size 3 1 sl i ((K.map (Value.int .i64)).take i) ∧ w.grownBy wr none ∧ w.heap.size < wr.heap.size) (fun _ si _ => n - (zOf si).toNat)
  case atStart => exact ⟨0, Nat.zero_le _, rfl, O0.out, G0.out, hs0⟩
  case round =>
    obtain ⟨i, hi', rfl, hown, hg, hs⟩ := hrel
    have HO := hid_intro hown
    have HG := hid_intro hg
    clear hown hg O0 G0
    by_cases hlt : i < n
    · obtain ⟨b1, off, rfl, q2⟩ := HL.out.row i (by omega)
      have c0 := HG.out.cell q2 (by simp)
      have HTK : Hid ((K.map (Value.int .i64)).take (i + 1) = (K.map (Value.int .i64)).take i ++ [.int .i64 (K.getD i 0)]) := by
        show _ = _
        rw [List.take_add_one, List.getElem?_map, List.getElem?_eq_getElem (show i < K.length by omega)]
        simp [List.getD, List.getElem?_eq_getElem (show i < K.length by omega)]
      clear q2
      generalize K.getD i 0 = no at *
      go_wp2_with (at_builtin; refine wpList_append_own _ rfl _ _ 22 rfl w.heap.size 3 i1 (.int .i64 0) 1 8 Try.underlying22 hi1 hy0 hy1 hy2 rfl (by decide) _ i ((K.map (Value.int .i64)).take i) rfl (HO.out.alloc _) ⟨wr.heap.size, 0, none⟩ 1 1 [.int .i64 no] rfl rfl (cell_one_new _ _ _) (by intro u hu; simp at hu; subst hu; rfl) (by unfold maxLen; omega) (by omega) (by have := HG.out.size; simp; omega) ?_)
      intro v' w10 ho hg10 _
      have HO1 := hid_intro ho
      have HG1 := hid_intro (grown_app5 HG.out HO.out (Nat.le_refl _) hg10)
      have hs1 : w.heap.size < w10.heap.size := by have := hg10.size; simp at this; omega
      clear ho hg10 HO HG c0
      go_wp2
      go_roundw
      case rel => exact ⟨i + 1, by omega, by go_num, by rw [HTK.out]; exact HO1.out, HG1.out, hs1⟩
      case measure => simp [zOf]; omega
    · have hin : i = n := by omega
      subst hin
      have e : (K.map (Value.int .i64)).take i = K.map (Value.int .i64) := List.take_of_length_le (by rw [List.length_map]; omega)
      rw [e] at HO
      go_wp2
      go_ret
      exact ⟨⟨_, rfl, HO.out⟩, HG.out, hs⟩


set_option maxHeartbeats 400000 in
theorem fits_any (k : Int) (a : Option Addr) (n cap : Nat) (w : World) : Calls Try.prog 10 #[.int .i64 k, .slice a n cap] w fun e w' => e = .returned (.bool (decide (k ≤ 20000) && decide (n ≤ 4000))) ∧ w' = w := by
  by_cases h1 : k ≤ 20000
  · by_cases h2 : n ≤ 4000
    · have h2' : (n : Int) ≤ 4000 := by omega
      have HE : Hid ((decide (k ≤ 20000) && decide (n ≤ 4000)) = true) := by show _ = _; simp [h1, h2]
      go_enter Try.func10, Try.ntmps10
      go_wp2
      go_ret
      first | exact ⟨by rw [HE.out]; rfl, rfl⟩ | trivial | simp
    · have h2' : ¬ (n : Int) ≤ 4000 := by omega
      have HE : Hid ((decide (k ≤ 20000) && decide (n ≤ 4000)) = false) := by show _ = _; simp [h2]
      go_enter Try.func10, Try.ntmps10
      go_wp2
      go_ret
      first | exact ⟨by rw [HE.out]; rfl, rfl⟩ | trivial | simp
  · have HE : Hid ((decide (k ≤ 20000) && decide (n ≤ 4000)) = false) := by show _ = _; simp [h1]
    go_enter Try.func10, Try.ntmps10
    go_wp2
    go_ret
    first | exact ⟨by rw [HE.out]; rfl, rfl⟩ | trivial | simp

set_option maxHeartbeats 1000000 in
set_option maxRecDepth 100000 in
theorem hasL_any (a : Option Addr) (n cap : Nat) (L : List Int) (x : Int) (w : World) (hl : Nt w a L) (hn : L.length = n) (hm : n ≤ 9223372036854775807) :
    Calls Try.prog 17 #[.slice a n cap, .int .i64 x] w fun en w' => en = .returned (.bool (decide (x ∈ L))) ∧ w' = w := by
  have HL := hid_intro hl
  clear hl
  go_enter Try.func17, Try.ntmps17
  go_wp2
  go_loopw [5] (fun si wr => ∃ i : Nat, i ≤ n ∧ si = .int .i64 i ∧ x ∉ L.take i ∧ wr = w) (fun si _ => n - (zOf si).toNat)
  case atStart => exact ⟨0, Nat.zero_le _, rfl, by simp, rfl⟩
  case round =>
    obtain ⟨i, hi, rfl, ha, rfl⟩ := hrel
    have HA := hid_intro ha
    clear ha
    by_cases hlt : i < n
    · obtain ⟨b, off, rfl, c0⟩ := HL.out.row i (by omega)
      have HM := hid_intro (nget_mem (show i < L.length by omega))
      have HT := hid_intro (take_snoc (L := L) (i := i) (by omega))
      generalize L.getD i 0 = y at *
      by_cases he : y = x
      · have h2 : (y == x) = true := by simp [he]
        have HX : Hid (decide (x ∈ L) = true) := by show _ = _; rw [← he]; exact decide_eq_true HM.out
        clear he
        go_wp2
        go_ret
        first | exact ⟨by rw [HX.out]; rfl, rfl⟩ | exact ⟨of_decide_eq_true HX.out, trivial⟩ | simp [of_decide_eq_true HX.out]
      · have h2 : (y == x) = false := by simp [he]
        have HX : Hid (x ∉ L.take (i + 1)) := by
          show _ ∉ _
          rw [HT.out]
          simp only [List.mem_append, List.mem_singleton, not_or]
          exact ⟨HA.out, fun e => he e.symm⟩
        clear he
        go_wp2
        go_roundw
        case rel => exact ⟨i + 1, by omega, by go_num, HX.out, by trivial⟩
        case measure => simp [zOf]; omega
    · have hin : i = n := by omega
      subst hin
      have HX : Hid (decide (x ∈ L) = false) := by
        have := HA.out
        rw [← hn, List.take_length] at this
        show _ = _
        simp [this]
      go_wp2
      go_ret
      first | exact ⟨by rw [HX.out]; rfl, rfl⟩ | exact ⟨of_decide_eq_false HX.out, trivial⟩ | simp [of_decide_eq_false HX.out]

theorem risZ_adj : ∀ {L : List Int}, (∀ j, j + 1 < L.length → L.getD j 0 < L.getD (j + 1) 0) → RisZ L
  | [], _ => List.Pairwise.nil
  | [x], _ => List.pairwise_singleton _ _
  | x :: y :: r, h => by
    have h0 : x < y := by simpa using h 0 (by simp)
    have ih : RisZ (y :: r) := risZ_adj (fun j hj => by simpa using h (j + 1) (by simpa using hj))
    refine List.pairwise_cons.2 ⟨fun z hz => ?_, ih⟩
    rcases List.mem_cons.1 hz with rfl | hz
    · exact h0
    · have := (List.pairwise_cons.1 ih).1 z hz
      omega
theorem RisZ.at {L : List Int} (h : RisZ L) {j : Nat} (hj : j + 1 < L.length) : L.getD j 0 < L.getD (j + 1) 0 := by
  have := List.pairwise_iff_getElem.1 h j (j + 1) (by omega) hj (by omega)
  simpa [List.getD, List.getElem?_eq_getElem (show j < L.length by omega), List.getElem?_eq_getElem hj] using this
/-- Do they rise? -/
def rz (l : List Int) : Bool := decide (l.Pairwise fun a b => a < b)
theorem rz_iff (l : List Int) : rz l = true ↔ RisZ l := by unfold rz RisZ; exact decide_eq_true_iff
theorem rz_no (l : List Int) : rz l = false ↔ ¬ RisZ l := by unfold rz RisZ; exact decide_eq_false_iff_not

set_option maxHeartbeats 1000000 in
set_option maxRecDepth 100000 in
theorem riseL_any (a : Option Addr) (n cap : Nat) (L : List Int) (w : World) (hl : Nt w a L) (hn : L.length = n) (hm : n ≤ 9223372036854775806) :
    Calls Try.prog 16 #[.slice a n cap] w fun en w' => en = .returned (.bool (rz L)) ∧ Qt w w' := by
  have HL := hid_intro hl
  clear hl
  go_enter Try.func16, Try.ntmps16
  go_wp2
  go_loopw [3] (fun si wr => ∃ i : Nat, si = .int .i64 ((i + 1 : Nat) : Int) ∧ i ≤ n ∧ (∀ j, j < i → j + 1 < n → L.getD j 0 < L.getD (j + 1) 0) ∧ Qt w wr) (fun si _ => n + 1 - (zOf si).toNat)
  case atStart => exact ⟨0, rfl, Nat.zero_le _, fun j hj => by omega, Qt.refl _⟩
  case round =>
    obtain ⟨i, rfl, hi, ha, hq⟩ := hrel
    have HA := hid_intro ha
    have HQ := hid_intro hq
    clear ha hq
    obtain ⟨k, hk⟩ : ∃ k, k = i + 1 := ⟨_, rfl⟩
    rw [← hk]
    by_cases hlt : k < n
    · obtain ⟨b, off, rfl, q0⟩ := HL.out.row k (by omega)
      obtain ⟨b2, off2, e2, q1⟩ := HL.out.row i (by omega)
      simp only [Option.some.injEq, Addr.mk.injEq] at e2
      obtain ⟨rfl, rfl, _⟩ := e2
      have c0 := (HQ.out.cell _).trans q0
      have c1 := (HQ.out.cell _).trans q1
      have hki : (k : Int) - 1 = (i : Int) := by omega
      have hwk : IntKind.i64.wrap (i : Int) = (i : Int) := by simp [IntKind.wrap, IntKind.signed, IntKind.bits]; omega
      have g1 : (k : Int) < (n : Int) := by omega
      have g0 : (0 : Int) ≤ (k : Int) := by omega
      have g3 : (i : Int) < (n : Int) := by omega
      have g2 : (0 : Int) ≤ (i : Int) := by omega
      have HX : Hid (L.getD i 0 < L.getD k 0 → ∀ j, j < i + 1 → j + 1 < n → L.getD j 0 < L.getD (j + 1) 0) := by
        intro he j hj hj2
        by_cases e : j = i
        · subst e; rw [← hk]; exact he
        · exact HA.out j (by omega) hj2
      have HY : Hid (¬ L.getD i 0 < L.getD k 0 → rz L = false) := by
        intro he
        rw [rz_no]
        intro hr
        have := hr.at (j := i) (by omega)
        rw [← hk] at this
        exact he this
      have HK := hid_intro hk
      clear q0 q1 hk
      generalize L.getD i 0 = u at *
      generalize L.getD k 0 = v at *
      by_cases he : v ≤ u
      · have hd : decide (v ≤ u) = true := by simp [he]
        have HE := hid_intro (HY.out (by omega))
        clear HX HY he
        go_wp2
        go_quiet (fail)
        go_wp2
        go_ret
        exact ⟨by rw [HE.out]; rfl, HQ.out.trans (Qt.drewN _ _)⟩
      · have hd : decide (v ≤ u) = false := by simp; omega
        have HE := hid_intro (HX.out (by omega))
        clear HX HY he
        go_wp2
        go_quiet (fail)
        go_wp2
        go_roundw
        case rel => exact ⟨i + 1, by rw [HK.out]; go_num, by omega, HE.out, HQ.out.trans (Qt.drewN _ _)⟩
        case measure => simp [zOf]; omega
    · have HE : Hid (rz L = true) := by
        show rz L = true
        rw [rz_iff]
        exact risZ_adj (fun j hj => HA.out j (by omega) (by omega))
      have g1 : ¬ (k : Int) < (n : Int) := by omega
      go_wp2
      go_ret
      exact ⟨by rw [HE.out]; rfl, HQ.out⟩
theorem below_of {w w' : World} (h : w.grownBy w' none) : Below w.heap.size w w' := ⟨h.os, h.tape, h.output, h.size, fun k hk => h.block k hk (by simp)⟩
end Go.Proofs.Ytpoflmcmlnghhaa
