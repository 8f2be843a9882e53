import Derived.Test.YtlfhonlifgpnhaaGrpI
import Derived.Test.YtlfhonlifgpnhaaKeys5
namespace Go.Proofs.Ytlfhonlifgpnhaa
open Go.RowKit

set_option maxHeartbeats 400000 in
theorem num4_any (n : Int) (w : World) : Calls Try.prog 22 #[.int .i64 n] w fun en w' => en = .returned (.int .i64 n) ∧ w' = w := by
  go_enter Try.func22, Try.ntmps22
  go_wp2
  go_ret
  exact ⟨rfl, rfl⟩

def shI (x : It) : Bool := decide (x.key.length ≤ 5000) && decide (x.val.length ≤ 5000)
def sh (L : List It) : Bool := decide (L.length ≤ 2000) && L.all shI
theorem sh_parts {L : List It} (h : sh L = true) : L.length ≤ 2000 ∧ ∀ x ∈ L, x.key.length ≤ 5000 ∧ x.val.length ≤ 5000 := by
  unfold sh shI at h
  simp at h
  exact h
theorem sh_no {L : List It} {i : Nat} (hi : i < L.length) (h : shI (L.getD i it0) = false) : sh L = false := by
  cases hs : sh L with
  | false => rfl
  | true =>
    have := (sh_parts hs).2 _ (getD_mem hi)
    unfold shI at h
    rw [decide_eq_true this.1, decide_eq_true this.2] at h
    cases h

set_option maxHeartbeats 1000000 in
set_option maxRecDepth 100000 in
theorem short_any (a : Option Addr) (n cap : Nat) (L : List It) (w : World) (hl : Il w a L) (hn : L.length = n) :
    Calls Try.prog 10 #[.slice a n cap] w fun en w' => en = .returned (.bool (sh L)) ∧ Qt w w' := by
  have HL := hid_intro hl
  clear hl
  by_cases h2 : n ≤ 2000
  · go_enter Try.func10, Try.ntmps10
    go_wp2
    go_loopw [3] (fun si wr => ∃ i : Nat, i ≤ n ∧ si = .int .i64 i ∧ (∀ j, j < i → shI (L.getD j it0) = true) ∧ Qt w wr) (fun si _ => n - (intOf si).toNat)
    case atStart => exact ⟨0, Nat.zero_le _, rfl, fun j hj => by omega, Qt.refl _⟩
    case round =>
      obtain ⟨i, hi, rfl, ha, hq⟩ := hrel
      have HQ := hid_intro hq
      have HA := hid_intro ha
      clear hq ha
      by_cases hlt : i < n
      · obtain ⟨b, off, ao, m, c, bo, m2, d2, rfl, q2, q3, q4, q5, q6, q7, q8, q9, q10, q11⟩ := HL.out.row i (by omega)
        have c0 := (HQ.out.cell _).trans q2
        have c1 := (HQ.out.cell _).trans q3
        have HX : Hid (shI (L.getD i it0) = true → ∀ j, j < i + 1 → shI (L.getD j it0) = true) := by
          intro h j hj
          by_cases e : j = i
          · subst e; exact h
          · exact HA.out j (by omega)
        have HN : Hid (shI (L.getD i it0) = false → sh L = false) := fun h => sh_no (by omega) h
        have HS : Hid (shI (L.getD i it0) = (decide (m ≤ 5000) && decide (m2 ≤ 5000))) := by show _ = _; unfold shI; rw [q6.len, q9.len]
        clear q2 q3 q4 q5 q6 q9 HA
        generalize shI (L.getD i it0) = sb at *
        by_cases hm : m ≤ 5000
        · by_cases hm2 : m2 ≤ 5000
          · have HX1 := hid_intro (HX.out (by rw [HS.out]; simp [hm, hm2]))
            clear HX HS HN
            go_wp2
            go_roundw
            case rel => exact ⟨i + 1, by omega, by go_num, HX1.out, HQ.out⟩
            case measure => simp [intOf]; omega
          · have HN1 := hid_intro (HN.out (by rw [HS.out]; simp [hm2]))
            clear HX HS HN
            go_wp2
            go_ret
            exact ⟨by rw [HN1.out]; rfl, HQ.out⟩
        · have HN1 := hid_intro (HN.out (by rw [HS.out]; simp [hm]))
          clear HX HS HN
          go_wp2
          go_ret
          exact ⟨by rw [HN1.out]; rfl, HQ.out⟩
      · have hin : i = n := by omega
        subst hin
        have HS : Hid (sh L = true) := by
          show _ = _
          unfold sh
          rw [hn, decide_eq_true h2, Bool.true_and]
          refine List.all_eq_true.2 fun x hx => ?_
          obtain ⟨j, hj, rfl⟩ := List.getElem_of_mem hx
          have := HA.out j (by omega)
          simpa [List.getD, List.getElem?_eq_getElem hj] using this
        clear HA
        go_wp2
        go_ret
        exact ⟨by rw [HS.out]; rfl, HQ.out⟩
  · have HS : Hid (sh L = false) := by
      show _ = _
      unfold sh
      rw [hn, decide_eq_false h2, Bool.false_and]
    go_enter Try.func10, Try.ntmps10
    go_wp2
    go_ret
    exact ⟨by rw [HS.out]; rfl, Qt.refl _⟩

theorem it_eq {x y : It} : x = y ↔ x.key = y.key ∧ x.val = y.val ∧ x.size = y.size ∧ x.first = y.first := by
  obtain ⟨a, b, c, d⟩ := x
  obtain ⟨a', b', c', d'⟩ := y
  simp

set_option maxHeartbeats 2000000 in
set_option maxRecDepth 100000 in
theorem sameItem_any (ao : Option Addr) (n c : Nat) (bo : Option Addr) (m d : Nat) (ao' : Option Addr) (n' c' : Nat) (bo' : Option Addr) (m' d' : Nat) (x y : It) (s f s' f' : Int) (hs : x.size = s) (hf : x.first = f) (hs' : y.size = s') (hf' : y.first = f') (w : World)
    (h1 : Byt w ao n c x.key) (h2 : Byt w bo m d x.val) (h3 : Byt w ao' n' c' y.key) (h4 : Byt w bo' m' d' y.val) (hx : Itb x) (hy : Itb y) :
    Calls Try.prog 41 #[.agg #[.slice ao n c, .slice bo m d, .int .i64 s, .int .i64 f], .agg #[.slice ao' n' c', .slice bo' m' d', .int .i64 s', .int .i64 f']] w fun en w' => (∃ b, en = .returned (.bool b) ∧ (b = true ↔ x = y)) ∧ w.grownBy w' none := by
  have HE := hid_intro (it_eq (x := x) (y := y))
  rw [hs, hs', hf, hf'] at HE
  have ga := World.grownBy_alloc w (.cells #[.slice ao n c, .slice bo m d, .int .i64 s, .int .i64 f] 48) none
  have gb := World.grownBy_alloc (w.alloc (.cells #[.slice ao n c, .slice bo m d, .int .i64 s, .int .i64 f] 48)) (.cells #[.slice ao' n' c', .slice bo' m' d', .int .i64 s', .int .i64 f'] 48) none
  have G := hid_intro (grown_trans ga gb)
  have H1 := hid_intro (h1.keptN G.out)
  have H2 := hid_intro (h2.keptN G.out)
  have H3 := hid_intro (h3.keptN G.out)
  have H4 := hid_intro (h4.keptN G.out)
  have HX := hid_intro hx
  have HY := hid_intro hy
  clear h1 h2 h3 h4 ga gb hx hy
  by_cases hk : x.key = y.key
  · by_cases hv : x.val = y.val
    · have HE2 : Hid (x = y ↔ s = s' ∧ f = f') := by
        show _ ↔ _
        rw [HE.out]
        exact ⟨fun h => h.2.2, fun h => ⟨hk, hv, h⟩⟩
      clear HE
      by_cases hss : s = s'
      · subst hss
        go_enter Try.func41, Try.ntmps41
        go_wp2_with fail
        refine (same_yes _ _ _ _ _ _ _ _ _ H1.out H3.out hk).mono ?_
        rintro en w1 ⟨rfl, rfl⟩
        go_wp2_with fail
        refine (same_yes _ _ _ _ _ _ _ _ _ H2.out H4.out hv).mono ?_
        rintro en w1 ⟨rfl, rfl⟩
        go_wp2
        go_ret
        refine ⟨⟨_, rfl, ?_⟩, G.out⟩
        rw [HE2.out]
        simp
      · go_enter Try.func41, Try.ntmps41
        go_wp2_with fail
        refine (same_yes _ _ _ _ _ _ _ _ _ H1.out H3.out hk).mono ?_
        rintro en w1 ⟨rfl, rfl⟩
        go_wp2_with fail
        refine (same_yes _ _ _ _ _ _ _ _ _ H2.out H4.out hv).mono ?_
        rintro en w1 ⟨rfl, rfl⟩
        go_wp2
        go_ret
        refine ⟨⟨_, rfl, ?_⟩, G.out⟩
        rw [HE2.out]
        simp [hss]
    · have HE2 : Hid (¬ x = y) := fun h => hv (by rw [h])
      clear HE
      go_enter Try.func41, Try.ntmps41
      go_wp2_with fail
      refine (same_yes _ _ _ _ _ _ _ _ _ H1.out H3.out hk).mono ?_
      rintro en w1 ⟨rfl, rfl⟩
      go_wp2_with fail
      refine (same_no _ _ _ _ _ _ _ _ _ H2.out H4.out HX.out.val HY.out.val hv).mono ?_
      rintro en w1 ⟨rfl, rfl⟩
      go_wp2
      go_ret
      exact ⟨⟨_, rfl, by simp [HE2.out]⟩, G.out⟩
  · have HE2 : Hid (¬ x = y) := fun h => hk (by rw [h])
    clear HE
    by_cases hv : x.val = y.val
    · go_enter Try.func41, Try.ntmps41
      go_wp2_with fail
      refine (same_no _ _ _ _ _ _ _ _ _ H1.out H3.out HX.out.key HY.out.key hk).mono ?_
      rintro en w1 ⟨rfl, rfl⟩
      go_wp2_with fail
      refine (same_yes _ _ _ _ _ _ _ _ _ H2.out H4.out hv).mono ?_
      rintro en w1 ⟨rfl, rfl⟩
      go_wp2
      go_ret
      exact ⟨⟨_, rfl, by simp [HE2.out]⟩, G.out⟩
    · go_enter Try.func41, Try.ntmps41
      go_wp2_with fail
      refine (same_no _ _ _ _ _ _ _ _ _ H1.out H3.out HX.out.key HY.out.key hk).mono ?_
      rintro en w1 ⟨rfl, rfl⟩
      go_wp2_with fail
      refine (same_no _ _ _ _ _ _ _ _ _ H2.out H4.out HX.out.val HY.out.val hv).mono ?_
      rintro en w1 ⟨rfl, rfl⟩
      go_wp2
      go_ret
      exact ⟨⟨_, rfl, by simp [HE2.out]⟩, G.out⟩

theorem getD_ext {L M : List It} (hl : L.length = M.length) (h : ∀ j, j < L.length → L.getD j it0 = M.getD j it0) : L = M := by
  refine List.ext_getElem hl fun j h1 h2 => ?_
  have := h j h1
  simpa [List.getD, List.getElem?_eq_getElem h1, List.getElem?_eq_getElem h2] using this

set_option maxHeartbeats 2000000 in
set_option maxRecDepth 100000 in
theorem sameItems_any (a : Option Addr) (n cap : Nat) (L : List It) (a' : Option Addr) (n' cap' : Nat) (M : List It) (w : World) (hl : Il w a L) (hb : Ib L) (hn : L.length = n) (hl' : Il w a' M) (hb' : Ib M) (hn' : M.length = n') (hm : n ≤ 9223372036854775807) :
    Calls Try.prog 24 #[.slice a n cap, .slice a' n' cap'] w fun en w' => (∃ b, en = .returned (.bool b) ∧ (b = true ↔ L = M)) ∧ w.grownBy w' none := by
  have HL := hid_intro hl
  have HM := hid_intro hl'
  have HB := hid_intro hb
  have HB' := hid_intro hb'
  clear hl hl' hb hb'
  by_cases he : n = n'
  · subst he
    go_enter Try.func24, Try.ntmps24
    go_wp2
    go_loopw [5, 6] (fun si _ wr => ∃ i : Nat, i ≤ n ∧ si = .int .i64 i ∧ (∀ j, j < i → L.getD j it0 = M.getD j it0) ∧ w.grownBy wr none) (fun si _ _ => n - (intOf si).toNat)
    case atStart => exact ⟨0, Nat.zero_le _, rfl, fun j hj => by omega, World.grownBy.refl _ _⟩
    case round =>
      obtain ⟨i, hi, rfl, ha, hg⟩ := hrel
      have HG := hid_intro hg
      have HA := hid_intro ha
      clear hg ha
      by_cases hlt : i < n
      · obtain ⟨b, off, ao, m, c, bo, m2, d2, rfl, q2, q3, q4, q5, q6, q7, q8, q9, q10, q11⟩ := HL.out.row i (by omega)
        obtain ⟨b', off', ao', m', c', bo', m2', d2', rfl, r2, r3, r4, r5, r6, r7, r8, r9, r10, r11⟩ := HM.out.row i (by omega)
        have HGd := fun row => hid_intro (grown_trans (grown_any (row := row) HG.out) ((Qt.refl wr).drew.grown row))
        have c0 := HG.out.cell q2 (by simp)
        have c1 := HG.out.cell q3 (by simp)
        have c2 := HG.out.cell q4 (by simp)
        have c3 := HG.out.cell q5 (by simp)
        have d0 := HG.out.cell r2 (by simp)
        have d1 := HG.out.cell r3 (by simp)
        have d2 := HG.out.cell r4 (by simp)
        have d3 := HG.out.cell r5 (by simp)
        have HC := hid_intro (sameItem_any ao m c bo m2 _ ao' m' c' bo' m2' _ (L.getD i it0) (M.getD i it0) _ _ _ _ rfl rfl rfl rfl wr.drew (q6.keptN (HGd none).out) (q9.keptN (HGd none).out) (r6.keptN (HGd none).out) (r9.keptN (HGd none).out) (HB.out.at (by omega)) (HB'.out.at (by omega)))
        have HX : Hid (L.getD i it0 = M.getD i it0 → ∀ j, j < i + 1 → L.getD j it0 = M.getD j it0) := by
          intro h j hj
          by_cases e : j = i
          · subst e; exact h
          · exact HA.out j (by omega)
        have HN : Hid (¬ L.getD i it0 = M.getD i it0 → ¬ L = M) := fun h e => h (by rw [e])
        clear q2 q3 q4 q5 q6 q9 r2 r3 r4 r5 r6 r9 HA
        generalize (L.getD i it0).size = sz at *
        generalize (L.getD i it0).first = fs at *
        generalize (M.getD i it0).size = sz' at *
        generalize (M.getD i it0).first = fs' at *
        generalize L.getD i it0 = x at *
        generalize M.getD i it0 = y at *
        have g0 : (0 : Int) ≤ (i : Int) := by omega
        have g1 : (i : Int) < (n : Int) := by omega
        go_wp2_with fail
        go_region_with (go_at_call 41; refine HC.out.mono ?_; rintro en w2 ⟨⟨bb, rfl, hbb⟩, hg2⟩)
        all_goals
          have HG2 := hid_intro (grown_trans (HGd none).out hg2)
          have HBB := hid_intro hbb
          clear hg2 hbb
          cases bb with
          | true =>
            have HX1 := hid_intro (HX.out (HBB.out.1 rfl))
            clear HX HN HBB
            go_wp2
            go_roundw
            case rel => exact ⟨i + 1, by omega, by go_num, HX1.out, HG2.out⟩
            case measure => simp [intOf]; omega
          | false =>
            have HN1 := hid_intro (HN.out (fun e => by cases (HBB.out.2 e)))
            clear HX HN HBB
            go_wp2
            go_ret
            exact ⟨⟨_, rfl, by simp [HN1.out]⟩, HG2.out⟩
      · have hin : i = n := by omega
        subst hin
        have HE : Hid (L = M) := getD_ext (by omega) (fun j hj => HA.out j (by omega))
        clear HA
        go_wp2
        go_ret
        exact ⟨⟨_, rfl, by simp [HE.out]⟩, HG.out⟩
  · have HE : Hid (¬ L = M) := fun e => he (by rw [← hn, ← hn', e])
    go_enter Try.func24, Try.ntmps24
    go_wp2
    go_ret
    exact ⟨⟨_, rfl, by simp [HE.out]⟩, World.grownBy.refl _ _⟩
end Go.Proofs.Ytlfhonlifgpnhaa
