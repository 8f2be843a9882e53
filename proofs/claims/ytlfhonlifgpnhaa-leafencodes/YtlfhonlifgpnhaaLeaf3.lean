import Derived.Test.YtlfhonlifgpnhaaLeaf2
namespace Go.Proofs.Ytlfhonlifgpnhaa
open Go.RowKit

theorem any_take {P : It → Bool} {L : List It} {i : Nat} (h : i < L.length) (k : (L.take i).any P = false) (e : P (L.getD i it0) = false) : (L.take (i + 1)).any P = false := by
  have hg : L.getD i it0 = L[i] := by simp [List.getD, List.getElem?_eq_getElem h]
  rw [List.take_add_one, List.getElem?_eq_getElem h, List.any_append, k]
  rw [hg] at e
  simp [e]
theorem any_yes {P : It → Bool} {L : List It} {i : Nat} (h : i < L.length) (e : P (L.getD i it0) = true) : L.any P = true := List.any_eq_true.2 ⟨_, getD_mem h, e⟩

set_option maxHeartbeats 1000000 in
set_option maxRecDepth 100000 in
theorem wrongSize_any (ao : Option Addr) (n c : Nat) (bo : Option Addr) (m d : Nat) (s f : Int) (w : World) (x : It) (hk : x.key.length = n) (hs : x.size = s) :
    Calls Try.prog 57 #[.agg #[.slice ao n c, .slice bo m d, .int .i64 s, .int .i64 f]] w fun en w' => en = .returned (.bool (ws x)) ∧ w.grownBy w' none := by
  have HW : Hid (ws x = (!(valid n) || decide (s < 0) || decide (262144 < s))) := by show _ = _; unfold ws valid; rw [hk, hs]
  have G1 := hid_intro (World.grownBy_alloc w (.cells #[.slice ao n c, .slice bo m d, .int .i64 s, .int .i64 f] 48) none)
  go_enter Try.func57, Try.ntmps57
  go_wp2_with fail
  refine (valid_any _ _ _ _).mono ?_
  rintro en w1 ⟨rfl, rfl⟩
  generalize valid n = v at *
  cases v with
  | false =>
    go_wp2
    go_ret
    exact ⟨by rw [HW.out]; rfl, G1.out⟩
  | true =>
    by_cases h0 : s < 0
    · go_wp2
      go_ret
      exact ⟨by rw [HW.out]; simp [h0], G1.out⟩
    · go_wp2
      go_ret
      exact ⟨by rw [HW.out]; simp, G1.out⟩

set_option maxHeartbeats 1000000 in
set_option maxRecDepth 100000 in
theorem wrongValue_any (ao : Option Addr) (n c : Nat) (bo : Option Addr) (m d : Nat) (s f : Int) (w : World) (x : It) (hv : x.val.length = m) (hs : x.size = s) (hf : x.first = f) :
    Calls Try.prog 58 #[.agg #[.slice ao n c, .slice bo m d, .int .i64 s, .int .i64 f]] w fun en w' => en = .returned (.bool (wv x)) ∧ w.grownBy w' none := by
  have HW : Hid (wv x = if 512 < s then decide (m ≠ 0) || decide (f < 2) || decide (524287 ≤ f) else decide ((m : Int) ≠ s) || decide (f ≠ 0)) := by show _ = _; unfold wv; rw [hv, hs, hf]
  have G1 := hid_intro (World.grownBy_alloc w (.cells #[.slice ao n c, .slice bo m d, .int .i64 s, .int .i64 f] 48) none)
  go_enter Try.func58, Try.ntmps58
  go_wp2_with fail
  refine (chained_any _ _).mono ?_
  rintro en w1 ⟨rfl, rfl⟩
  by_cases h5 : 512 < s
  · rw [decide_eq_true h5]
    rw [if_pos h5] at HW
    by_cases h0 : m = 0
    · subst h0
      by_cases h2 : f < 2
      · go_wp2
        go_ret
        exact ⟨by rw [HW.out]; simp [h2], G1.out⟩
      · go_wp2
        go_ret
        exact ⟨by rw [HW.out]; simp, G1.out⟩
    · go_wp2
      go_ret
      exact ⟨by rw [HW.out]; simp [h0], G1.out⟩
  · rw [decide_eq_false h5]
    rw [if_neg h5] at HW
    by_cases h0 : (m : Int) = s
    · go_wp2
      go_ret
      refine ⟨?_, G1.out⟩
      rw [HW.out]
      by_cases hz : f = 0 <;> simp [h0, hz]
    · go_wp2
      go_ret
      exact ⟨by rw [HW.out]; simp [h0], G1.out⟩

set_option maxHeartbeats 2000000 in
set_option maxRecDepth 100000 in
theorem index_wrongSize (a : Option Addr) (n cap : Nat) (L : List It) (w : World) (hl : Il w a L) (hn : L.length = n) (hm : n ≤ 5000) :
    Calls Try.prog 76 #[.slice a n cap, .func (.func 57) #[] #[]] w fun en w' => (∃ r : Int, en = .returned (.int .i64 r) ∧ (r < 0 ↔ L.any ws = false)) ∧ w.grownBy w' none := by
  have HL := hid_intro hl
  clear hl
  go_enter Try.func76, Try.ntmps76
  go_wp2
  go_loopw [5, 8] (fun _ si wr => ∃ i : Nat, i ≤ n ∧ si = .int .i64 i ∧ (L.take i).any ws = false ∧ w.grownBy wr none) (fun _ si _ => n - (intOf si).toNat)
  case atStart => exact ⟨0, Nat.zero_le _, rfl, by simp, World.grownBy.refl _ _⟩
  case round =>
    obtain ⟨i, hi, rfl, ha, hg⟩ := hrel
    have HG1 := hid_intro hg
    have HA := hid_intro ha
    clear hg ha
    by_cases hlt : i < n
    · obtain ⟨b, off, ao, m, c, bo, m2, d2, rfl, q2, q3, q4, q5, q6, q7, q8, q9, q10, q11⟩ := HL.out.row i (by omega)
      have c0 := HG1.out.cell q2 (by simp)
      have c1 := HG1.out.cell q3 (by simp)
      have c2 := HG1.out.cell q4 (by simp)
      have c3 := HG1.out.cell q5 (by simp)
      have HX : Hid (ws (L.getD i it0) = false → (L.take (i + 1)).any ws = false) := fun e => any_take (by omega) HA.out e
      have HY : Hid (ws (L.getD i it0) = true → L.any ws = true) := fun e => any_yes (by omega) e
      have HC := hid_intro (fun (W : World) => wrongSize_any ao m c bo m2 d2 (L.getD i it0).size (L.getD i it0).first W (L.getD i it0) q6.len rfl)
      clear q2 q3 q4 q5 q6 q9
      generalize (L.getD i it0).size = sz at *
      generalize (L.getD i it0).first = fs at *
      generalize ws (L.getD i it0) = bb at *
      go_wp2_with fail
      refine (HC.out _).mono ?_
      rintro en w2 ⟨rfl, hg2⟩
      have HG2 := hid_intro (grown_trans HG1.out hg2)
      clear hg2
      cases bb with
      | true =>
        have HY1 := hid_intro (HY.out rfl)
        clear HX HY
        go_wp2
        go_ret
        refine ⟨⟨_, rfl, ?_⟩, HG2.out⟩
        rw [HY1.out]
        simp
      | false =>
        have HX1 := hid_intro (HX.out rfl)
        clear HX HY
        go_wp2
        go_roundw
        case rel => exact ⟨i + 1, by omega, by go_num, HX1.out, HG2.out⟩
        case measure => simp [intOf]; omega
    · have hin : i = n := by omega
      subst hin
      go_wp2
      go_ret
      refine ⟨⟨-1, rfl, ?_⟩, HG1.out⟩
      have := HA.out
      rw [← hn, List.take_length] at this
      rw [this]
      simp

set_option maxHeartbeats 1000000 in
set_option maxRecDepth 100000 in
theorem contains_wrongSize (a : Option Addr) (n cap : Nat) (L : List It) (w : World) (hl : Il w a L) (hn : L.length = n) (hm : n ≤ 5000) :
    Calls Try.prog 56 #[.slice a n cap, .func (.func 57) #[] #[]] w fun en w' => en = .returned (.bool (L.any ws)) ∧ w.grownBy w' none := by
  go_enter Try.func56, Try.ntmps56
  go_wp2_with fail
  refine (index_wrongSize a n cap L _ hl hn hm).mono ?_
  rintro en w1 ⟨⟨r, rfl, hr⟩, hg⟩
  have HR := hid_intro hr
  have HG := hid_intro hg
  clear hr hg hl
  by_cases h0 : r < 0
  · go_wp2
    go_ret
    exact ⟨by rw [HR.out.1 h0]; simp [h0], HG.out⟩
  · have this : Hid (L.any ws = true) := by
      show _ = _
      cases hb : L.any ws with
      | true => rfl
      | false => exact absurd (HR.out.2 hb) h0
    go_wp2
    go_ret
    exact ⟨by rw [this.out]; rfl, HG.out⟩

set_option maxHeartbeats 2000000 in
set_option maxRecDepth 100000 in
theorem index_wrongValue (a : Option Addr) (n cap : Nat) (L : List It) (w : World) (hl : Il w a L) (hn : L.length = n) (hm : n ≤ 5000) :
    Calls Try.prog 76 #[.slice a n cap, .func (.func 58) #[] #[]] w fun en w' => (∃ r : Int, en = .returned (.int .i64 r) ∧ (r < 0 ↔ L.any wv = false)) ∧ w.grownBy w' none := by
  have HL := hid_intro hl
  clear hl
  go_enter Try.func76, Try.ntmps76
  go_wp2
  go_loopw [5, 8] (fun _ si wr => ∃ i : Nat, i ≤ n ∧ si = .int .i64 i ∧ (L.take i).any wv = false ∧ w.grownBy wr none) (fun _ si _ => n - (intOf si).toNat)
  case atStart => exact ⟨0, Nat.zero_le _, rfl, by simp, World.grownBy.refl _ _⟩
  case round =>
    obtain ⟨i, hi, rfl, ha, hg⟩ := hrel
    have HG1 := hid_intro hg
    have HA := hid_intro ha
    clear hg ha
    by_cases hlt : i < n
    · obtain ⟨b, off, ao, m, c, bo, m2, d2, rfl, q2, q3, q4, q5, q6, q7, q8, q9, q10, q11⟩ := HL.out.row i (by omega)
      have c0 := HG1.out.cell q2 (by simp)
      have c1 := HG1.out.cell q3 (by simp)
      have c2 := HG1.out.cell q4 (by simp)
      have c3 := HG1.out.cell q5 (by simp)
      have HX : Hid (wv (L.getD i it0) = false → (L.take (i + 1)).any wv = false) := fun e => any_take (by omega) HA.out e
      have HY : Hid (wv (L.getD i it0) = true → L.any wv = true) := fun e => any_yes (by omega) e
      have HC := hid_intro (fun (W : World) => wrongValue_any ao m c bo m2 d2 (L.getD i it0).size (L.getD i it0).first W (L.getD i it0) q9.len rfl rfl)
      clear q2 q3 q4 q5 q6 q9
      generalize (L.getD i it0).size = sz at *
      generalize (L.getD i it0).first = fs at *
      generalize wv (L.getD i it0) = bb at *
      go_wp2_with fail
      refine (HC.out _).mono ?_
      rintro en w2 ⟨rfl, hg2⟩
      have HG2 := hid_intro (grown_trans HG1.out hg2)
      clear hg2
      cases bb with
      | true =>
        have HY1 := hid_intro (HY.out rfl)
        clear HX HY
        go_wp2
        go_ret
        refine ⟨⟨_, rfl, ?_⟩, HG2.out⟩
        rw [HY1.out]
        simp
      | false =>
        have HX1 := hid_intro (HX.out rfl)
        clear HX HY
        go_wp2
        go_roundw
        case rel => exact ⟨i + 1, by omega, by go_num, HX1.out, HG2.out⟩
        case measure => simp [intOf]; omega
    · have hin : i = n := by omega
      subst hin
      go_wp2
      go_ret
      refine ⟨⟨-1, rfl, ?_⟩, HG1.out⟩
      have := HA.out
      rw [← hn, List.take_length] at this
      rw [this]
      simp

set_option maxHeartbeats 1000000 in
set_option maxRecDepth 100000 in
theorem contains_wrongValue (a : Option Addr) (n cap : Nat) (L : List It) (w : World) (hl : Il w a L) (hn : L.length = n) (hm : n ≤ 5000) :
    Calls Try.prog 56 #[.slice a n cap, .func (.func 58) #[] #[]] w fun en w' => en = .returned (.bool (L.any wv)) ∧ w.grownBy w' none := by
  go_enter Try.func56, Try.ntmps56
  go_wp2_with fail
  refine (index_wrongValue a n cap L _ hl hn hm).mono ?_
  rintro en w1 ⟨⟨r, rfl, hr⟩, hg⟩
  have HR := hid_intro hr
  have HG := hid_intro hg
  clear hr hg hl
  by_cases h0 : r < 0
  · go_wp2
    go_ret
    exact ⟨by rw [HR.out.1 h0]; simp [h0], HG.out⟩
  · have this : Hid (L.any wv = true) := by
      show _ = _
      cases hb : L.any wv with
      | true => rfl
      | false => exact absurd (HR.out.2 hb) h0
    go_wp2
    go_ret
    exact ⟨by rw [this.out]; rfl, HG.out⟩

set_option maxHeartbeats 2000000 in
set_option maxRecDepth 100000 in
theorem rising_any (a : Option Addr) (n cap : Nat) (L : List It) (w : World) (hl : Il w a L) (hb : Ib L) (hn : L.length = n) (hm : n ≤ 5000) :
    Calls Try.prog 59 #[.slice a n cap] w fun en w' => en = .returned (.bool (ups L)) ∧ w.grownBy w' none := by
  have HL := hid_intro hl
  have HB := hid_intro hb
  clear hl hb
  go_enter Try.func59, Try.ntmps59
  go_wp2
  go_loopw [3] (fun si wr => ∃ i : Nat, i ≤ n ∧ si = .int .i64 ((i + 1 : Nat) : Int) ∧ (∀ j, j < i → j + 1 < n → cmpZ (L.getD j it0).key (L.getD (j + 1) it0).key < 0) ∧ Qt w wr) (fun si _ => n + 1 - (intOf si).toNat)
  case atStart => exact ⟨0, Nat.zero_le _, rfl, fun j hj => by omega, Qt.refl _⟩
  case round =>
    obtain ⟨i, hi, rfl, ha, hq⟩ := hrel
    have HQ := hid_intro hq
    have HA := hid_intro ha
    clear hq ha
    by_cases hlt : i + 1 < n
    · obtain ⟨b, off, ao, m, c, bo, m2, d2, rfl, q2, q3, q4, q5, q6, q7, q8, q9, q10, q11⟩ := HL.out.row i (by omega)
      obtain ⟨b', off', ao', m', c', bo', m2', d2', e1, r2, r3, r4, r5, r6, r7, r8, r9, r10, r11⟩ := HL.out.row (i + 1) (by omega)
      simp only [Option.some.injEq, Addr.mk.injEq] at e1
      obtain ⟨rfl, rfl, _⟩ := e1
      have c0 := (HQ.out.cell _).trans q2
      have c1 := (HQ.out.cell _).trans r2
      have HC := hid_intro (fun (W : World) (hW : W.heap = wr.heap) => compare_any ao ao' m m' c c' _ _ W (q6.heap (hW.trans HQ.out.heap)) (r6.heap (hW.trans HQ.out.heap)) (HB.out.at (by omega)).key (HB.out.at (by omega)).key)
      have HD : Hid (cmpZ (L.getD i it0).key (L.getD (i + 1) it0).key < 0 → ∀ j, j < i + 1 → j + 1 < n → cmpZ (L.getD j it0).key (L.getD (j + 1) it0).key < 0) := by
        intro h j hj hj2
        by_cases e : j = i
        · subst e; exact h
        · exact HA.out j (by omega) hj2
      have HE : Hid (¬ cmpZ (L.getD i it0).key (L.getD (i + 1) it0).key < 0 → ups L = false) := by
        intro h
        cases hu : ups L with
        | false => rfl
        | true => exact absurd ((ups_iff L).1 hu i (by omega)) h
      clear q2 q3 q4 q5 q6 q9 r2 r3 r4 r5 r6 r9
      generalize cmpZ (L.getD i it0).key (L.getD (i + 1) it0).key = z at *
      have g1 : ((i + 1 : Nat) : Int) < (n : Int) := by omega
      have g0 : (0 : Int) ≤ ((i + 1 : Nat) : Int) := by omega
      have g2 : ((i + 1 : Nat) : Int) - 1 = (i : Int) := by omega
      have g3 : (i : Int) < (n : Int) := by omega
      have g4 : (0 : Int) ≤ (i : Int) := by omega
      obtain ⟨j, hj⟩ : ∃ j, i + 1 = j := ⟨_, rfl⟩
      rw [hj] at g1 g0 g2 c1 ⊢
      have HJ := hid_intro hj
      clear hj
      by_cases hz : z < 0
      · have hz' : decide (0 ≤ z) = false := decide_eq_false (by omega)
        go_wp2
        go_quiet ((go_at_call 78; exact Calls.quiet_of_same (HC.out _ rfl)))
        go_wp2
        go_roundw
        case rel => exact ⟨i + 1, by omega, by have := HJ.out; go_num, HD.out hz, HQ.out.trans (Qt.drewN _ _)⟩
        case measure => have := HJ.out; simp [intOf]; omega
      · have hz' : decide (0 ≤ z) = true := decide_eq_true (by omega)
        go_wp2
        go_quiet ((go_at_call 78; exact Calls.quiet_of_same (HC.out _ rfl)))
        go_wp2
        go_ret
        exact ⟨by rw [HE.out hz]; rfl, (HQ.out.trans (Qt.drewN _ _)).grown _⟩
    · have g1 : ¬ ((i + 1 : Nat) : Int) < (n : Int) := by omega
      obtain ⟨j, hj⟩ : ∃ j, i + 1 = j := ⟨_, rfl⟩
      rw [hj] at g1 ⊢
      have HU : Hid (ups L = true) := (ups_iff L).2 (fun k hk => HA.out k (by omega) (by omega))
      go_wp2
      go_ret
      exact ⟨by rw [HU.out]; rfl, HQ.out.grown _⟩

set_option maxHeartbeats 2000000 in
set_option maxRecDepth 100000 in
/-- leaf.errorOf. -/
theorem errorOf_any (a : Option Addr) (n cap : Nat) (L : List It) (w : World) (hl : Il w a L) (hb : Ib L) (hn : L.length = n) (hm : n ≤ 5000) :
    Calls Try.prog 36 #[.slice a n cap] w fun en w' => en = .returned (.int .i64 (wrong L)) ∧ w.grownBy w' none := by
  have HW : Hid (wrong L = if n = 0 then 40 else if L.any ws then 41 else if L.any wv then 40 else if ups L then 0 else 30) := by show _ = _; unfold wrong; rw [hn]
  have HL := hid_intro hl
  clear hl
  by_cases h0 : n = 0
  · rw [if_pos h0] at HW
    go_enter Try.func36, Try.ntmps36
    go_wp2
    go_ret
    exact ⟨by rw [HW.out]; rfl, World.grownBy.refl _ _⟩
  · rw [if_neg h0] at HW
    go_enter Try.func36, Try.ntmps36
    go_wp2_with fail
    refine (contains_wrongSize a n cap L _ HL.out hn hm).mono ?_
    rintro en w1 ⟨rfl, hg1⟩
    have G1 := hid_intro hg1
    clear hg1
    generalize L.any ws = b1 at *
    cases b1 with
    | true =>
      go_wp2
      go_ret
      exact ⟨by rw [HW.out]; rfl, G1.out⟩
    | false =>
      go_wp2_with fail
      refine (contains_wrongValue a n cap L _ (HL.out.keptN G1.out) hn hm).mono ?_
      rintro en w2 ⟨rfl, hg2⟩
      have G2 := hid_intro (grown_trans G1.out hg2)
      clear hg2 G1
      generalize L.any wv = b2 at *
      cases b2 with
      | true =>
        go_wp2
        go_ret
        exact ⟨by rw [HW.out]; rfl, G2.out⟩
      | false =>
        go_wp2_with fail
        refine (rising_any a n cap L _ (HL.out.keptN G2.out) hb hn hm).mono ?_
        rintro en w3 ⟨rfl, hg3⟩
        have G3 := hid_intro (grown_trans G2.out hg3)
        clear hg3 G2
        generalize ups L = b3 at *
        cases b3 with
        | true =>
          go_wp2
          go_ret
          exact ⟨by rw [HW.out]; rfl, G3.out⟩
        | false =>
          go_wp2
          go_ret
          exact ⟨by rw [HW.out]; rfl, G3.out⟩
end Go.Proofs.Ytlfhonlifgpnhaa
