import Derived.Test.YtpoflmcmlnghhaaRr7
namespace Go.Proofs.Ytpoflmcmlnghhaa
open Go.RowKit Go.Maps

/-- What is free and what is given up, by rising numbers. -/
def lay (l : List (Int × Int)) : List Int → Int → List (Int × Int)
  | [], _ => l
  | x :: g, v => l.takeWhile (fun p => decide (p.1 < x)) ++ (x, v) :: lay (l.dropWhile (fun p => decide (p.1 < x))) g v
theorem lay_less {y : Int × Int} {l : List (Int × Int)} {x : Int} {g : List Int} {v : Int} (h : y.1 < x) : lay (y :: l) (x :: g) v = y :: lay l (x :: g) v := by simp [lay, h]
theorem lay_here {l : List (Int × Int)} {x : Int} {g : List Int} {v : Int} (h : ∀ y r, l = y :: r → ¬ y.1 < x) : lay l (x :: g) v = (x, v) :: lay l g v := by
  cases l with
  | nil => rfl
  | cons y r => simp [lay, h y r rfl]
theorem mem_lay (l : List (Int × Int)) (g : List Int) (v : Int) (p : Int × Int) : p ∈ lay l g v ↔ p ∈ l ∨ (p.1 ∈ g ∧ p.2 = v) := by
  induction g generalizing l with
  | nil => simp [lay]
  | cons x g ih =>
    have hl : p ∈ l ↔ p ∈ l.takeWhile (fun p => decide (p.1 < x)) ∨ p ∈ l.dropWhile (fun p => decide (p.1 < x)) := by
      conv => lhs; rw [← List.takeWhile_append_dropWhile (p := fun p : Int × Int => decide (p.1 < x)) (l := l)]
      rw [List.mem_append]
    simp only [lay, List.mem_append, List.mem_cons, ih, hl]
    constructor
    · rintro (h | h | h | ⟨h1, h2⟩)
      · exact .inl (.inl h)
      · exact .inr ⟨.inl (by rw [h]), by rw [h]⟩
      · exact .inl (.inr h)
      · exact .inr ⟨.inr h1, h2⟩
    · rintro ((h | h) | ⟨h1 | h1, h2⟩)
      · exact .inl h
      · exact .inr (.inr (.inl h))
      · exact .inr (.inl (Prod.ext h1 h2))
      · exact .inr (.inr (.inr ⟨h1, h2⟩))
theorem mem_takeW {l : List (Int × Int)} {x : Int} {p : Int × Int} (h : p ∈ l.takeWhile (fun p => decide (p.1 < x))) : p.1 < x := by
  induction l with
  | nil => simp at h
  | cons y r ih =>
    by_cases hy : y.1 < x
    · rw [List.takeWhile_cons_of_pos (by simpa using hy)] at h
      rcases List.mem_cons.1 h with rfl | h
      · exact hy
      · exact ih h
    · rw [List.takeWhile_cons_of_neg (by simpa using hy)] at h
      simp at h
theorem mem_dropW {l : List (Int × Int)} {x : Int} (hr : Ris l) {p : Int × Int} (h : p ∈ l.dropWhile (fun p => decide (p.1 < x))) : x ≤ p.1 := by
  induction l with
  | nil => simp at h
  | cons y r ih =>
    obtain ⟨h1, h2⟩ := List.pairwise_cons.1 hr
    by_cases hy : y.1 < x
    · rw [List.dropWhile_cons_of_pos (by simpa using hy)] at h
      exact ih h2 h
    · rw [List.dropWhile_cons_of_neg (by simpa using hy)] at h
      rcases List.mem_cons.1 h with rfl | h
      · omega
      · have := h1 p h; omega
theorem ris_lay {l : List (Int × Int)} {g : List Int} (v : Int) (hl : Ris l) (hg : RisZ g) (hd : ∀ x ∈ g, hasI l x = false) : Ris (lay l g v) := by
  induction g generalizing l with
  | nil => exact hl
  | cons x g ih =>
    obtain ⟨g1, g2⟩ := List.pairwise_cons.1 hg
    have hdr : Ris (l.dropWhile (fun p => decide (p.1 < x))) := hl.sub (List.dropWhile_sublist _)
    have htk : Ris (l.takeWhile (fun p => decide (p.1 < x))) := hl.sub (List.takeWhile_sublist _)
    have hrest := ih hdr g2 (fun y hy => by
      cases e : hasI (l.dropWhile (fun p => decide (p.1 < x))) y with
      | false => rfl
      | true =>
        obtain ⟨p, hp, rfl⟩ := (hasI_iff _ _).1 e
        have h1 := hd p.1 (List.mem_cons_of_mem _ hy)
        have h2 : hasI l p.1 = true := (hasI_iff _ _).2 ⟨p, (List.dropWhile_sublist _).subset hp, rfl⟩
        rw [h1] at h2
        cases h2)
    have hbig : ∀ p ∈ lay (l.dropWhile (fun p => decide (p.1 < x))) g v, x < p.1 := by
      intro p hp
      rcases (mem_lay _ _ _ _).1 hp with h1 | h1
      · have h2 := mem_dropW hl h1
        have h3 : p.1 ≠ x := fun e => by
          have h4 := hd x (List.mem_cons_self ..)
          have h5 : hasI l x = true := (hasI_iff _ _).2 ⟨p, (List.dropWhile_sublist _).subset h1, e⟩
          rw [h4] at h5
          cases h5
        omega
      · exact g1 _ h1.1
    show Ris (_ ++ (x, v) :: _)
    refine List.pairwise_append.2 ⟨htk, List.pairwise_cons.2 ⟨hbig, hrest⟩, fun a ha b hb => ?_⟩
    have h1 := mem_takeW ha
    rcases List.mem_cons.1 hb with rfl | hb
    · exact h1
    · have := hbig b hb
      omega
theorem lay_puts {l : List (Int × Int)} {g : List Int} (v : Int) (hl : Ris l) (hg : RisZ g) (hd : ∀ x ∈ g, hasI l x = false) : lay l g v = puts l g v := by
  refine Ris.ext (ris_lay v hl hg hd) (hl.puts g v) fun p => ?_
  rw [mem_lay, mem_puts]
  constructor
  · rintro (h | h)
    · refine .inr ⟨h, fun hp => ?_⟩
      have h1 := hd _ hp
      have h2 : hasI l p.1 = true := (hasI_iff _ _).2 ⟨p, h, rfl⟩
      rw [h1] at h2
      cases h2
    · exact .inl h
  · rintro (h | h)
    · exact .inr h
    · exact .inl h.1
theorem pdrop {L : List (Int × Int)} {i : Nat} (h : i < L.length) : L.drop i = L.getD i (0, 0) :: L.drop (i + 1) := by
  rw [List.drop_eq_getElem_cons h]
  simp [List.getD, List.getElem?_eq_getElem h]

theorem fcs_drop (l : List (Int × Int)) (i : Nat) : fcs (l.drop i) = (fcs l).drop (i * 2) := by
  induction l generalizing i with
  | nil => simp [fcs]
  | cons p l ih =>
    cases i with
    | zero => simp
    | succ i =>
      rw [List.drop_succ_cons, ih, show (i + 1) * 2 = i * 2 + 1 + 1 by omega]
      simp [fcs]
theorem fcs_one (l : List (Int × Int)) : ∀ u ∈ fcs l, u.oneCell' = true := by
  intro u hu
  simp only [fcs, List.mem_flatMap] at hu
  obtain ⟨p, _, hu⟩ := hu
  simp at hu
  rcases hu with rfl | rfl <;> rfl
set_option maxHeartbeats 8000000 in
set_option maxRecDepth 100000 in
theorem laid_any {w : World} {base : Nat} {vl : Value} {l : List (Int × Int)} (h : w.ownsRow base 79 2 vl l.length (fcs l)) (hs : l.length ≤ 2000000) (v : Int) (a : Option Addr) (n cap : Nat) (g : List Int) (hl : Nt w a g) (hn : g.length = n) (hm : n ≤ 1000000) :
    Calls Try.prog 47 #[vl, .slice a n cap, .int .i64 v] w fun e w' => ∃ u, e = .returned u ∧ w'.ownsRow w.heap.size 79 2 u (lay l g v).length (fcs (lay l g v)) ∧ w.grownBy w' none := by
  obtain ⟨i0, hinf, hz0, hz1, hz2⟩ := info_parts info_rfree
  have HSH := hid_intro h.2
  obtain ⟨ao, cp, rfl, hc1, hc2, hat⟩ := own_pairs h
  have HAT := hid_intro hat
  have HOL := hid_intro h
  have HL := hid_intro hl
  clear h hat hl
  obtain ⟨nl, hnl⟩ : ∃ nl, nl = l.length := ⟨_, rfl⟩
  rw [← hnl] at hs hc1 HOL HSH
  have HNL := hid_intro hnl
  clear hnl
  rw [← HNL.out]
  go_enter Try.func47, Try.ntmps47
  go_wp2
  go_loopw [7, 8, 9] (fun sm si sk wr => ∃ (k i : Nat) (m : List (Int × Int)), k ≤ n ∧ sk = .int .i64 k ∧ i ≤ nl ∧ si = .int .i64 i ∧ m.length ≤ k + i ∧ wr.ownsRow w.heap.size 79 2 sm m.length (fcs m) ∧ m ++ lay (l.drop i) (g.drop k) v = lay l g v ∧ w.grownBy wr none) (fun _ _ sk _ => n - (zOf sk).toNat)
  case atStart => exact ⟨0, 0, [], Nat.zero_le _, rfl, Nat.zero_le _, rfl, Nat.zero_le _, own_nil _ _ _ _, rfl, World.grownBy.refl _ _⟩
  case round =>
    obtain ⟨k, i, m, hk, rfl, hi, rfl, hml, ho, he, hg⟩ := hrel
    have HO := hid_intro ho
    have HE := hid_intro he
    have HG := hid_intro hg
    clear ho he hg
    by_cases hlt : k < n
    · obtain ⟨b, off, rfl, q0⟩ := HL.out.row k (by omega)
      have HDK := hid_intro (drop_cons (L := g) (i := k) (by omega))
      have g1 : (k : Int) < (n : Int) := by omega
      have g0 : (0 : Int) ≤ (k : Int) := by omega
      rw [HDK.out] at HE
      generalize g.getD k 0 = x at *
      have HQ0 := hid_intro q0
      clear q0
      go_wp2
      go_loopw [7, 8] (fun sm si wr => ∃ (i : Nat) (m : List (Int × Int)), i ≤ nl ∧ si = .int .i64 i ∧ m.length ≤ k + i ∧ wr.ownsRow w.heap.size 79 2 sm m.length (fcs m) ∧ m ++ lay (l.drop i) (x :: g.drop (k + 1)) v = lay l g v ∧ w.grownBy wr none) (fun _ si _ => nl - (zOf si).toNat)
      case atStart => exact ⟨i, m, hi, rfl, hml, HO.out, HE.out, HG.out⟩
      case round =>
        obtain ⟨i, m, hi, rfl, hml, ho, he, hg⟩ := hrel
        have HO := hid_intro ho
        have HE := hid_intro he
        have HG := hid_intro hg
        have d0 := hg.cell HQ0.out (by simp)
        clear ho he hg
        by_cases hil : i < nl
        · obtain ⟨gL, rfl, q1, q2⟩ := HAT.out i (by rw [← HNL.out]; exact hil)
          have e1 := HG.out.cell q1 (by simp)
          have e2 := HG.out.cell q2 (by simp)
          have HDI := hid_intro (pdrop (L := l) (i := i) (by rw [← HNL.out]; exact hil))
          have g3 : (i : Int) < (nl : Int) := by omega
          have g2 : (0 : Int) ≤ (i : Int) := by omega
          have gi : decide (i < nl) = true := by simp [hil]
          have gi2 : decide ((i : Int) < (nl : Int)) = true := by simp; omega
          clear q1 q2
          rw [HDI.out] at HE
          obtain ⟨y, hy⟩ : ∃ y, y = l.getD i (0, 0) := ⟨_, rfl⟩
          rw [← hy] at e1 e2 HE
          have HDI2 := hid_intro HDI.out
          rw [← hy] at HDI2
          clear hy HDI
          obtain ⟨y1, y2⟩ := y
          by_cases hyx : y1 < x
          · have hd : decide (y1 < x) = true := by simp [hyx]
            have HE2 : Hid ((m ++ [(y1, y2)]) ++ lay (l.drop (i + 1)) (x :: g.drop (k + 1)) v = lay l g v) := by
              have := HE.out
              rw [lay_less hyx] at this
              show _ = _
              rw [← this]
              simp
            clear hyx HE
            go_wp2
            go_quiet (fail)
            have HQ5 := Qt.drewN wr nq
            have HO5 := hid_intro (own_kept5 HO.out (HQ5.grown none))
            have HG5 := hid_intro (grown_trans HG.out (HQ5.grown none))
            have e15 := (HQ5.cell _).trans e1
            have e25 := (HQ5.cell _).trans e2
            clear HQ5 HO HG d0 e1 e2
            generalize wr.drewN nq = w5 at *
            go_wp2_with (at_builtin; refine wpList_append_own _ rfl _ _ 62 rfl w.heap.size 79 i0 (.agg #[.int .i64 0, .int .i64 0]) 2 16 Try.underlying62 hinf hz0 hz1 hz2 rfl (by decide) u7 m.length (fcs m) rfl (HO5.out.alloc _) ⟨w5.heap.size, 0, none⟩ 1 1 [.int .i64 y1, .int .i64 y2] rfl rfl (news2 w5 79 (.int .i64 y1) (.int .i64 y2) _ rfl) (by intro u hu; simp at hu; rcases hu with rfl | rfl <;> rfl) (by unfold maxLen; omega) (by omega) (by have := HG5.out.size; simp; omega) ?_; intro v6 w6 ho6 hg6 _; have HO6 : Hid (w6.ownsRow w.heap.size 79 2 v6 (m ++ [(y1, y2)]).length (fcs (m ++ [(y1, y2)]))) := (by rw [fcs_app, List.length_append]; exact ho6); have HG6 := hid_intro (grown_app5 HG5.out HO5.out (Nat.le_refl _) hg6); clear ho6 hg6)
            go_wp2
            go_roundw
            case rel => exact ⟨i + 1, m ++ [(y1, y2)], by omega, by go_num, by simp; omega, HO6.out, HE2.out, HG6.out⟩
            case measure => simp [zOf]; omega
          · have hd : decide (y1 < x) = false := by simp; omega
            have HE2 : Hid (m ++ (x, v) :: lay (l.drop i) (g.drop (k + 1)) v = lay l g v) := by
              have := HE.out
              rw [lay_here (fun y r e => by injection e with e1 _; rw [← e1]; exact hyx)] at this
              show _ = _
              rw [HDI2.out, this]
            clear hyx HE e2
            go_wp2
            go_quiet (fail)
            have HQ5 := Qt.drewN wr nq
            have HO5 := hid_intro (own_kept5 HO.out (HQ5.grown none))
            have HG5 := hid_intro (grown_trans HG.out (HQ5.grown none))
            have d5 := (HQ5.cell _).trans d0
            clear HQ5 HO HG d0
            generalize wr.drewN nq = w5 at *
            have HE3 : Hid ((m ++ [(x, v)]) ++ lay (l.drop i) (g.drop (k + 1)) v = lay l g v) := by
              have := HE2.out
              show _ = _
              rw [← this]
              simp
            clear HE2
            go_wp2_with (at_builtin; refine wpList_append_own _ rfl _ _ 62 rfl w.heap.size 79 i0 (.agg #[.int .i64 0, .int .i64 0]) 2 16 Try.underlying62 hinf hz0 hz1 hz2 rfl (by decide) u7 m.length (fcs m) rfl (HO5.out.alloc _) ⟨w5.heap.size, 0, none⟩ 1 1 [.int .i64 x, .int .i64 v] rfl rfl (news2 w5 79 (.int .i64 x) (.int .i64 v) _ rfl) (by intro u hu; simp at hu; rcases hu with rfl | rfl <;> rfl) (by unfold maxLen; omega) (by omega) (by have := HG5.out.size; simp; omega) ?_; intro v6 w6 ho6 hg6 _; have HO6 : Hid (w6.ownsRow w.heap.size 79 2 v6 (m ++ [(x, v)]).length (fcs (m ++ [(x, v)]))) := (by rw [fcs_app, List.length_append]; exact ho6); have HG6 := hid_intro (grown_app5 HG5.out HO5.out (Nat.le_refl _) hg6); clear ho6 hg6)
            go_wp2
            go_roundw
            case rel => exact ⟨k + 1, i, m ++ [(x, v)], by omega, by go_num, hi, rfl, by simp; omega, HO6.out, HE3.out, HG6.out⟩
            case measure => simp [zOf]; omega
        · have gi : decide (i < nl) = false := by simp; omega
          have gi2 : decide ((i : Int) < (nl : Int)) = false := by simp; omega
          have HE2 : Hid (m ++ (x, v) :: lay (l.drop i) (g.drop (k + 1)) v = lay l g v) := by
            have := HE.out
            have e0 : l.drop i = [] := List.drop_of_length_le (by rw [← HNL.out]; omega)
            rw [e0, lay_here (fun y r e => by cases e)] at this
            show _ = _
            rw [e0]
            exact this
          clear HE
          go_wp2
          go_quiet (fail)
          have HQ5 := Qt.drewN wr nq
          have HO5 := hid_intro (own_kept5 HO.out (HQ5.grown none))
          have HG5 := hid_intro (grown_trans HG.out (HQ5.grown none))
          have d5 := (HQ5.cell _).trans d0
          clear HQ5 HO HG d0
          generalize wr.drewN nq = w5 at *
          have HE3 : Hid ((m ++ [(x, v)]) ++ lay (l.drop i) (g.drop (k + 1)) v = lay l g v) := by
            have := HE2.out
            show _ = _
            rw [← this]
            simp
          clear HE2
          go_wp2_with (at_builtin; refine wpList_append_own _ rfl _ _ 62 rfl w.heap.size 79 i0 (.agg #[.int .i64 0, .int .i64 0]) 2 16 Try.underlying62 hinf hz0 hz1 hz2 rfl (by decide) u7 m.length (fcs m) rfl (HO5.out.alloc _) ⟨w5.heap.size, 0, none⟩ 1 1 [.int .i64 x, .int .i64 v] rfl rfl (news2 w5 79 (.int .i64 x) (.int .i64 v) _ rfl) (by intro u hu; simp at hu; rcases hu with rfl | rfl <;> rfl) (by unfold maxLen; omega) (by omega) (by have := HG5.out.size; simp; omega) ?_; intro v6 w6 ho6 hg6 _; have HO6 : Hid (w6.ownsRow w.heap.size 79 2 v6 (m ++ [(x, v)]).length (fcs (m ++ [(x, v)]))) := (by rw [fcs_app, List.length_append]; exact ho6); have HG6 := hid_intro (grown_app5 HG5.out HO5.out (Nat.le_refl _) hg6); clear ho6 hg6)
          go_wp2
          go_roundw
          case rel => exact ⟨k + 1, i, m ++ [(x, v)], by omega, by go_num, hi, rfl, by simp; omega, HO6.out, HE3.out, HG6.out⟩
          case measure => simp [zOf]; omega
    · have hkn : k = n := by omega
      subst hkn
      have HE2 : Hid (m ++ l.drop i = lay l g v) := by
        have := HE.out
        rw [List.drop_of_length_le (show g.length ≤ k by omega)] at this
        exact this
      clear HE
      have HSH2 := HSH.out
      clear HSH
      rcases HSH2 with ⟨e0, hn0⟩ | ⟨gL, cp', cur, e0, hbL, hcL, h1L, h2L, h3L, h4L⟩
      · injection e0 with e1 e2 e3
        subst e1 e3 hn0
        have hi0 : i = 0 := by omega
        subst hi0
        have HO8 : Hid (wr.ownsRow w.heap.size 79 2 u7 (lay l g v).length (fcs (lay l g v))) := by
          have e0 : l = [] := List.length_eq_zero_iff.1 HNL.out.symm
          have e1 : m = lay l g v := by
            have := HE2.out
            rw [List.drop_zero] at this
            rw [← this, e0, List.append_nil]
          rw [← e1]
          exact HO.out
        go_wp2_with (at_builtin; refine wpList_append_own_none rfl _ _ 62 rfl w.heap.size 79 i0 2 Try.underlying62 hinf u7 m.length (fcs m) rfl HO.out rfl ?_)
        go_ret
        exact ⟨_, rfl, HO8.out, HG.out⟩
      · injection e0 with e1 e2 e3
        subst e1 e3
        by_cases hcap : cp = i
        · have hn1 : nl = i := by omega
          subst hcap hn1
          have HFE : Hid (∀ (v6 : Value) (w6 : World), w6.ownsRow w.heap.size 79 2 v6 (m.length + 0) (fcs m ++ []) → w6.ownsRow w.heap.size 79 2 v6 (lay l g v).length (fcs (lay l g v))) := by
            intro v6 w6 h6
            have e0 : l.drop nl = [] := List.drop_of_length_le (by have := HNL.out; omega)
            have e1 := HE2.out
            rw [e0, List.append_nil] at e1
            rw [← e1]
            rw [List.append_nil, Nat.add_zero] at h6
            exact h6
          clear hcL h4L
          go_wp2_with (at_builtin; refine wpList_append_own _ rfl _ _ 62 rfl w.heap.size 79 i0 (.agg #[.int .i64 0, .int .i64 0]) 2 16 Try.underlying62 hinf hz0 hz1 hz2 rfl (by decide) u7 m.length (fcs m) rfl HO.out ⟨gL, 0, none⟩ 0 _ [] rfl rfl (fun j u hu => by simp at hu) (fun u hu => by simp at hu) (by unfold maxLen; omega) (by omega) HG.out.size ?_; intro v6 w6 ho6 hg6 _; have HO6 := hid_intro (HFE.out _ _ ho6); have HG6 := hid_intro (HG.out.andThen hg6 (fun j e => .inl (own_lt HO.out e).1)); clear ho6 hg6)
          go_ret
          exact ⟨_, rfl, HO6.out, HG6.out⟩
        · have HNW : Hid (∀ j u, (fcs (l.drop i))[j]? = some u → wr.cell? ((⟨gL, i * 2, none⟩ : Addr).add j) = some u) := by
            intro j u hu
            rw [fcs_drop, List.getElem?_drop] at hu
            have hj := (List.getElem?_eq_some_iff.1 hu).1
            rw [fcs_len, ← HNL.out] at hj
            have hcW : wr.heap[gL]? = some (.cells cur 79 (0, 0)) := (HG.out.block gL (Array.getElem?_eq_some_iff.1 hcL).1 (by simp)).trans hcL
            rw [Addr.add_lit, cell_of_row wr gL _ _ _ _ hcW, ← Array.getElem?_toList, ← List.getElem?_take_of_lt hj, h4L]
            exact hu
          have HLN : Hid ((fcs (l.drop i)).length = (nl - i) * 2) := by
            show _ = _
            rw [fcs_len, List.length_drop, HNL.out]
          have HFE : Hid (∀ (v6 : Value) (w6 : World), w6.ownsRow w.heap.size 79 2 v6 (m.length + (nl - i)) (fcs m ++ fcs (l.drop i)) → w6.ownsRow w.heap.size 79 2 v6 (lay l g v).length (fcs (lay l g v))) := by
            intro v6 w6 h6
            have e1 := HE2.out
            rw [← e1, fcs_app, List.length_append, List.length_drop, ← HNL.out]
            exact h6
          clear hcL h4L
          go_wp2_with (at_builtin; refine wpList_append_own _ rfl _ _ 62 rfl w.heap.size 79 i0 (.agg #[.int .i64 0, .int .i64 0]) 2 16 Try.underlying62 hinf hz0 hz1 hz2 rfl (by decide) u7 m.length (fcs m) rfl HO.out ⟨gL, i * 2, none⟩ (nl - i) _ (fcs (l.drop i)) rfl HLN.out HNW.out (fcs_one _) (by unfold maxLen; omega) (by omega) HG.out.size ?_; intro v6 w6 ho6 hg6 _; have HO6 := hid_intro (HFE.out _ _ ho6); have HG6 := hid_intro (HG.out.andThen hg6 (fun j e => .inl (own_lt HO.out e).1)); clear ho6 hg6)
          go_ret
          exact ⟨_, rfl, HO6.out, HG6.out⟩
end Go.Proofs.Ytpoflmcmlnghhaa
