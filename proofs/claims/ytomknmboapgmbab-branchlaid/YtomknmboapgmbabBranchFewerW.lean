import Derived.Test.YtomknmboapgmbabBrInB
namespace Go.Proofs.Ytomknmboapgmbab
open Go.RowKit

/-- Cells of strings that lay there already. -/
structure Sw (w : World) (xs : List Value) (L : List (List Int)) : Prop where
  len : xs.length = L.length
  el : ∀ j, j < L.length → ∃ ao n c, xs[j]? = some (.slice ao n c) ∧ Byt w ao n c (L.getD j []) ∧ n ≤ c ∧ c ≤ 9223372036854775807
theorem Sw.nil (w : World) : Sw w [] [] := ⟨rfl, fun j hj => by simp at hj⟩
theorem Sw.snoc {w : World} {xs : List Value} {L : List (List Int)} {ao : Option Addr} {n c : Nat} {x : List Int} (h : Sw w xs L) (h1 : Byt w ao n c x) (h2 : n ≤ c) (h3 : c ≤ 9223372036854775807) : Sw w (xs ++ [.slice ao n c]) (L ++ [x]) := by
  have hl := h.len
  refine ⟨by simp [hl], fun j hj => ?_⟩
  rw [List.length_append] at hj
  simp only [List.length_cons, List.length_nil] at hj
  by_cases e : j < L.length
  · obtain ⟨ao, n, c, k1, k2⟩ := h.el j e
    have eg : (L ++ [x]).getD j [] = L.getD j [] := by simp [List.getD, List.getElem?_append_left e]
    rw [eg]
    exact ⟨ao, n, c, by rw [List.getElem?_append_left (by omega)]; exact k1, k2⟩
  · obtain rfl : j = L.length := by omega
    have eg : (L ++ [x]).getD L.length [] = x := by simp [List.getD]
    rw [eg]
    exact ⟨ao, n, c, by rw [List.getElem?_append_right (by omega), hl, Nat.sub_self]; rfl, h1, h2, h3⟩
theorem Sw.lz {w w' : World} {base : Nat} {v : Value} {n : Nat} {xs : List Value} {L : List (List Int)} (h : Sw w xs L) (hg : w.grownBy w' none) (ho : w'.ownsRow base 26 1 v n xs) : ∃ a cap, v = .slice a n cap ∧ Lz w' a L ∧ L.length = n ∧ n ≤ cap ∧ cap ≤ 9223372036854775807 := by
  have hl := h.len
  have hn : L.length = n := by have := ho.1; omega
  rcases ho.2 with ⟨rfl, rfl⟩ | ⟨g, cap, cur, rfl, _, _, hc, hm, _⟩
  · obtain rfl : L = [] := List.length_eq_zero_iff.1 hn
    exact ⟨none, 0, rfl, Lz.zero _ _, rfl, Nat.le_refl _, by omega⟩
  · refine ⟨_, cap, rfl, ⟨fun i hi => ?_⟩, hn, hc, by unfold maxLen at hm; omega⟩
    obtain ⟨ao, n', c, h1, h2, h3, h4⟩ := h.el i hi
    refine ⟨g, 0, ao, n', c, rfl, ?_, h2.keptN hg, h3, h4⟩
    rw [Nat.zero_add, ho.cellAt _ (by omega)]; exact h1
theorem lsub_in {M L : List (List Int)} {i : Nat} (h : M.Sublist (L.take i)) (hi : i < L.length) : (M ++ [L.getD i []]).Sublist (L.take (i + 1)) := by
  have e : L.take (i + 1) = L.take i ++ [L.getD i []] := by
    rw [List.take_add_one, List.getElem?_eq_getElem hi]
    simp [List.getD, List.getElem?_eq_getElem hi]
  rw [e]
  exact h.append (List.Sublist.refl _)
theorem lsub_out {M L : List (List Int)} {i : Nat} (h : M.Sublist (L.take i)) : M.Sublist (L.take (i + 1)) :=
  h.trans (List.take_sublist_take_left (Nat.le_succ i))
theorem grown_app {w wr w' : World} {o : Obj} {base n : Nat} {v : Value} {xs : List Value} {t : TypeId} {sz : Nat} (hg : w.grownBy wr none) (ho : wr.ownsRow base t sz v n xs) (hb : w.heap.size ≤ base) (h : (wr.alloc o).grownBy w' v.ownBlock) : w.grownBy w' none := by
  refine ⟨h.os.trans hg.os, h.tape.trans hg.tape, h.output.trans hg.output, ?_, fun q hq _ => ?_⟩
  · have := h.size; have := hg.size; simp at *; omega
  · have hq2 : q < wr.heap.size := Nat.lt_of_lt_of_le hq hg.size
    rw [h.block q (by simp; omega) (by intro e; have := (ho.lt q e.symm).1; omega), Below.heap_alloc wr _ q hq2]
    exact hg.block q hq (by simp)

set_option maxHeartbeats 4000000 in
set_option maxRecDepth 100000 in
theorem branchFewer_walk (a : Option Addr) (n cap : Nat) (L : List (List Int)) (b : Option Addr) (m cap2 : Nat) (w : World) (hl : Lz w a L) (_hlb : Lb L) (hn : L.length = n) (hnc : n ≤ cap) (hcm : cap ≤ 9223372036854775807) (hb : Bls w b m) (_hmc : m ≤ cap2) (_hcm2 : cap2 ≤ 9223372036854775807) :
    Calls Try.prog 4 #[.slice a n cap, .slice b m cap2] w fun en w' => en = .returned (.bool true) ∧ w.grownBy w' none := by
  obtain ⟨i0, hi, hz0, hz1, hz2⟩ := info_parts info_bytesS
  have HL := hid_intro hl
  have HB := hid_intro hb
  clear hl hb
  go_enter Try.func4, Try.ntmps4
  go_wp2_with fail
  refine (first5_any _).mono ?_
  rintro en w1 ⟨rfl, hg1⟩
  have G1 := hid_intro hg1
  clear hg1
  go_wp2_with fail
  refine (few_any a n cap L none 0 0 _ (HL.out.keptN G1.out) hn).mono ?_
  rintro en w1 ⟨rfl, rfl⟩
  cases hfw : fw L 0 with
  | false =>
    clear hfw
    go_wp2
    go_ret
    exact ⟨rfl, G1.out⟩
  | true =>
    have hp := fw_parts hfw
    have HKL : Hid (∀ x ∈ L, x.length ≤ 4096) := hp.2.2
    have hn2 : n ≤ 2000 := by omega
    clear hfw hp
    go_wp2
    go_loopw [6, 7] (fun sl si wr => ∃ (i : Nat) (M : List (List Int)) (xs : List Value), i ≤ n ∧ si = .int .i64 i ∧ M.Sublist (L.take i) ∧ M.length ≤ i ∧ Sw w xs M ∧ wr.ownsRow w.heap.size 26 1 sl M.length xs ∧ w.grownBy wr none) (fun _ si _ => n - (intOf si).toNat)
    case atStart => exact ⟨0, [], [], Nat.zero_le _, rfl, List.nil_sublist _, Nat.le_refl _, Sw.nil _, ⟨rfl, .inl ⟨rfl, rfl⟩⟩, G1.out⟩
    case round =>
      rename_i sl si wr
      obtain ⟨i, M, xs, hi', rfl, hsub, hml, hiw, hown, hg⟩ := hrel
      have HS := hid_intro hsub
      have HI := hid_intro hiw
      have HO := hid_intro hown
      have HG := hid_intro hg
      clear hsub hiw hown hg G1
      by_cases hlt : i < n
      · obtain ⟨b1, off, ao, k, c, rfl, q2, q3, q4, q5⟩ := HL.out.row i (by omega)
        have c0 := HG.out.cell q2 (by simp)
        have HX := hid_intro (HI.out.snoc q3 q4 q5)
        have HSI := hid_intro (lsub_in HS.out (by omega))
        have HSO := hid_intro (lsub_out HS.out)
        clear q2 q3 HS
        generalize L.getD i [] = x at *
        by_cases hin : i < m
        · obtain ⟨b', off', v, rfl, hv⟩ := HB.out.row i hin
          have cv := HG.out.cell hv (by simp)
          clear hv
          cases v with
          | false =>
            go_wp2_with (at_builtin; refine wpList_append_own _ rfl _ _ 22 rfl w.heap.size 26 i0 (.slice none 0 0) 1 24 Try.underlying22 hi hz0 hz1 hz2 rfl (by decide) _ M.length xs rfl (HO.out.alloc _) ⟨wr.heap.size, 0, none⟩ 1 1 [.slice ao k c] rfl rfl (cell_one_new _ _ _) (by intro u hu; simp at hu; subst hu; rfl) (by unfold maxLen; omega) (by omega) (by have := HG.out.size; simp; omega) ?_)
            intro v' w10 ho hg10 _
            have HO1 := hid_intro ho
            have HG1 := hid_intro (grown_app HG.out HO.out (Nat.le_refl _) hg10)
            clear ho hg10 HO HG c0 cv
            go_wp2
            go_roundw
            case rel => exact ⟨i + 1, M ++ [x], _, by omega, by go_num, HSI.out, by simp; omega, HX.out, by rw [List.length_append]; exact HO1.out, HG1.out⟩
            case measure => simp [intOf]; omega
          | true =>
            go_wp2
            go_roundw
            case rel => exact ⟨i + 1, M, xs, by omega, by go_num, HSO.out, by omega, HI.out, HO.out, HG.out⟩
            case measure => simp [intOf]; omega
        · go_wp2_with (at_builtin; refine wpList_append_own _ rfl _ _ 22 rfl w.heap.size 26 i0 (.slice none 0 0) 1 24 Try.underlying22 hi hz0 hz1 hz2 rfl (by decide) _ M.length xs rfl (HO.out.alloc _) ⟨wr.heap.size, 0, none⟩ 1 1 [.slice ao k c] rfl rfl (cell_one_new _ _ _) (by intro u hu; simp at hu; subst hu; rfl) (by unfold maxLen; omega) (by omega) (by have := HG.out.size; simp; omega) ?_)
          intro v' w10 ho hg10 _
          have HO1 := hid_intro ho
          have HG1 := hid_intro (grown_app HG.out HO.out (Nat.le_refl _) hg10)
          clear ho hg10 HO HG c0
          go_wp2
          go_roundw
          case rel => exact ⟨i + 1, M ++ [x], _, by omega, by go_num, HSI.out, by simp; omega, HX.out, by rw [List.length_append]; exact HO1.out, HG1.out⟩
          case measure => simp [intOf]; omega
      · have hin : i = n := by omega
        subst hin
        obtain ⟨a2, cap3, e1, e2, e3, e4, e5⟩ := HI.out.lz HG.out HO.out
        subst e1
        have HM := hid_intro e2
        have hsub : M.Sublist L := by
          have := HS.out
          rwa [← hn, List.take_length] at this
        have hS1 : Hid (M.length = i → bsize M = bsize L) := fun h => by rw [hsub.eq_of_length (by omega)]
        have hS2 : Hid (¬ M.length = i → bsize M < bsize L) := fun h => bsize_less hsub (fun x hx => by have := HKL.out x hx; omega) (by omega)
        have hS3 : Hid (13 ≤ bsize M) := bsize_min M
        have HKM : Hid (∀ x ∈ M, x.length ≤ 1000000) := fun x hx => by have := HKL.out x (hsub.subset hx); omega
        clear e2 hsub HS HI HO
        go_wp2_with fail
        refine (bsize_any a i cap L _ (HL.out.keptN HG.out) hn (by omega) hnc hcm (fun x hx => by have := HKL.out x hx; omega)).mono ?_
        rintro en w5 ⟨rfl, hg5⟩
        have G5 := hid_intro (grown_trans HG.out hg5)
        have M5 := hid_intro (HM.out.keptN hg5)
        clear hg5 HM HG
        go_wp2_with fail
        refine (bsize_any a2 M.length cap3 M _ M5.out rfl (by omega) e4 e5 HKM.out).mono ?_
        rintro en w6 ⟨rfl, hg6⟩
        have G6 := hid_intro (grown_trans G5.out hg6)
        clear hg6 G5 M5
        generalize bsize L = s1 at *
        generalize bsize M = s2 at *
        have h9 := hS3.out
        clear hS3
        by_cases he : M.length = i
        · have h5 := hS1.out he
          subst h5
          clear hS1 hS2
          go_wp2
          go_ret
          exact ⟨rfl, G6.out⟩
        · have h5 := hS2.out he
          have H13 : Hid (decide ((13 : Int) ≤ (s2 : Int)) = true) := decide_eq_true (by omega)
          clear hS1 hS2
          go_wp2
          go_ret
          exact ⟨by show Ending.returned (Value.bool (decide ((13 : Int) ≤ (s2 : Int)))) = _; rw [H13.out], G6.out⟩
end Go.Proofs.Ytomknmboapgmbab
