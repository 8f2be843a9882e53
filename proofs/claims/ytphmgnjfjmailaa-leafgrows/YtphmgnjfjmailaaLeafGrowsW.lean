import Derived.Test.YtphmgnjfjmailaaItemsIn
namespace Go.Proofs.Ytphmgnjfjmailaa
open Go.ChangeShapes Go.WideShapes Go.ChangeAt Go.WideMaps Go.WideElems Go.RowKit Go.Deep

/-- A list of marks. -/
structure Bls (w : World) (a : Option Addr) (n : Nat) : Prop where
  row : ∀ j, j < n → ∃ b off v, a = some ⟨b, off, none⟩ ∧ w.cell? ⟨b, off + j, none⟩ = some (.bool v)

theorem cells_bool : Try.prog.cellsOf 4 = 1 := by kernel_rfl
set_option maxRecDepth 100000 in
theorem bools_open {H : Type} {enc : TypeId × Value → H} {w : World} {base : Nat} {held : Bool} {fuel : Nat} {a : Option Addr} {len cap : Nat} {x : DataW H × List MemPlace}
    (h : DataW.trod enc Try.prog w base (fun _ => true) held fuel 46 [.slice a len cap] = some x) : Bls w a len ∧ len ≤ cap ∧ cap ≤ 9223372036854775807 := by
  rcases open_slice Try.underlying46 h with ⟨hcs, _⟩ | ⟨ad, l, c, m, n, D, Pc, hcs, _, hl, hm, hmm, _, hel⟩
  · simp at hcs
    obtain ⟨rfl, rfl, rfl⟩ := hcs
    exact ⟨⟨fun j hj => by omega⟩, Nat.le_refl _, by omega⟩
  · simp at hcs
    obtain ⟨rfl, rfl, rfl⟩ := hcs
    have hlm : len ≤ m := by rw [hmm]; split <;> omega
    have each : ∀ i, i < len → ∃ v, w.cell? ((ad.add (i * 1)).add 0) = some (.bool v) := by
      intro i hi
      obtain ⟨cs', h1, h2⟩ := hel i (by omega)
      rw [cells_bool] at h1
      obtain ⟨v, e, _⟩ := DataW.trod_bool Try.underlying4 h2
      obtain ⟨_, _, hc⟩ := World.cells?_some h1
      subst e
      exact ⟨v, by simpa using hc 0 (by omega)⟩
    refine ⟨⟨fun i hi => ?_⟩, hl, by unfold maxLen at hm; omega⟩
    obtain ⟨b, off, rfl⟩ : ∃ b off, ad = ⟨b, off, none⟩ := by
      obtain ⟨_, h6⟩ := each 0 (by omega)
      have e' : (ad.add (0 * 1)).add 0 = ad := by simp [Addr.add]
      rw [e'] at h6
      exact cell_plain h6
    obtain ⟨v, h3⟩ := each i hi
    simp only [Addr.add_lit, Nat.add_zero, Nat.mul_one] at h3
    exact ⟨b, off, v, rfl, h3⟩

/-- Cells of items that lay there already. -/
structure Iw (w : World) (xs : List Value) (L : List It) : Prop where
  len : xs.length = L.length * 4
  el : ∀ j, j < L.length → ∃ ao n c bo m d, xs[j * 4]? = some (.slice ao n c) ∧ xs[j * 4 + 1]? = some (.slice bo m d) ∧ xs[j * 4 + 2]? = some (.int .i64 (L.getD j it0).size) ∧ xs[j * 4 + 3]? = some (.int .i64 (L.getD j it0).first) ∧
    Byt w ao n c (L.getD j it0).key ∧ n ≤ c ∧ c ≤ 9223372036854775807 ∧ Byt w bo m d (L.getD j it0).val ∧ m ≤ d ∧ d ≤ 9223372036854775807
theorem Iw.nil (w : World) : Iw w [] [] := ⟨rfl, fun j hj => by simp at hj⟩
theorem Iw.snoc {w : World} {xs : List Value} {L : List It} {ao : Option Addr} {n c : Nat} {bo : Option Addr} {m d : Nat} {x : It} (h : Iw w xs L) (h1 : Byt w ao n c x.key) (h2 : n ≤ c) (h3 : c ≤ 9223372036854775807) (h4 : Byt w bo m d x.val) (h5 : m ≤ d) (h6 : d ≤ 9223372036854775807) (s f : Int) (hs : x.size = s) (hf : x.first = f) :
    Iw w (xs ++ [.slice ao n c, .slice bo m d, .int .i64 s, .int .i64 f]) (L ++ [x]) := by
  have hl := h.len
  refine ⟨by simp [hl]; omega, fun j hj => ?_⟩
  rw [List.length_append] at hj
  simp only [List.length_cons, List.length_nil] at hj
  by_cases e : j < L.length
  · obtain ⟨ao, n, c, bo, m, d, k1, k2, k3, k4, k5⟩ := h.el j e
    have eg : (L ++ [x]).getD j it0 = L.getD j it0 := by simp [List.getD, List.getElem?_append_left e]
    rw [eg]
    exact ⟨ao, n, c, bo, m, d, by rw [List.getElem?_append_left (by omega)]; exact k1, by rw [List.getElem?_append_left (by omega)]; exact k2, by rw [List.getElem?_append_left (by omega)]; exact k3, by rw [List.getElem?_append_left (by omega)]; exact k4, k5⟩
  · obtain rfl : j = L.length := by omega
    have eg : (L ++ [x]).getD L.length it0 = x := by simp [List.getD]
    rw [eg, hs, hf]
    refine ⟨ao, n, c, bo, m, d, ?_, ?_, ?_, ?_, h1, h2, h3, h4, h5, h6⟩
    · rw [List.getElem?_append_right (by omega), hl, Nat.sub_self]; rfl
    · rw [List.getElem?_append_right (by omega), hl, Nat.add_sub_cancel_left]; rfl
    · rw [List.getElem?_append_right (by omega), hl, Nat.add_sub_cancel_left]; rfl
    · rw [List.getElem?_append_right (by omega), hl, Nat.add_sub_cancel_left]; rfl
theorem Iw.il {w wr : World} {base : Nat} {v : Value} {n : Nat} {xs : List Value} {L : List It} (h : Iw w xs L) (hg : w.grownBy wr none) (ho : wr.ownsRow base 48 4 v n xs) : ∃ a cap, v = .slice a n cap ∧ Il wr a L ∧ L.length = n := by
  have hl := h.len
  have hn : L.length = n := by have := ho.1; omega
  rcases ho.2 with ⟨rfl, rfl⟩ | ⟨g, cap, cur, rfl, _, _, hc, hm, _⟩
  · obtain rfl : L = [] := List.length_eq_zero_iff.1 hn
    exact ⟨none, 0, rfl, Il.zero _ _, rfl⟩
  · refine ⟨_, cap, rfl, ⟨fun i hi => ?_⟩, hn⟩
    obtain ⟨ao, n', c, bo, m, d, h1, h2, h3, h4, h5, h6, h7, h8, h9, h10⟩ := h.el i hi
    refine ⟨g, 0, ao, n', c, bo, m, d, rfl, ?_, ?_, ?_, ?_, h5.keptN hg, h6, h7, h8.keptN hg, h9, h10⟩
    · rw [Nat.zero_add, ho.cellAt _ (by omega)]; exact h1
    · rw [Nat.zero_add, ho.cellAt _ (by omega)]; exact h2
    · rw [Nat.zero_add, ho.cellAt _ (by omega)]; exact h3
    · rw [Nat.zero_add, ho.cellAt _ (by omega)]; exact h4

theorem sub_in {M L : List It} {i : Nat} (h : M.Sublist (L.take i)) (hi : i < L.length) : (M ++ [L.getD i it0]).Sublist (L.take (i + 1)) := by
  have e : L.getD i it0 = L[i] := by simp [List.getD, List.getElem?_eq_getElem hi]
  rw [List.take_add_one, List.getElem?_eq_getElem hi, e]
  exact h.append (List.Sublist.refl _)
theorem sub_out {M L : List It} {i : Nat} (h : M.Sublist (L.take i)) : M.Sublist (L.take (i + 1)) := h.trans (List.take_sublist_take_left (by omega))

set_option maxHeartbeats 4000000 in
set_option maxRecDepth 100000 in
theorem grows_walk (a : Option Addr) (n cap : Nat) (L : List It) (bo : Option Addr) (m d : Nat) (w : World) (hl : Il w a L) (_hib : Ib L) (hn : L.length = n) (_hnc : n ≤ cap) (_hcm : cap ≤ 9223372036854775807) (hb : Bls w bo m) (_hmd : m ≤ d) (hdm : d ≤ 9223372036854775807) :
    Calls Try.prog 8 #[.slice a n cap, .slice bo m d] w fun en w' => en = .returned (.bool true) ∧ w.grownBy w' none := by
  obtain ⟨i0, hi, hz0, hz1, hz2⟩ := info_parts info_item
  have HL := hid_intro hl
  have HB := hid_intro hb
  clear hl hb
  go_enter Try.func8, Try.ntmps8
  go_wp2_with fail
  refine (first4_any _).mono ?_
  rintro en w1 ⟨rfl, hg1⟩
  have G1 := hid_intro hg1
  clear hg1
  go_wp2_with fail
  refine (short_any a n cap L _ (HL.out.keptN G1.out) hn).mono ?_
  rintro en w2 ⟨rfl, hq2⟩
  have G2 := hid_intro (grown_trans G1.out (hq2.grown none))
  clear hq2 G1
  cases hsh : sh L with
  | false =>
    clear hsh
    go_wp2
    go_ret
    exact ⟨rfl, G2.out⟩
  | true =>
    have hsp := (sh_parts hsh).1
    have HKL : Hid (∀ x ∈ L, x.key.length ≤ 5000) := fun x hx => ((sh_parts hsh).2 x hx).1
    clear hsh
    go_wp2
    go_loopw [6, 7] (fun sl si wr => ∃ (i : Nat) (M : List It) (xs : List Value), i ≤ n ∧ si = .int .i64 i ∧ M.Sublist (L.take i) ∧ M.length ≤ i ∧ Iw w xs M ∧ wr.ownsRow w.heap.size 48 4 sl M.length xs ∧ w.grownBy wr none) (fun _ si _ => n - (intOf si).toNat)
    case atStart => exact ⟨0, [], [], Nat.zero_le _, rfl, List.nil_sublist _, Nat.le_refl _, Iw.nil _, ⟨rfl, .inl ⟨rfl, rfl⟩⟩, G2.out⟩
    case round =>
      rename_i sl si wr
      obtain ⟨i, M, xs, hi', rfl, hsub, hml, hiw, hown, hg⟩ := hrel
      have HS := hid_intro hsub
      have HI := hid_intro hiw
      have HO := hid_intro hown
      have HG := hid_intro hg
      clear hsub hiw hown hg G2
      by_cases hlt : i < n
      · obtain ⟨b, off, ao, k, c, bo', m2, d2, rfl, q2, q3, q4, q5, q6, q7, q8, q9, q10, q11⟩ := HL.out.row i (by omega)
        have c0 := HG.out.cell q2 (by simp)
        have c1 := HG.out.cell q3 (by simp)
        have c2 := HG.out.cell q4 (by simp)
        have c3 := HG.out.cell q5 (by simp)
        have HX := hid_intro (HI.out.snoc q6 q7 q8 q9 q10 q11 _ _ rfl rfl)
        have HSI := hid_intro (sub_in HS.out (by omega))
        have HSO := hid_intro (sub_out HS.out)
        clear q2 q3 q4 q5 q6 q9 HS
        generalize (L.getD i it0).size = sz at *
        generalize (L.getD i it0).first = fs at *
        generalize L.getD i it0 = x at *
        obtain ⟨bb, hbb⟩ : ∃ bb : Bool, bb = true ∨ bb = false := ⟨true, .inl rfl⟩
        clear hbb bb
        by_cases hin : i < m
        · obtain ⟨b', off', v, rfl, hv⟩ := HB.out.row i hin
          have cv := HG.out.cell hv (by simp)
          clear hv
          cases v with
          | true =>
            go_wp2_with (at_builtin; refine wpList_append_own _ rfl _ _ 22 rfl w.heap.size 48 i0 (.agg #[.slice none 0 0, .slice none 0 0, .int .i64 0, .int .i64 0]) 4 64 Try.underlying22 hi hz0 hz1 hz2 rfl (by decide) _ M.length xs rfl (HO.out.alloc _) ⟨wr.heap.size, 0, none⟩ 1 1 [.slice ao k c, .slice bo' m2 d2, .int .i64 sz, .int .i64 fs] rfl rfl (cell_four_new _ _ _ _ _ _) (by intro u hu; simp at hu; rcases hu with rfl | rfl | rfl | rfl <;> rfl) (by unfold maxLen; omega) (by omega) (by have := HG.out.size; simp; omega) ?_)
            intro v' w10 ho hg10 _
            have HO1 := hid_intro ho
            have HG1 : Hid (w.grownBy w10 none) := by
              refine ⟨hg10.os.trans HG.out.os, hg10.tape.trans HG.out.tape, hg10.output.trans HG.out.output, ?_, fun q hq _ => ?_⟩
              · have := hg10.size; have := HG.out.size; simp at *; omega
              · have hq2 : q < wr.heap.size := Nat.lt_of_lt_of_le hq HG.out.size
                rw [hg10.block q (by simp; omega) (by intro e; have := (HO.out.lt q e.symm).1; omega), Below.heap_alloc wr _ q hq2]
                exact HG.out.block q hq (by simp)
            clear ho hg10 HO HG c0 c1 c2 c3 cv
            go_wp2
            go_roundw
            case rel => exact ⟨i + 1, M ++ [x], _, by omega, by go_num, HSI.out, by simp; omega, HX.out, by rw [List.length_append]; exact HO1.out, HG1.out⟩
            case measure => simp [intOf]; omega
          | false =>
            go_wp2
            go_roundw
            case rel => exact ⟨i + 1, M, xs, by omega, by go_num, HSO.out, by omega, HI.out, HO.out, HG.out⟩
            case measure => simp [intOf]; omega
        · go_wp2_with (at_builtin; refine wpList_append_own _ rfl _ _ 22 rfl w.heap.size 48 i0 (.agg #[.slice none 0 0, .slice none 0 0, .int .i64 0, .int .i64 0]) 4 64 Try.underlying22 hi hz0 hz1 hz2 rfl (by decide) _ M.length xs rfl (HO.out.alloc _) ⟨wr.heap.size, 0, none⟩ 1 1 [.slice ao k c, .slice bo' m2 d2, .int .i64 sz, .int .i64 fs] rfl rfl (cell_four_new _ _ _ _ _ _) (by intro u hu; simp at hu; rcases hu with rfl | rfl | rfl | rfl <;> rfl) (by unfold maxLen; omega) (by omega) (by have := HG.out.size; simp; omega) ?_)
          intro v' w10 ho hg10 _
          have HO1 := hid_intro ho
          have HG1 : Hid (w.grownBy w10 none) := by
            refine ⟨hg10.os.trans HG.out.os, hg10.tape.trans HG.out.tape, hg10.output.trans HG.out.output, ?_, fun q hq _ => ?_⟩
            · have := hg10.size; have := HG.out.size; simp at *; omega
            · have hq2 : q < wr.heap.size := Nat.lt_of_lt_of_le hq HG.out.size
              rw [hg10.block q (by simp; omega) (by intro e; have := (HO.out.lt q e.symm).1; omega), Below.heap_alloc wr _ q hq2]
              exact HG.out.block q hq (by simp)
          clear ho hg10 HO HG c0 c1 c2 c3
          go_wp2
          go_roundw
          case rel => exact ⟨i + 1, M ++ [x], _, by omega, by go_num, HSI.out, by simp; omega, HX.out, by rw [List.length_append]; exact HO1.out, HG1.out⟩
          case measure => simp [intOf]; omega
      · have hin : i = n := by omega
        subst hin
        obtain ⟨a2, cap2, e1, e2, e3⟩ := HI.out.il HG.out HO.out
        subst e1
        have HM := hid_intro e2
        have hsub : M.Sublist L := by
          have := HS.out
          rwa [← hn, List.take_length] at this
        have hS1 : Hid (M.length = i → size M = size L) := fun h => by rw [hsub.eq_of_length (by omega)]
        have hS2 : Hid (¬ M.length = i → size M < size L) := fun h => size_less hsub (fun x hx => by have := HKL.out x hx; omega) (by omega)
        have HKM : Hid (∀ x ∈ M, x.key.length ≤ 1000000) := fun x hx => by have := HKL.out x (hsub.subset hx); omega
        have HBd := hid_intro (fun (K : List It) (h1 : K.length ≤ 5000) (h2 : ∀ x ∈ K, x.key.length ≤ 1000000) => h1)
        clear e2 hsub HS HI HO
        go_wp2_with fail
        refine (size_any a i cap L _ (HL.out.keptN HG.out) hn (by omega) (fun x hx => by have := HKL.out x hx; omega)).mono ?_
        rintro en w5 ⟨rfl, hg5⟩
        have G5 := hid_intro (grown_trans HG.out hg5)
        have M5 := hid_intro (HM.out.keptN hg5)
        clear hg5 HM HG
        go_wp2_with fail
        refine (size_any a2 M.length cap2 M _ M5.out rfl (by omega) HKM.out).mono ?_
        rintro en w6 ⟨rfl, hg6⟩
        have G6 := hid_intro (grown_trans G5.out hg6)
        clear hg6 G5 M5 HBd
        generalize size L = s1 at *
        generalize size M = s2 at *
        by_cases he : M.length = i
        · have h5 := hS1.out he
          subst h5
          clear hS1 hS2
          go_wp2
          go_ret
          exact ⟨rfl, G6.out⟩
        · have h5 := hS2.out he
          clear hS1 hS2
          go_wp2
          go_ret
          exact ⟨rfl, G6.out⟩
end Go.Proofs.Ytphmgnjfjmailaa
