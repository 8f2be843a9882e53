import Derived.Test.YtomknmboapgmbaaBrIn
namespace Go.Proofs.Ytomknmboapgmbaa
open Go.RowKit

theorem Ow.blk {w : World} {g cap : Nat} {zs : List Int} (h : Ow w g cap zs) : ∃ cur, w.heap[g]? = some (.cells cur 5 (0, 0)) := by
  obtain ⟨cur, h1, _⟩ := h.ex
  exact ⟨cur, h1⟩
theorem ow_byt {w : World} {g cap : Nat} {zs ts : List Int} (h : Ow w g cap (zs ++ ts)) (n : Nat) (hn : n = zs.length) : Byt w (some ⟨g, 0, none⟩) n cap zs := h.part.byt n hn

theorem own_keptN {w w' : World} {base sz : Nat} {e : TypeId} {v : Value} {n : Nat} {xs : List Value} (h : w.ownsRow base e sz v n xs) (hg : w.grownBy w' none) : w'.ownsRow base e sz v n xs :=
  h.kept hg (by cases v.ownBlock with | none => exact .inl rfl | some g => exact .inr (by simp))

/-- Strings lent: each in a block of its own, two marks behind it. -/
structure Lp (w : World) (base : Nat) (gs : List (Nat × Nat)) (xs : List Value) (L : List (List Int)) : Prop where
  gl : gs.length = L.length
  len : xs.length = L.length
  el : ∀ j, j < L.length → xs[j]? = some (.slice (some ⟨(gs.getD j (0, 0)).1, 0, none⟩) (L.getD j []).length (gs.getD j (0, 0)).2) ∧ Ow w (gs.getD j (0, 0)).1 (gs.getD j (0, 0)).2 (L.getD j [] ++ [201, 202]) ∧ base ≤ (gs.getD j (0, 0)).1
  dif : ∀ i j, i < j → j < L.length → (gs.getD i (0, 0)).1 < (gs.getD j (0, 0)).1
theorem Lp.nil (w : World) (base : Nat) : Lp w base [] [] [] := ⟨rfl, rfl, fun j hj => by simp at hj, fun i j _ hj => by simp at hj⟩
theorem Lp.kept {w w' : World} {base : Nat} {gs : List (Nat × Nat)} {xs : List Value} {L : List (List Int)} {row : Option Nat} (h : Lp w base gs xs L) (hg : w.grownBy w' row) (hne : ∀ (g : Nat) (cur : Array Value), base ≤ g → w.heap[g]? = some (.cells cur 5 (0, 0)) → some g ≠ row) : Lp w' base gs xs L := by
  refine ⟨h.gl, h.len, fun j hj => ?_, h.dif⟩
  obtain ⟨h1, h2, h3⟩ := h.el j hj
  obtain ⟨cur, h4⟩ := h2.blk
  exact ⟨h1, h2.kept hg (hne _ cur h3 h4), h3⟩
theorem Lp.keptN {w w' : World} {base : Nat} {gs : List (Nat × Nat)} {xs : List Value} {L : List (List Int)} (h : Lp w base gs xs L) (hg : w.grownBy w' none) : Lp w' base gs xs L := h.kept hg (fun _ _ _ _ => by simp)
theorem Lp.snoc {w : World} {base : Nat} {gs : List (Nat × Nat)} {xs : List Value} {L : List (List Int)} (h : Lp w base gs xs L) {g c n : Nat} {x : List Int} (hx : Ow w g c (x ++ [201, 202])) (hn : x.length = n) (hb : base ≤ g) (hlt : ∀ j, j < L.length → (gs.getD j (0, 0)).1 < g) :
    Lp w base (gs ++ [(g, c)]) (xs ++ [.slice (some ⟨g, 0, none⟩) n c]) (L ++ [x]) := by
  have hl := h.len
  have hgl := h.gl
  refine ⟨by simp [hgl], by simp [hl], fun j hj => ?_, fun i j hij hj => ?_⟩
  · rw [List.length_append] at hj
    simp only [List.length_cons, List.length_nil] at hj
    by_cases e : j < L.length
    · obtain ⟨h1, h2, h3⟩ := h.el j e
      have eg : (L ++ [x]).getD j [] = L.getD j [] := by simp [List.getD, List.getElem?_append_left e]
      have ef : (gs ++ [(g, c)]).getD j (0, 0) = gs.getD j (0, 0) := by simp [List.getD, List.getElem?_append_left (show j < gs.length by omega)]
      rw [eg, ef]
      exact ⟨by rw [List.getElem?_append_left (by omega)]; exact h1, h2, h3⟩
    · obtain rfl : j = L.length := by omega
      have eg : (L ++ [x]).getD L.length [] = x := by simp [List.getD]
      have ef : (gs ++ [(g, c)]).getD L.length (0, 0) = (g, c) := by rw [← hgl]; simp [List.getD]
      rw [eg, ef, hn]
      exact ⟨by rw [List.getElem?_append_right (by omega), hl, Nat.sub_self]; rfl, hx, hb⟩
  · rw [List.length_append] at hj
    simp only [List.length_cons, List.length_nil] at hj
    have ei : (gs ++ [(g, c)]).getD i (0, 0) = gs.getD i (0, 0) := by simp [List.getD, List.getElem?_append_left (show i < gs.length by omega)]
    rw [ei]
    by_cases e : j < L.length
    · have ej : (gs ++ [(g, c)]).getD j (0, 0) = gs.getD j (0, 0) := by simp [List.getD, List.getElem?_append_left (show j < gs.length by omega)]
      rw [ej]; exact h.dif i j hij e
    · obtain rfl : j = L.length := by omega
      have ej : (gs ++ [(g, c)]).getD L.length (0, 0) = (g, c) := by rw [← hgl]; simp [List.getD]
      rw [ej]; exact hlt i hij

/-- A list lent: one more string behind all. -/
structure Ln (w : World) (base A cap h : Nat) (gs : List (Nat × Nat)) (xs : List Value) (L : List (List Int)) : Prop where
  own : w.ownsRow base 28 1 (.slice (some ⟨A, 0, none⟩) (L.length + 1) cap) (L.length + 1) (xs ++ [.slice (some ⟨h, 0, none⟩) 1 1])
  lp : Lp w base gs xs L
  last : Ow w h 1 [203]
  lb : base ≤ h
  sz : ∀ s ∈ L, s.length ≤ 1000000
theorem Ln.keptN {w w' : World} {base A cap h : Nat} {gs : List (Nat × Nat)} {xs : List Value} {L : List (List Int)} (k : Ln w base A cap h gs xs L) (hg : w.grownBy w' none) : Ln w' base A cap h gs xs L :=
  ⟨own_keptN k.own hg, k.lp.keptN hg, k.last.keptN hg, k.lb, k.sz⟩
theorem Ln.cap_le {w : World} {base A cap h : Nat} {gs : List (Nat × Nat)} {xs : List Value} {L : List (List Int)} (k : Ln w base A cap h gs xs L) : L.length + 1 ≤ cap ∧ cap ≤ 9223372036854775807 := by
  rcases k.own.2 with ⟨e, _⟩ | ⟨g, cap', cur, hv, _, _, hc, hm, _⟩
  · cases e
  · injection hv with _ _ e3
    subst e3
    exact ⟨hc, by unfold maxLen at hm; omega⟩
theorem Ln.cell {w : World} {base A cap h : Nat} {gs : List (Nat × Nat)} {xs : List Value} {L : List (List Int)} (k : Ln w base A cap h gs xs L) (i : Nat) (hi : i < L.length) : w.cell? ⟨A, i, none⟩ = some (.slice (some ⟨(gs.getD i (0, 0)).1, 0, none⟩) (L.getD i []).length (gs.getD i (0, 0)).2) := by
  have hl := k.lp.len
  rw [k.own.cellAt i (by omega), List.getElem?_append_left (by omega)]
  exact (k.lp.el i hi).1
theorem Ln.cellLast {w : World} {base A cap h : Nat} {gs : List (Nat × Nat)} {xs : List Value} {L : List (List Int)} (k : Ln w base A cap h gs xs L) : w.cell? ⟨A, L.length, none⟩ = some (.slice (some ⟨h, 0, none⟩) 1 1) := by
  have hl := k.lp.len
  rw [k.own.cellAt L.length (by omega), List.getElem?_append_right (by omega), hl, Nat.sub_self]; rfl
theorem Ln.lz {w : World} {base A cap h : Nat} {gs : List (Nat × Nat)} {xs : List Value} {L : List (List Int)} (k : Ln w base A cap h gs xs L) : Lz w (some ⟨A, 0, none⟩) L := by
  refine ⟨fun i hi => ?_⟩
  obtain ⟨_, h2, _⟩ := k.lp.el i hi
  have hle := h2.le
  have hmx := h2.max
  rw [List.length_append] at hle
  simp only [List.length_cons, List.length_nil] at hle
  exact ⟨A, 0, _, _, _, rfl, by rw [Nat.zero_add]; exact k.cell i hi, ow_byt h2 _ rfl, by omega, hmx⟩
/-- One byte of one string turned. -/
theorem Ln.set {w : World} {base A cap h : Nat} {gs : List (Nat × Nat)} {xs : List Value} {L : List (List Int)} (k : Ln w base A cap h gs xs L) (i : Nat) (hi : i < L.length) (j : Nat) (hj : j < (L.getD i []).length) (v : Int) :
    Lz (w.setCell ⟨(gs.getD i (0, 0)).1, j, none⟩ (.int .u8 v)) (some ⟨A, 0, none⟩) (L.set i ((L.getD i []).set j v)) := by
  have hg := grown_cell w (gs.getD i (0, 0)).1 j (.int .u8 v)
  obtain ⟨_, hi2, hi3⟩ := k.lp.el i hi
  obtain ⟨cur, hcur⟩ := hi2.blk
  have hA : some (gs.getD i (0, 0)).1 ≠ some A := own_ne k.own hcur (by decide)
  refine ⟨fun m hm => ?_⟩
  rw [List.length_set] at hm
  have hcell : (w.setCell ⟨(gs.getD i (0, 0)).1, j, none⟩ (.int .u8 v)).cell? ⟨A, 0 + m, none⟩ = some (.slice (some ⟨(gs.getD m (0, 0)).1, 0, none⟩) (L.getD m []).length (gs.getD m (0, 0)).2) := by
    rw [Nat.zero_add]
    exact hg.cell (k.cell m hm) (fun e => hA e.symm)
  obtain ⟨_, h2, _⟩ := k.lp.el m hm
  have hle := h2.le
  have hmx := h2.max
  rw [List.length_append] at hle
  simp only [List.length_cons, List.length_nil] at hle
  refine ⟨A, 0, _, _, _, rfl, hcell, ?_, by omega, hmx⟩
  by_cases e : m = i
  · subst e
    have eg : (L.set m ((L.getD m []).set j v)).getD m [] = (L.getD m []).set j v := by simp only [List.getD, List.getElem?_set_self hm, Option.getD_some]
    rw [eg]
    have h3 := h2.set j v (by rw [List.length_append]; omega)
    rw [List.set_append_left _ _ hj] at h3
    exact ow_byt h3 _ (by rw [List.length_set])
  · have eg : (L.set i ((L.getD i []).set j v)).getD m [] = L.getD m [] := by
      simp only [List.getD]
      rw [List.getElem?_set_ne (fun h => e h.symm)]
    rw [eg]
    refine ow_byt (h2.kept hg (fun e2 => ?_)) _ rfl
    have e3 := Option.some.inj e2
    rcases Nat.lt_or_gt_of_ne e with q | q
    · have := k.lp.dif m i q hi; omega
    · have := k.lp.dif i m q hm; omega

theorem grown_app5 {w wr w' : World} {o : Obj} {base n : Nat} {v : Value} {xs : List Value} {t : TypeId} {sz : Nat} (hg : w.grownBy wr none) (ho : wr.ownsRow base t sz v n xs) (hb : w.heap.size ≤ base) (h : (wr.alloc o).grownBy w' v.ownBlock) : w.grownBy w' none := by
  refine ⟨h.os.trans hg.os, h.tape.trans hg.tape, h.output.trans hg.output, ?_, fun q hq _ => ?_⟩
  · have := h.size; have := hg.size; simp at *; omega
  · have hq2 : q < wr.heap.size := Nat.lt_of_lt_of_le hq hg.size
    rw [h.block q (by simp; omega) (by intro e; have := (ho.lt q e.symm).1; omega), Below.heap_alloc wr _ q hq2]
    exact hg.block q hq (by simp)

set_option maxHeartbeats 2000000 in
set_option maxRecDepth 100000 in
theorem lent_any (a : Option Addr) (n cap : Nat) (L : List (List Int)) (w : World) (hl : Lz w a L) (hn : L.length = n) (hm : n ≤ 5000) (hs : ∀ s ∈ L, s.length ≤ 1000000) :
    Calls Try.prog 11 #[.slice a n cap] w fun en w' => (∃ A c h gs xs, en = .returned (.slice (some ⟨A, 0, none⟩) n c) ∧ Ln w' w.heap.size A c h gs xs L) ∧ w.grownBy w' none := by
  obtain ⟨i0, hi, hz0, hz1, hz2⟩ := info_parts info_bytesS
  have HL := hid_intro hl
  have HS := hid_intro hs
  clear hl hs
  go_enter Try.func11, Try.ntmps11
  go_wp2
  go_loopw [3, 4, 5] (fun sl si _ wr => ∃ (i : Nat) (gs : List (Nat × Nat)) (xs : List Value), i ≤ n ∧ si = .int .i64 i ∧ Lp wr w.heap.size gs xs (L.take i) ∧ wr.ownsRow w.heap.size 28 1 sl i xs ∧ w.grownBy wr none) (fun _ si _ _ => n - (intOf si).toNat)
  case atStart => exact ⟨0, [], [], Nat.zero_le _, rfl, Lp.nil _ _, ⟨rfl, .inl ⟨rfl, rfl⟩⟩, World.grownBy.refl _ _⟩
  case round =>
    obtain ⟨i, gs, xs, hi', rfl, hlp, hown, hg⟩ := hrel
    have HP := hid_intro hlp
    have HO := hid_intro hown
    have HG := hid_intro hg
    clear hlp hown hg
    by_cases hlt : i < n
    · obtain ⟨b1, off, ao, k, c, rfl, q2, q3, q4, q5⟩ := HL.out.row i (by omega)
      have c0 := HG.out.cell q2 (by simp)
      have B0 := hid_intro (q3.keptN HG.out)
      have HQ2 := hid_intro q2
      have hk := q3.len
      have hk2 := HS.out _ (lget_mem (show i < L.length by omega))
      have HTK : Hid (L.take (i + 1) = L.take i ++ [L.getD i []]) := by
        show _ = _
        rw [List.take_add_one, List.getElem?_eq_getElem (show i < L.length by omega)]
        simp [List.getD, List.getElem?_eq_getElem (show i < L.length by omega)]
      have HTL : Hid ((L.take i).length = i) := by show _ = _; rw [List.length_take]; omega
      clear q2 q3
      generalize L.getD i [] = x at *
      go_wp2_with fail
      refine (refBytes_any ao k c x _ B0.out (by omega)).mono ?_
      rintro en w2 ⟨rfl, hown2, hg2, hs2⟩
      have O2 := hid_intro (hown2.alloc (.cells #[.int .u8 201, .int .u8 202] 5))
      have hown2' := hown2
      have HG2 := hid_intro hg2
      have HP2 := hid_intro (HP.out.keptN hg2)
      have HO2 := hid_intro (own_keptN HO.out hg2)
      have BL := hid_intro (Byt.lit w2 5 #[.int .u8 201, .int .u8 202] [201, 202] 2 rfl rfl)
      have HWR := hid_intro HG.out.size
      have HGA := hid_intro (grown_trans HG.out hg2)
      clear hown2 hg2 B0
      have HO2' := hid_intro O2.out
      go_wp2_with (at_builtin; refine wpList_append_byt rfl _ _ rfl wr.heap.size _ k x rfl O2.out (some ⟨w2.heap.size, 0, none⟩) 2 2 [201, 202] rfl BL.out (by omega) (by simp; omega) ?_)
      intro v3 w3 ho3 hg3
      have ho3' : w3.ownsRow wr.heap.size 5 1 v3 (k + 2) ((x ++ [201, 202]).map (Value.int .u8)) := by simpa using ho3
      obtain ⟨g, cc, rfl, hgb, hgl, hgc⟩ := owns_shape ho3' (by omega)
      obtain ⟨hOw, _, _, _⟩ := Ow.of_owns ho3'
      have hne : ∀ (q : Nat), q < wr.heap.size → some q ≠ (Value.slice (some ⟨wr.heap.size, 0, none⟩) k k).ownBlock := fun q hq e => by
        have := (O2.out.lt q e.symm).1; omega
      have ga := World.grownBy_alloc w2 (.cells #[.int .u8 201, .int .u8 202] 5) none
      have hg13 : wr.grownBy w3 none := grown_own HG2.out hown2' (Nat.le_refl _) hg3
      have HP3 := hid_intro (HP.out.keptN hg13)
      have HO3 := hid_intro (own_keptN HO.out hg13)
      have HG3 := hid_intro (grown_trans HG.out hg13)
      have HOW := hid_intro hOw
      have c1 := HG3.out.cell HQ2.out (by simp)
      have HLT : Hid (∀ j, j < (L.take i).length → (gs.getD j (0, 0)).1 < g) := fun j hj => by
        have := (HP.out.el j hj).2.1.lt
        omega
      have hwg := HG.out.size
      clear hne ga hg13 hg3 ho3 ho3' hOw HP HO HG HG2 O2 BL HP2 HO2 HGA HO2' c0 hown2'
      have g1 : (k : Int) ≤ (cc : Int) := by omega
      have g2 : (0 : Int) ≤ (k : Int) := by omega
      go_wp2_with (at_builtin; refine wpList_append_own _ rfl _ _ 22 rfl w.heap.size 28 i0 (.slice none 0 0) 1 24 Try.underlying22 hi hz0 hz1 hz2 rfl (by decide) _ i xs rfl (HO3.out.alloc _) ⟨w3.heap.size, 0, none⟩ 1 1 [.slice (some ⟨g, 0, none⟩) k cc] rfl rfl (cell_one_new _ _ _) (by intro u hu; simp at hu; subst hu; rfl) (by unfold maxLen; omega) (by omega) (by have := HG3.out.size; simp; omega) ?_)
      intro v' w4 ho4 hg4 _
      have hg34 := World.grownBy_alloc w3 (.cells #[.slice (some ⟨g, 0, none⟩) k cc] 28) none
      have hnu : ∀ (q : Nat) (cur : Array Value), w.heap.size ≤ q → (w3.alloc (.cells #[.slice (some ⟨g, 0, none⟩) k cc] 28)).heap[q]? = some (.cells cur 5 (0, 0)) → some q ≠ _ := fun q cur _ hq => own_ne (HO3.out.alloc (.cells #[.slice (some ⟨g, 0, none⟩) k cc] 28)) hq (by decide)
      have HP4 := hid_intro ((HP3.out.keptN hg34).kept hg4 hnu)
      have HW4 : Hid (Ow w4 g cc (x ++ [201, 202])) := by
        have h1 := HOW.out.keptN hg34
        obtain ⟨cur, hcur⟩ := h1.blk
        exact h1.kept hg4 (hnu g cur (by omega) hcur)
      have HG4 := hid_intro (grown_app5 HG3.out HO3.out (Nat.le_refl _) hg4)
      have HO4 := hid_intro ho4
      clear hg34 hnu ho4 hg4 HP3 HO3 HG3 HOW c1
      go_wp2
      go_roundw
      case rel =>
        refine ⟨i + 1, gs ++ [(g, cc)], _, by omega, by go_num, ?_, HO4.out, HG4.out⟩
        rw [HTK.out]
        exact HP4.out.snoc HW4.out hk (by omega) HLT.out
      case measure => simp [intOf]; omega
    · have hin : i = n := by omega
      subst hin
      have hLt : L.take i = L := by rw [← hn, List.take_length]
      rw [hLt] at HP
      clear hLt
      have b1 := Byt.lit wr 5 #[.int .u8 203] [203] 1 rfl rfl
      have OW1 : Hid (Ow (wr.alloc (.cells #[.int .u8 203] 5)) wr.heap.size 1 [203]) := ⟨⟨#[.int .u8 203], heap_alloc_new wr _, rfl, fun j hj => by
        obtain rfl : j = 0 := by simp at hj; omega
        rfl⟩, by simp, by omega⟩
      have ga := World.grownBy_alloc wr (.cells #[.int .u8 203] 5) none
      have HP1 := hid_intro (HP.out.keptN ga)
      have HO1 := hid_intro (own_keptN HO.out ga)
      have HG1 := hid_intro (grown_trans HG.out ga)
      have hwg := HG.out.size
      have hs1 : (wr.alloc (.cells #[.int .u8 203] 5)).heap.size = wr.heap.size + 1 := by simp
      clear b1 ga HP HO HG
      go_wp2_with (at_builtin; refine wpList_append_own _ rfl _ _ 22 rfl w.heap.size 28 i0 (.slice none 0 0) 1 24 Try.underlying22 hi hz0 hz1 hz2 rfl (by decide) _ i xs rfl (HO1.out.alloc _) ⟨wr.heap.size + 1, 0, none⟩ 1 1 [.slice (some ⟨wr.heap.size, 0, none⟩) 1 1] rfl rfl (by rw [← hs1]; exact cell_one_new _ _ _) (by intro u hu; simp at hu; subst hu; rfl) (by unfold maxLen; omega) (by omega) (by have := HG1.out.size; simp; omega) ?_)
      intro v' w4 ho4 hg4 _
      generalize wr.alloc (.cells #[.int .u8 203] 5) = w3 at *
      generalize wr.heap.size = h at *
      have hg34 := World.grownBy_alloc w3 (.cells #[.slice (some ⟨h, 0, none⟩) 1 1] 28) none
      have hnu : ∀ (q : Nat) (cur : Array Value), w.heap.size ≤ q → (w3.alloc (.cells #[.slice (some ⟨h, 0, none⟩) 1 1] 28)).heap[q]? = some (.cells cur 5 (0, 0)) → some q ≠ _ := fun q cur _ hq => own_ne (HO1.out.alloc (.cells #[.slice (some ⟨h, 0, none⟩) 1 1] 28)) hq (by decide)
      have HP4 := hid_intro ((HP1.out.keptN hg34).kept hg4 hnu)
      have HW4 : Hid (Ow w4 h 1 [203]) := by
        have h1 := OW1.out.keptN hg34
        obtain ⟨cur, hcur⟩ := h1.blk
        exact h1.kept hg4 (hnu h cur (by omega) hcur)
      have HG4 := hid_intro (grown_app5 HG1.out HO1.out (Nat.le_refl _) hg4)
      rcases ho4.2 with ⟨e, h0⟩ | ⟨A, cap', cur, hv, _, _, hc, hmx, _⟩
      · omega
      · subst hv
        have HLN : Hid (Ln w4 w.heap.size A cap' h gs xs L) := ⟨by rw [hn]; exact ho4, HP4.out, HW4.out, by omega, HS.out⟩
        have g1 : (i : Int) ≤ (cap' : Int) := by omega
        have g2 : (0 : Int) ≤ (i : Int) := by omega
        clear hg34 hnu ho4 hg4 HP4 HW4 HP1 HO1 HG1 OW1 hs1
        go_wp2
        go_ret
        exact ⟨⟨A, cap', h, gs, xs, rfl, HLN.out⟩, HG4.out⟩
end Go.Proofs.Ytomknmboapgmbaa
