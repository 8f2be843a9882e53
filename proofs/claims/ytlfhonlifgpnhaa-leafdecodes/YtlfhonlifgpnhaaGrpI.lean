import Derived.Test.YtlfhonlifgpnhaaLeaf9
namespace Go.Proofs.Ytlfhonlifgpnhaa
open Go.RowKit

theorem U8.kept {w w' : World} {b : Nat} {row : Option Nat} (h : U8 w b) (hg : w.grownBy w' row) (hne : some b ≠ row) : U8 w' b := by
  obtain ⟨cur, h1⟩ := h
  exact ⟨cur, (hg.block b (Array.getElem?_eq_some_iff.1 h1).1 hne).trans h1⟩
theorem Im.kept {w w' : World} {R : Nat} {ao : Option Addr} {n c : Nat} {bo : Option Addr} {m d : Nat} {x : It} {row : Option Nat} (h : Im w R ao n c bo m d x) (hg : w.grownBy w' row) (hne : ∀ b, b ≠ R → U8 w b → some b ≠ row) : Im w' R ao n c bo m d x :=
  ⟨h.key.kept hg (fun ad e hn => hne _ (h.kb ad e hn).1 (h.kb ad e hn).2), h.kc, h.val.kept hg (fun ad e hn => hne _ (h.vb ad e hn).1 (h.vb ad e hn).2), h.vc,
    fun ad e hn => ⟨(h.kb ad e hn).1, (h.kb ad e hn).2.kept hg (hne _ (h.kb ad e hn).1 (h.kb ad e hn).2)⟩, fun ad e hn => ⟨(h.vb ad e hn).1, (h.vb ad e hn).2.kept hg (hne _ (h.vb ad e hn).1 (h.vb ad e hn).2)⟩⟩

/-- The cells of items. -/
structure Iv (w : World) (R : Nat) (xs : List Value) (L : List It) : Prop where
  len : xs.length = L.length * 4
  el : ∀ j, j < L.length → ∃ ao n c bo m d, xs[j * 4]? = some (.slice ao n c) ∧ xs[j * 4 + 1]? = some (.slice bo m d) ∧ xs[j * 4 + 2]? = some (.int .i64 (L.getD j it0).size) ∧ xs[j * 4 + 3]? = some (.int .i64 (L.getD j it0).first) ∧ Im w R ao n c bo m d (L.getD j it0)
theorem Iv.nil (w : World) (R : Nat) : Iv w R [] [] := ⟨rfl, fun j hj => by simp at hj⟩
theorem Iv.kept {w w' : World} {R : Nat} {xs : List Value} {L : List It} {row : Option Nat} (h : Iv w R xs L) (hg : w.grownBy w' row) (hne : ∀ b, b ≠ R → U8 w b → some b ≠ row) : Iv w' R xs L := by
  refine ⟨h.len, fun j hj => ?_⟩
  obtain ⟨ao, n, c, bo, m, d, h1, h2, h3, h4, h5⟩ := h.el j hj
  exact ⟨ao, n, c, bo, m, d, h1, h2, h3, h4, h5.kept hg hne⟩
theorem Iv.snoc {w : World} {R : Nat} {xs : List Value} {L : List It} {ao : Option Addr} {n c : Nat} {bo : Option Addr} {m d : Nat} {x : It} (h : Iv w R xs L) (hx : Im w R ao n c bo m d x) (s f : Int) (hs : x.size = s) (hf : x.first = f) :
    Iv w R (xs ++ [.slice ao n c, .slice bo m d, .int .i64 s, .int .i64 f]) (L ++ [x]) := by
  have hl := h.len
  refine ⟨by simp [hl]; omega, fun j hj => ?_⟩
  rw [List.length_append] at hj
  simp only [List.length_cons, List.length_nil] at hj
  by_cases e : j < L.length
  · obtain ⟨ao, n, c, bo, m, d, h1, h2, h3, h4, h5⟩ := h.el j e
    have eg : (L ++ [x]).getD j it0 = L.getD j it0 := by simp [List.getD, List.getElem?_append_left e]
    rw [eg]
    exact ⟨ao, n, c, bo, m, d, by rw [List.getElem?_append_left (by omega)]; exact h1, by rw [List.getElem?_append_left (by omega)]; exact h2, by rw [List.getElem?_append_left (by omega)]; exact h3, by rw [List.getElem?_append_left (by omega)]; exact h4, h5⟩
  · obtain rfl : j = L.length := by omega
    have eg : (L ++ [x]).getD L.length it0 = x := by simp [List.getD]
    rw [eg, hs, hf]
    refine ⟨ao, n, c, bo, m, d, ?_, ?_, ?_, ?_, hx⟩
    · rw [List.getElem?_append_right (by omega), hl, Nat.sub_self]; rfl
    · rw [List.getElem?_append_right (by omega), hl, Nat.add_sub_cancel_left]; rfl
    · rw [List.getElem?_append_right (by omega), hl, Nat.add_sub_cancel_left]; rfl
    · rw [List.getElem?_append_right (by omega), hl, Nat.add_sub_cancel_left]; rfl

theorem Iv.il {w : World} {R base : Nat} {v : Value} {n : Nat} {xs : List Value} {L : List It} (h : Iv w R xs L) (ho : w.ownsRow base 48 4 v n xs) : ∃ a cap, v = .slice a n cap ∧ Il w a L ∧ L.length = n ∧ n ≤ cap ∧ cap ≤ 9223372036854775807 := by
  have hl := h.len
  have hn : L.length = n := by have := ho.1; omega
  rcases ho.2 with ⟨rfl, rfl⟩ | ⟨g, cap, cur, rfl, _, _, hc, hm, _⟩
  · obtain rfl : L = [] := List.length_eq_zero_iff.1 hn
    exact ⟨none, 0, rfl, Il.zero _ _, rfl, Nat.le_refl _, by omega⟩
  · refine ⟨_, cap, rfl, ⟨fun i hi => ?_⟩, hn, hc, by unfold maxLen at hm; omega⟩
    obtain ⟨ao, n', c, bo, m, d, h1, h2, h3, h4, h5⟩ := h.el i hi
    refine ⟨g, 0, ao, n', c, bo, m, d, rfl, ?_, ?_, ?_, ?_, h5.key, h5.kc.1, by have := h5.kc.2; omega, h5.val, h5.vc.1, by have := h5.vc.2; omega⟩
    · rw [Nat.zero_add, ho.cellAt _ (by omega)]; exact h1
    · rw [Nat.zero_add, ho.cellAt _ (by omega)]; exact h2
    · rw [Nat.zero_add, ho.cellAt _ (by omega)]; exact h3
    · rw [Nat.zero_add, ho.cellAt _ (by omega)]; exact h4

theorem own_item_ne {w : World} {base : Nat} {v : Value} {n : Nat} {xs : List Value} (ho : w.ownsRow base 48 4 v n xs) : ∀ b, U8 w b → some b ≠ v.ownBlock := by
  intro b ⟨cur, h1⟩ e
  rcases ho.2 with ⟨rfl, _⟩ | ⟨g, cap, cur', rfl, _, hg, _⟩
  · cases e
  · obtain rfl : b = g := Option.some.inj e
    rw [h1] at hg
    simp only [Option.some.injEq, Obj.cells.injEq] at hg
    exact absurd hg.2.1 (by decide)

theorem info_item : (Try.prog.info? 48).map (fun i => (i.zero, i.size, i.bytes)) = some (some (.agg #[.slice none 0 0, .slice none 0 0, .int .i64 0, .int .i64 0]), 4, 64) := by kernel_rfl

theorem cell_four_new (w : World) (a b c d : Value) (t : TypeId) : ∀ j u, [a, b, c, d][j]? = some u → (w.alloc (.cells #[a, b, c, d] t)).cell? ((⟨w.heap.size, 0, none⟩ : Addr).add j) = some u := by
  intro j u hu
  rw [Addr.add_lit, Nat.zero_add, cell_of_row _ w.heap.size j _ _ (0, 0) (heap_alloc_new w _)]
  simpa using hu

/-- Items that came in, or were read: their values are in a machine's bounds. -/
theorem Two.grown2 {w w' w'' : World} {R Q : Nat} {row : Option Nat} (h : Two w w' R Q) (hg : w'.grownBy w'' row) (hr : ∀ k, row = some k → k = R ∨ k = Q ∨ w.heap.size ≤ k) : Two w w'' R Q :=
  ⟨hg.os.trans h.os, hg.tape.trans h.tape, hg.output.trans h.output, Nat.le_trans h.size hg.size, fun k hk h1 h2 => (hg.block k (Nat.lt_of_lt_of_le hk h.size) (fun e => by rcases hr k e.symm with e2 | e2 | e2 <;> omega)).trans (h.block k hk h1 h2)⟩
end Go.Proofs.Ytlfhonlifgpnhaa

namespace Go.Proofs.Ytlfhonlifgpnhaa
open Go.RowKit

theorem Lr.set {w : World} {Q R : Nat} {po : Option Addr} {pn pc : Nat} (h : Lr w Q R po pn pc) (po' : Option Addr) (pn' pc' : Nat) : Lr (w.setCell ⟨Q, 1, none⟩ (.slice po' pn' pc')) Q R po' pn' pc' := heap_setCell_same w Q 1 _ _ _ h

/-- What holds at each round of the reading. -/
structure Rn (w wr : World) (Q R G base N : Nat) (po : Option Addr) (pn : Nat) (zs P : List Int) (i : Nat) (st : Nat × Int) (L : List It) (v : Value) (xs : List Value) : Prop where
  rd : Rd wr R G zs st.1 st.2
  lr : Lr wr Q R po pn pn
  pb : Byt wr po pn pn P
  own : wr.ownsRow base 48 4 v i xs
  iv : Iv wr R xs L
  two : Two w wr R Q
  far : Q < base ∧ R < base ∧ G < base ∧ Q ≠ R ∧ w.heap.size ≤ base ∧ base ≤ wr.heap.size
  pg : ∀ ad, po = some ad → 0 < pn → ad.block = G
  len : L.length = i
  u8 : U8 wr G

theorem Rn.call {w wr w' : World} {Q R G base N : Nat} {po : Option Addr} {pn : Nat} {zs P : List Int} {i : Nat} {st st' : Nat × Int} {L : List It} {v : Value} {xs : List Value} (h : Rn w wr Q R G base N po pn zs P i st L v xs) (hr : Rd w' R G zs st'.1 st'.2) (hg : wr.grownBy w' (some R)) : Rn w w' Q R G base N po pn zs P i st' L v xs := by
  have hne : v.ownBlock ≠ some R := fun e => by have := (h.own.lt R e).1; have := h.far.2.1; omega
  exact ⟨hr, h.lr.kept hg (fun e => h.far.2.2.2.1 (Option.some.inj e)), h.pb.kept hg (fun ad e hn e2 => by have := h.pg ad e hn; have := Option.some.inj e2; have := h.rd.ne; omega), h.own.kept hg (.inr hne), h.iv.kept hg (fun b hb _ e => hb (Option.some.inj e)), h.two.grown2 hg (fun k e => by have := Option.some.inj e; omega), ⟨h.far.1, h.far.2.1, h.far.2.2.1, h.far.2.2.2.1, h.far.2.2.2.2.1, Nat.le_trans h.far.2.2.2.2.2 hg.size⟩, h.pg, h.len, h.u8.kept hg (fun e => h.rd.ne (Option.some.inj e))⟩
theorem Rn.keptN {w wr w' : World} {Q R G base N : Nat} {po : Option Addr} {pn : Nat} {zs P : List Int} {i : Nat} {st : Nat × Int} {L : List It} {v : Value} {xs : List Value} (h : Rn w wr Q R G base N po pn zs P i st L v xs) (hg : wr.grownBy w' none) : Rn w w' Q R G base N po pn zs P i st L v xs :=
  h.call (h.rd.kept hg (by simp) (by simp)) (grown_any hg)
theorem Rn.app {w wr w' : World} {Q R G base N : Nat} {po : Option Addr} {pn : Nat} {zs P : List Int} {i : Nat} {st : Nat × Int} {L : List It} {v v' : Value} {xs : List Value} {ao : Option Addr} {n c : Nat} {bo : Option Addr} {m d : Nat} {x : It} (h : Rn w wr Q R G base N po pn zs P i st L v xs) (hx : Im wr R ao n c bo m d x)
    (ho : w'.ownsRow base 48 4 v' (i + 1) (xs ++ [.slice ao n c, .slice bo m d, .int .i64 x.size, .int .i64 x.first])) (hg : wr.grownBy w' v.ownBlock) : Rn w w' Q R G base N po pn zs P (i + 1) st (L ++ [x]) v' (xs ++ [.slice ao n c, .slice bo m d, .int .i64 x.size, .int .i64 x.first]) := by
  have hb : ∀ k, k < base → some k ≠ v.ownBlock := fun k hk e => by have := (h.own.lt k e.symm).1; omega
  have hne : ∀ b, b ≠ R → U8 wr b → some b ≠ v.ownBlock := fun b _ hu => own_item_ne h.own b hu
  exact ⟨h.rd.kept hg (hb R h.far.2.1) (hb G h.far.2.2.1), h.lr.kept hg (hb Q h.far.1), h.pb.kept hg (fun ad e hn => by rw [h.pg ad e hn]; exact hb G h.far.2.2.1), ho, (h.iv.kept hg hne).snoc (hx.kept hg hne) _ _ rfl rfl,
    h.two.grown2 hg (fun k e => by have := (h.own.lt k e).1; have := h.far.2.2.2.2.1; omega), ⟨h.far.1, h.far.2.1, h.far.2.2.1, h.far.2.2.2.1, h.far.2.2.2.2.1, Nat.le_trans h.far.2.2.2.2.2 hg.size⟩, h.pg, by simp [h.len], h.u8.kept hg (hb G h.far.2.2.1)⟩

set_option maxHeartbeats 4000000 in
set_option maxRecDepth 100000 in
theorem items_any (Q R G : Nat) (zs : List Int) (w : World) (hq : Lr w Q R none 0 0) (h : Rd w R G zs 0 0) (hbt : Bt zs) (hQR : Q ≠ R) (hQG : Q ≠ G) (hz : zs.length ≤ 5000) :
    Calls Try.prog 39 #[.pointer (some ⟨Q, 0, none⟩)] w fun en w' => (∃ a n cap, en = .returned (.slice a n cap) ∧ Il w' a (parse zs) ∧ (parse zs).length = n ∧ n ≤ cap ∧ cap ≤ 9223372036854775807) ∧ Two w w' R Q := by
  obtain ⟨i0, hi, hz0, hz1, hz2⟩ := info_parts info_item
  have HQ := hid_intro hq
  have HPZ : Hid (parse zs = sLoop zs (sB zs (sV zs (sN zs (sB zs (0, 0) 1).2 2).2).2 (i64 (sV zs (sN zs (sB zs (0, 0) 1).2 2).2).1)).1 (sN zs (sB zs (0, 0) 1).2 2).1 (sB zs (sB zs (sV zs (sN zs (sB zs (0, 0) 1).2 2).2).2 (i64 (sV zs (sN zs (sB zs (0, 0) 1).2 2).2).1)).2 ((2 * (sN zs (sB zs (0, 0) 1).2 2).1 : Nat) : Int)).2 []) := rfl
  obtain ⟨c0, c1, f1⟩ := hq.cells
  have H1 := hid_intro (rd_B R G zs (0, 0) 1 w h)
  have hRl := h.lt.1
  have hGl := h.lt.2
  have hQl := hq.lt
  have HNE := hid_intro h.ne
  clear h hq
  go_enter Try.func39, Try.ntmps39
  go_wp2_with fail
  refine H1.out.mono ?_
  rintro en w1 ⟨⟨ao, k, rfl, _, _, _⟩, hr1, hg1⟩
  have D1 := hid_intro hr1
  have G1 := hid_intro hg1
  have Q1 := hid_intro (HQ.out.kept hg1 (fun e => hQR (Option.some.inj e)))
  clear hr1 hg1 H1 c0 c1 f1
  generalize (sB zs (0, 0) 1).2 = s1 at *
  have hnl := sN_lt zs s1 2 hbt
  have H2 := hid_intro (rd_N2 R G zs s1 _ D1.out hbt)
  obtain ⟨c0, c1, f1⟩ := Q1.out.cells
  go_wp2_with fail
  refine H2.out.mono ?_
  rintro en w2 ⟨rfl, hr2, hg2⟩
  have D2 := hid_intro hr2
  have G2 := hid_intro (grown_trans G1.out hg2)
  have Q2 := hid_intro (Q1.out.kept hg2 (fun e => hQR (Option.some.inj e)))
  clear hr2 hg2 H2 c0 c1 f1 D1 G1 Q1
  generalize (sN zs s1 2).2 = s2 at *
  generalize (sN zs s1 2).1 = N at *
  have hN : N < 65536 := hnl
  have HV := hid_intro (fun (W : World) (hW : Rd W R G zs s2.1 s2.2) => rd_V R G zs s2 W hW hbt)
  have hvl := sV_lt zs s2 hbt
  have hwr := i64_wrap hvl
  generalize (sV zs s2).2 = s3 at *
  generalize (sV zs s2).1 = x at *
  generalize i64 x = m at *
  have HB := hid_intro (fun (W : World) (hW : Rd W R G zs s3.1 s3.2) => rd_B R G zs s3 m W hW)
  generalize (sB zs s3 m).2 = s4 at *
  generalize (sB zs s3 m).1 = P at *
  have HB2 := hid_intro (fun (W : World) (hW : Rd W R G zs s4.1 s4.2) => rd_B R G zs s4 ((2 * N : Nat) : Int) W hW)
  generalize (sB zs s4 ((2 * N : Nat) : Int)).2 = s5 at *
  obtain ⟨c0, c1, f1⟩ := Q2.out.cells
  clear hnl
  go_wp2_with fail
  go_region_with (first
    | (go_at_call 68; refine (HV.out _ (by exact D2.out.kept ((Qt.refl w2).drew.grown none) (by simp) (by simp))).mono ?_; rintro en w3 ⟨rfl, hr3, hg3⟩; have d0 := hg3.cell (by exact c0) (by intro e; exact hQR (Option.some.inj e)); have d1 := hg3.cell (by exact c1) (by intro e; exact hQR (Option.some.inj e)))
    | (go_at_call 66; refine (HB.out _ hr3).mono ?_; rintro en w4 ⟨⟨po, pn, rfl, hb4, hao, hk⟩, hr4, hg4⟩; have e0 := hg4.cell d0 (by intro e; exact hQR (Option.some.inj e)); have e1 := hg4.cell d1 (by intro e; exact hQR (Option.some.inj e)); have ef := (Q2.out.kept (grown_trans (grown_trans ((Qt.refl w2).drew.grown (some R)) hg3) hg4) (fun e => hQR (Option.some.inj e))).cells.2.2))
  all_goals
    have hg24 := grown_trans (grown_trans ((Qt.refl w2).drew.grown (some R)) hg3) hg4
    have hgc := grown_cell w4 Q 1 (.slice po pn pn)
    have Q5 := hid_intro ((Q2.out.kept hg24 (fun e => hQR (Option.some.inj e))).set po pn pn)
    have D5 := hid_intro (hr4.kept hgc (fun e => hQR (Option.some.inj e).symm) (fun e => hQG (Option.some.inj e).symm))
    have B5 := hid_intro (hb4.kept hgc (fun ad e h e2 => by have h9 := hao h; rw [e] at h9; obtain rfl := Option.some.inj h9; exact hQG (Option.some.inj e2).symm))
    have T0 : Two w w R Q := ⟨rfl, rfl, rfl, Nat.le_refl _, fun _ _ _ _ => rfl⟩
    have T5 := hid_intro ((T0.grown2 (grown_trans G2.out hg24) (fun k e => .inl (Option.some.inj e).symm)).grown2 hgc (fun k e => .inr (.inl (Option.some.inj e).symm)))
    have HAO := hid_intro hao
    clear hg24 hgc T0 hr3 hr4 hb4 hao hg3 hg4 d0 d1 e0 e1 ef G2 Q2 D2 HV HB c0 c1 f1
    generalize w4.setCell ⟨Q, 1, none⟩ (.slice po pn pn) = w5 at *
    obtain ⟨c0, c1, f1⟩ := Q5.out.cells
    have H6 := hid_intro (HB2.out _ D5.out)
    clear HB2
    have hcast : ((2 * N : Nat) : Int) = 2 * (N : Int) := by omega
    rw [hcast] at H6
    go_wp2_with fail
    refine H6.out.mono ?_
    rintro en w6 ⟨⟨ao6, k6, rfl, _, _, _⟩, hr6, hg6⟩
    have HS0 : Hid (Rn w w6 Q R G w6.heap.size N po pn zs P 0 s5 [] (.slice none 0 0) []) :=
      ⟨hr6, Q5.out.kept hg6 (fun e => hQR (Option.some.inj e)), B5.out.kept hg6 (fun ad e h e2 => by have h9 := HAO.out h; rw [e] at h9; obtain rfl := Option.some.inj h9; exact HNE.out (Option.some.inj e2)), ⟨rfl, .inl ⟨rfl, rfl⟩⟩, Iv.nil _ _, T5.out.grown2 hg6 (fun k e => .inl (Option.some.inj e).symm), ⟨by have := T5.out.size; have := hg6.size; omega, hr6.lt.1, hr6.lt.2, hQR, by have := T5.out.size; have := hg6.size; omega, Nat.le_refl _⟩, (fun ad e h => by have h9 := HAO.out h; rw [e] at h9; obtain rfl := Option.some.inj h9; rfl), rfl, hr6.u8⟩
    clear hr6 hg6 H6 c0 c1 f1 Q5 D5 B5 T5 HAO
    go_wp2
    obtain ⟨base, hbase⟩ : ∃ base, base = w6.heap.size := ⟨_, rfl⟩
    rw [← hbase] at HS0
    clear hbase
    go_loopw [4, 5, 6, 7, 41] (fun sl _ _ _ si wr => ∃ (i : Nat) (st : Nat × Int) (L : List It) (xs : List Value), i ≤ N ∧ si = .int .i64 i ∧ sLoop zs P (N - i) st L = parse zs ∧ Rn w wr Q R G base N po pn zs P i st L sl xs) (fun _ _ _ _ si _ => N - (intOf si).toNat)
    case atStart => exact ⟨0, s5, [], [], Nat.zero_le _, rfl, HPZ.out.symm, HS0.out⟩
    case round =>
      rename_i sl _ _ _ si wr
      obtain ⟨i, st, L, xs, hi', rfl, hsl, hrn⟩ := hrel
      have HRN := hid_intro hrn
      have HSL := hid_intro hsl
      clear hsl hrn HS0 HPZ
      by_cases hlt : i < N
      · have HI := hid_intro (item_any Q R G zs st po pn pn P wr HRN.out.lr HRN.out.rd hbt HRN.out.pb (fun ad e h => by rw [HRN.out.pg ad e h]; exact HNE.out) hQR (by omega) hz)
        have HSS : Hid (parse zs = if (sItem zs P st).2.2 = 0 then sLoop zs P (N - (i + 1)) (sItem zs P st).2 (L ++ [(sItem zs P st).1]) else []) := by
          show _ = _
          rw [← HSL.out, show N - i = (N - (i + 1)) + 1 by omega, sLoop]
        clear HSL
        generalize (sItem zs P st).2 = st' at *
        generalize (sItem zs P st).1 = it at *
        go_wp2_with fail
        refine HI.out.mono ?_
        rintro en w7 ⟨⟨ao, n, c, bo, m', d, rfl, him⟩, hr7, hg7⟩
        have M7 := hid_intro him
        have N7 := hid_intro (HRN.out.call hr7 hg7)
        clear him hr7 hg7 HI HRN
        obtain ⟨sz, hsz⟩ : ∃ sz, it.size = sz := ⟨_, rfl⟩
        obtain ⟨fs, hfs⟩ : ∃ fs, it.first = fs := ⟨_, rfl⟩
        rw [hsz, hfs]
        have HSZ := hid_intro hsz
        have HFS := hid_intro hfs
        clear hsz hfs
        have ga := World.grownBy_alloc w7 (.cells #[.slice ao n c, .slice bo m' d, .int .i64 sz, .int .i64 fs] 48) none
        have N8 := hid_intro (N7.out.keptN ga)
        have M8 := hid_intro (M7.out.kept ga (fun _ _ _ => by simp))
        have X8 := hid_intro (Bx.new w7 (.slice ao n c) (.slice bo m' d) (.int .i64 sz) (.int .i64 fs))
        have qc := N8.out.lr.cells.1
        have HER := hid_intro (fun (W : World) (hW : Rd W R G zs st'.1 st'.2) => err_any R G zs st'.1 st'.2 W hW)
        clear ga N7 M7
        go_wp2_with fail
        clear qc
        generalize w7.alloc (.cells #[.slice ao n c, .slice bo m' d, .int .i64 sz, .int .i64 fs] 48) = w8 at *
        generalize w7.heap.size = T at *
        refine (HER.out _ N8.out.rd).mono ?_
        rintro en w9 ⟨rfl, hq9⟩
        have N9 := hid_intro (N8.out.keptN (hq9.grown none))
        have M9 := hid_intro (M8.out.kept (hq9.grown none) (fun _ _ _ => by simp))
        have X9 := hid_intro (X8.out.kept (hq9.grown none) (by simp))
        clear hq9 N8 M8 X8
        obtain ⟨pp, ee⟩ := st'
        by_cases he : ee = 0
        · subst he
          have HSS1 := hid_intro (HSS.out.trans (if_pos rfl))
          clear HSS
          obtain ⟨x0, x1, x2, x3⟩ := X9.out.cells
          go_wp2_with (at_builtin; refine wpList_append_own _ rfl _ _ 22 rfl base 48 i0 (.agg #[.slice none 0 0, .slice none 0 0, .int .i64 0, .int .i64 0]) 4 64 Try.underlying22 hi hz0 hz1 hz2 rfl (by decide) _ i xs rfl (N9.out.own.alloc _) ⟨w9.heap.size, 0, none⟩ 1 1 [.slice ao n c, .slice bo m' d, .int .i64 sz, .int .i64 fs] rfl rfl (cell_four_new _ _ _ _ _ _) (by intro u hu; simp at hu; rcases hu with rfl | rfl | rfl | rfl <;> rfl) (by unfold maxLen; omega) (by omega) (by have := N9.out.far.2.2.2.2.2; simp; omega) ?_)
          intro v' w10 ho hg10 _
          have N10 : Hid (Rn w w10 Q R G base N po pn zs P (i + 1) (pp, 0) (L ++ [it]) v' (xs ++ [.slice ao n c, .slice bo m' d, .int .i64 it.size, .int .i64 it.first])) :=
            (N9.out.keptN (World.grownBy_alloc w9 _ none)).app (M9.out.kept (World.grownBy_alloc w9 _ none) (fun _ _ _ => by simp)) (by rw [HSZ.out, HFS.out]; exact ho) hg10
          clear ho hg10 N9 M9 X9 x0 x1 x2 x3
          go_wp2
          go_roundw
          case rel => exact ⟨i + 1, (pp, 0), L ++ [it], _, by omega, by go_num, HSS1.out.symm, N10.out⟩
          case measure => simp [intOf]; omega
        · have HSS1 := hid_intro (HSS.out.trans (if_neg he))
          clear HSS
          go_wp2
          go_ret
          refine ⟨⟨none, 0, 0, rfl, ?_, ?_, Nat.le_refl _, by omega⟩, N9.out.two⟩
          · rw [HSS1.out]; exact Il.zero _ _
          · rw [HSS1.out]; rfl
      · have hin : i = N := by omega
        subst hin
        obtain ⟨a, cap, e1, e2, e3, e4, e5⟩ := HRN.out.iv.il HRN.out.own
        have HSL1 : Hid (L = parse zs) := by
          have := HSL.out
          rw [Nat.sub_self] at this
          exact this
        subst e1
        have HE2 := hid_intro e2
        clear e2 HSL
        go_wp2
        go_ret
        refine ⟨⟨a, i, cap, rfl, ?_, ?_, e4, e5⟩, HRN.out.two⟩
        · rw [← HSL1.out]; exact HE2.out
        · rw [← HSL1.out]; exact e3
end Go.Proofs.Ytlfhonlifgpnhaa

namespace Go.Proofs.Ytlfhonlifgpnhaa
open Go.RowKit

/-! ### What a body's reading can be -/

theorem sV_ok {zs : List Int} {s : Nat × Int} (hb : Bt zs) (h : (sV zs s).2.2 = 0) : s.2 = 0 ∧ s.1 + 1 ≤ (sV zs s).2.1 ∧ (sV zs s).2.1 ≤ max s.1 zs.length := by
  unfold sV at h ⊢
  split
  · rename_i h0
    rw [if_pos h0] at h
    split
    · rename_i h1
      rw [if_pos h1] at h
      obtain ⟨x, n, e⟩ : ∃ x n, rv (zs.drop s.1) = (x, n, 0) := ⟨_, _, by rw [← h1]⟩
      have hb2 := rv_back (zs.drop s.1) x n (hb.drop _) e
      rw [e]
      simp only [List.length_drop] at hb2 ⊢
      exact ⟨h0, by omega, by omega⟩
    · rename_i h1
      rw [if_neg h1] at h
      exact absurd h h1
  · rename_i h0
    rw [if_neg h0] at h
    exact absurd h h0
theorem sB_ok {zs : List Int} {s : Nat × Int} {m : Int} (h : (sB zs s m).2.2 = 0) : s.2 = 0 ∧ s.1 ≤ (sB zs s m).2.1 ∧ (sB zs s m).2.1 ≤ max s.1 zs.length := by
  unfold sB at h ⊢
  split
  · rename_i h0
    rw [if_pos h0] at h
    split
    · rename_i h1
      rw [if_pos h1] at h
      exact absurd h (by simp)
    · rename_i h1
      exact ⟨h0, by simp, by simp only; omega⟩
  · rename_i h0
    rw [if_neg h0] at h
    exact absurd h h0
theorem sN_ok {zs : List Int} {s : Nat × Int} {k : Nat} (h : (sN zs s k).2.2 = 0) : s.2 = 0 ∧ s.1 ≤ (sN zs s k).2.1 ∧ (sN zs s k).2.1 ≤ max s.1 zs.length := by
  unfold sN at h ⊢
  split
  · rename_i h0
    rw [if_pos h0] at h
    split
    · rename_i h1
      rw [if_pos h1] at h
      exact absurd h (by simp)
    · rename_i h1
      exact ⟨h0, by simp, by simp only; omega⟩
  · rename_i h0
    rw [if_neg h0] at h
    exact absurd h h0
theorem sVal_ok {zs key : List Int} {t : Nat × (Nat × Int)} (h : (sVal zs key t).2.2 = 0) : t.2.2 = 0 ∧ t.2.1 ≤ (sVal zs key t).2.1 ∧ (sVal zs key t).2.1 ≤ max t.2.1 zs.length := by
  unfold sVal at h ⊢
  split
  · rename_i h0
    rw [if_pos h0] at h
    exact sN_ok h
  · rename_i h0
    rw [if_neg h0] at h
    exact sB_ok h
theorem sItem_ok {zs P : List Int} {s : Nat × Int} (hb : Bt zs) (h : (sItem zs P s).2.2 = 0) : s.1 + 2 ≤ (sItem zs P s).2.1 ∧ (sItem zs P s).2.1 ≤ max s.1 zs.length := by
  have h1 := sVal_ok (zs := zs) (key := (sKey zs P s).1) (t := sV zs (sKey zs P s).2) h
  have h2 := sV_ok hb h1.1
  have h3 := sB_ok (zs := zs) (s := (sV zs s).2) (m := i64 (sV zs s).1) h2.1
  have h4 := sV_ok hb h3.1
  have e : (sKey zs P s).2 = (sB zs (sV zs s).2 (i64 (sV zs s).1)).2 := rfl
  have e2 : sItem zs P s = sVal zs (sKey zs P s).1 (sV zs (sKey zs P s).2) := rfl
  rw [e] at h2
  rw [e2]
  rw [e] at h1 ⊢
  omega
theorem sB_bt {zs : List Int} (s : Nat × Int) (m : Int) (hb : Bt zs) : Bt (sB zs s m).1 ∧ (sB zs s m).1.length ≤ zs.length := by
  unfold sB
  split
  · split
    · exact ⟨Bt.nil, by simp⟩
    · exact ⟨(hb.drop _).take _, by simp only [List.length_take, List.length_drop]; omega⟩
  · exact ⟨Bt.nil, by simp⟩
/-- An item of a body of 4092 bytes. -/
structure Ir (x : It) : Prop where
  b : Itb x
  k : x.key.length ≤ 10000
theorem sVal_ir {zs key : List Int} (t : Nat × (Nat × Int)) (hb : Bt zs) (hk : Bt key) (hl : key.length ≤ 10000) (ht : t.1 < 18446744073709551616) : Ir (sVal zs key t).1 := by
  unfold sVal
  split
  · have := sN_lt zs t.2 4 hb
    exact ⟨⟨hk, Bt.nil, by simp only; omega, by simp only; omega, by simp only; omega, by simp only; omega⟩, hl⟩
  · exact ⟨⟨hk, (sB_bt _ _ hb).1, by simp only; omega, by simp only; omega, by simp only; omega, by simp only; omega⟩, hl⟩
theorem sItem_ir {zs P : List Int} (s : Nat × Int) (hb : Bt zs) (hP : Bt P) (hl : P.length + zs.length ≤ 10000) : Ir (sItem zs P s).1 := by
  have h1 := sB_bt (zs := zs) (sV zs s).2 (i64 (sV zs s).1) hb
  exact sVal_ir (zs := zs) (key := (sKey zs P s).1) (sV zs (sKey zs P s).2) hb (hP.app h1.1) (by show (P ++ _).length ≤ _; rw [List.length_append]; omega) (sV_lt _ _ hb)
theorem sLoop_ir {zs P : List Int} (hb : Bt zs) (hP : Bt P) (hl : P.length + zs.length ≤ 10000) : ∀ (n : Nat) (s : Nat × Int) (acc : List It), (∀ x ∈ acc, Ir x) → ∀ x ∈ sLoop zs P n s acc, Ir x
  | 0, _, _, h, x, hx => h x hx
  | n + 1, s, acc, h, x, hx => by
    rw [sLoop] at hx
    split at hx
    · refine sLoop_ir hb hP hl n _ _ (fun y hy => ?_) x hx
      rcases List.mem_append.1 hy with hy | hy
      · exact h y hy
      · obtain rfl := List.mem_singleton.1 hy
        exact sItem_ir s hb hP hl
    · cases hx
theorem sLoop_len {zs P : List Int} (hb : Bt zs) : ∀ (n : Nat) (s : Nat × Int) (acc : List It), s.1 ≤ zs.length → 2 * acc.length ≤ s.1 → 2 * (sLoop zs P n s acc).length ≤ zs.length
  | 0, s, acc, h1, h2 => by rw [sLoop]; omega
  | n + 1, s, acc, h1, h2 => by
    rw [sLoop]
    split
    · rename_i h0
      have h3 := sItem_ok hb h0
      exact sLoop_len hb n _ _ (by omega) (by simp; omega)
    · simp
theorem sHead_bt {zs : List Int} (hb : Bt zs) : Bt (sHead zs).2.1 ∧ (sHead zs).2.1.length ≤ zs.length := sB_bt _ _ hb
theorem sV_pl {zs : List Int} {s : Nat × Int} (hb : Bt zs) (h : s.1 ≤ zs.length) : (sV zs s).2.1 ≤ zs.length := by
  unfold sV
  split
  · split
    · rename_i h0 h1
      obtain ⟨x, n, e⟩ : ∃ x n, rv (zs.drop s.1) = (x, n, 0) := ⟨_, _, by rw [← h1]⟩
      have hb2 := rv_back (zs.drop s.1) x n (hb.drop _) e
      rw [e]
      simp only [List.length_drop] at hb2 ⊢
      omega
    · exact h
  · exact h
theorem sB_pl {zs : List Int} {s : Nat × Int} {m : Int} (h : s.1 ≤ zs.length) : (sB zs s m).2.1 ≤ zs.length := by
  unfold sB
  split
  · split
    · exact h
    · simp only; omega
  · exact h
theorem sN_pl {zs : List Int} {s : Nat × Int} {k : Nat} (h : s.1 ≤ zs.length) : (sN zs s k).2.1 ≤ zs.length := by
  unfold sN
  split
  · split
    · exact h
    · simp only; omega
  · exact h
theorem sHead_pl {zs : List Int} (hb : Bt zs) : (sHead zs).2.2.1 ≤ zs.length := sB_pl (sB_pl (sV_pl hb (sN_pl (sB_pl (Nat.zero_le _)))))
theorem parse_ir {zs : List Int} (hb : Bt zs) (hl : zs.length ≤ 5000) : ∀ x ∈ parse zs, Ir x := by
  have h := sHead_bt hb
  exact sLoop_ir hb h.1 (by omega) _ _ _ (fun x hx => by cases hx)
theorem parse_len {zs : List Int} (hb : Bt zs) (hl : zs.length ≤ 5000) : (parse zs).length ≤ 5000 := by
  have := sLoop_len (P := (sHead zs).2.1) hb (sHead zs).1 (sHead zs).2.2 [] (sHead_pl hb) (by simp)
  unfold parse
  omega

theorem enc_good (zs : List Int) (L : List It) : ((enc L).1 = zs ∧ (enc L).2 = 0 → Good zs L) ∧ (Good zs L → (enc L).1 = zs ∧ (enc L).2 = 0) := by
  unfold enc
  constructor
  · rintro ⟨h1, h2⟩
    split at h1
    · rename_i hw
      rw [if_pos hw] at h2
      split at h1
      · rename_i hs
        exact ⟨hw, hs, h1⟩
      · rename_i hs
        rw [if_neg hs] at h2
        exact absurd h2 (by simp)
    · rename_i hw
      rw [if_neg hw] at h2
      exact absurd h2 hw
  · rintro ⟨h1, h2, h3⟩
    rw [if_pos h1, if_pos h2]
    exact ⟨h3, rfl⟩

/-- What Decode answers. -/
def Dec (zs : List Int) (L : List It) (e : Int) : Prop := (e = 0 ∧ Good zs L ∧ zs.length = 4092) ∨ (e = 40 ∧ L = [] ∧ ∀ M, ¬ (Good zs M ∧ zs.length = 4092))

set_option maxHeartbeats 1000000 in
set_option maxRecDepth 100000 in
theorem decode_len (ao : Option Addr) (n c : Nat) (w : World) (h : n ≠ 4092) : Calls Try.prog 23 #[.slice ao n c] w fun en w' => en = .returned (.tuple #[.slice none 0 0, .int .i64 40]) ∧ w' = w := by
  go_enter Try.func23, Try.ntmps23
  go_wp2
  go_ret2
  exact ⟨rfl, rfl⟩

theorem Two.base {w0 w w' : World} {R Q : Nat} (h : Two w w' R Q) (hg : w0.grownBy w none) (h1 : w0.heap.size ≤ R) (h2 : w0.heap.size ≤ Q) : w0.grownBy w' none := h.grown hg h1 h2

set_option maxHeartbeats 2000000 in
set_option maxRecDepth 100000 in
/-- Decode of 4092 bytes. -/
theorem decode_body (ao : Option Addr) (c : Nat) (zs : List Int) (w : World) (hb : Byt w ao 4092 c zs) (hbt : Bt zs) :
    Calls Try.prog 23 #[.slice ao 4092 c] w fun en w' => (∃ a n cap e L, en = .returned (.tuple #[.slice a n cap, .int .i64 e]) ∧ Dec zs L e ∧ Il w' a L ∧ L.length = n ∧ n ≤ cap ∧ cap ≤ 9223372036854775807 ∧ (e = 0 → L = parse zs)) ∧ w.grownBy w' none := by
  have hl := hb.len
  have HIR := hid_intro (parse_ir hbt (by omega))
  have HPL := hid_intro (parse_len hbt (by omega))
  have HIB : Hid (Ib (parse zs)) := fun x hx => (HIR.out x hx).b
  have HB := hid_intro hb
  clear hb
  go_enter Try.func23, Try.ntmps23
  go_wp2_with fail
  refine (newReader_any ao 4092 c zs _ HB.out (by omega)).mono ?_
  rintro en w1 ⟨R, rfl, hr1, hg1, hR⟩
  have ga := World.grownBy_alloc w1 (.cells #[.pointer (some ⟨R, 0, none⟩), .slice none 0 0] 65) none
  have Q2 : Hid (Lr (w1.alloc (.cells #[.pointer (some ⟨R, 0, none⟩), .slice none 0 0] 65)) w1.heap.size R none 0 0) := by
    show _ = _
    exact heap_alloc_new w1 _
  have D2 := hid_intro (hr1.kept ga (by simp) (by simp))
  have G2 := hid_intro (grown_trans hg1 ga)
  have hRl := hr1.lt.1
  have hGl := hr1.lt.2
  have hsz : w.heap.size ≤ w1.heap.size := hg1.size
  clear ga hr1 hg1
  go_wp2_with fail
  generalize w1.alloc (.cells #[.pointer (some ⟨R, 0, none⟩), .slice none 0 0] 65) = w2 at *
  generalize w1.heap.size = Q at *
  refine (items_any Q R w.heap.size zs _ Q2.out D2.out hbt (by omega) (by omega) (by omega)).mono ?_
  rintro en w3 ⟨⟨a, n, cap, rfl, hil, hn, hnc, hcm⟩, ht3⟩
  have G3 := hid_intro (ht3.grown G2.out (by omega) hsz)
  have L3 := hid_intro hil
  have B3 := hid_intro (HB.out.keptN G3.out)
  have hn5 : n ≤ 5000 := by have := HPL.out; omega
  clear hil ht3 G2 D2 Q2
  go_wp2_with fail
  refine (encode_any a n cap (parse zs) _ L3.out HIB.out hn hn5).mono ?_
  rintro en w4 ⟨⟨bo, k, c', rfl, hb4, hk4⟩, hg4⟩
  have B4 := hid_intro hb4
  have L4 := hid_intro (L3.out.keptN hg4)
  have Z4 := hid_intro (B3.out.keptN hg4)
  have G4 := hid_intro (grown_trans G3.out hg4)
  have HEB := hid_intro (enc_bt HIB.out)
  clear hb4 hg4 L3 B3 G3
  have HEQ := hid_intro (enc_good zs (parse zs))
  have HPB : Hid (∀ M, Good zs M → parse zs = M) := fun M h => parse_body h
  generalize hpz : parse zs = L at *
  have HPZ := hid_intro hpz
  clear hpz
  generalize (enc L).2 = e at *
  generalize (enc L).1 = ys at *
  by_cases he : e = 0
  · subst he
    by_cases hy : ys = zs
    · have HGD := hid_intro (HEQ.out.1 ⟨hy, rfl⟩)
      clear HEQ
      go_wp2_with fail
      refine (equal_yes _ _ _ _ _ _ _ _ _ B4.out Z4.out hy).mono ?_
      rintro en w5 ⟨rfl, rfl⟩
      clear hy
      go_wp2
      go_ret2
      exact ⟨⟨a, n, cap, 0, L, rfl, .inl ⟨rfl, HGD.out, hl⟩, L4.out, hn, hnc, hcm, fun _ => HPZ.out.symm⟩, G4.out⟩
    · have HND : Hid (∀ M, ¬ (Good zs M ∧ zs.length = 4092)) := by
        rintro M ⟨h1, _⟩
        obtain rfl := HPB.out M h1
        exact hy (HEQ.out.2 h1).1
      clear HEQ
      go_wp2_with fail
      refine (equal_no _ _ _ _ _ _ _ _ _ B4.out Z4.out HEB.out hbt hy).mono ?_
      rintro en w5 ⟨rfl, rfl⟩
      clear hy
      go_wp2
      go_ret2
      exact ⟨⟨none, 0, 0, 40, [], rfl, .inr ⟨rfl, rfl, HND.out⟩, Il.zero _ _, rfl, Nat.le_refl _, by omega, fun h => by cases h⟩, G4.out⟩
  · have HND : Hid (∀ M, ¬ (Good zs M ∧ zs.length = 4092)) := by
      rintro M ⟨h1, _⟩
      obtain rfl := HPB.out M h1
      exact he (HEQ.out.2 h1).2
    clear HEQ
    go_wp2
    go_ret2
    exact ⟨⟨none, 0, 0, 40, [], rfl, .inr ⟨rfl, rfl, HND.out⟩, Il.zero _ _, rfl, Nat.le_refl _, by omega, fun h => by cases h⟩, G4.out⟩

/-- Decode. -/
theorem decode_any (ao : Option Addr) (n c : Nat) (zs : List Int) (w : World) (hb : Byt w ao n c zs) (hbt : Bt zs) :
    Calls Try.prog 23 #[.slice ao n c] w fun en w' => (∃ a n cap e L, en = .returned (.tuple #[.slice a n cap, .int .i64 e]) ∧ Dec zs L e ∧ Il w' a L ∧ Ib L ∧ L.length = n ∧ n ≤ cap ∧ cap ≤ 9223372036854775807) ∧ w.grownBy w' none := by
  have hl := hb.len
  by_cases h : n = 4092
  · subst h
    refine (decode_body ao c zs w hb hbt).mono ?_
    rintro en w' ⟨⟨a, n, cap, e, L, rfl, h1, h2, h3, h4, h5, h6⟩, hg⟩
    refine ⟨⟨a, n, cap, e, L, rfl, h1, h2, ?_, h3, h4, h5⟩, hg⟩
    rcases h1 with ⟨he, _⟩ | ⟨_, rfl, _⟩
    · rw [h6 he]; exact fun x hx => (parse_ir hbt (by omega) x hx).b
    · exact fun x hx => by cases hx
  · refine (decode_len ao n c w h).mono ?_
    rintro en w' ⟨rfl, rfl⟩
    exact ⟨⟨none, 0, 0, 40, [], rfl, .inr ⟨rfl, rfl, fun M hM => h (by rw [← hl]; exact hM.2)⟩, Il.zero _ _, (fun x hx => by cases hx), rfl, Nat.le_refl _, by omega⟩, World.grownBy.refl _ _⟩
end Go.Proofs.Ytlfhonlifgpnhaa
