import Derived.Test.YtcdkkhbkicejiaaGreatDoorQ7
import Derived.Test.YtcdkkhbkicejiaaGreatDoorQ19
namespace Go.Proofs.YtcdkkhbkicejiaaGreatDoor
open Go.RowKit
theorem Lr.set {w : World} {Q R : Nat} {po : Option Addr} {pn pc : Nat} (h : Lr w Q R po pn pc) (po' : Option Addr) (pn' pc' : Nat) : Lr (w.setCell ⟨Q, 1, none⟩ (.slice po' pn' pc')) Q R po' pn' pc' := heap_setCell_same w Q 1 _ _ _ h
structure Rn (w wr : World) (Q R G base N : Nat) (po : Option Addr) (pn : Nat) (zs P : List Int) (i : Nat) (st : Nat × Int) (L : List It) (v : Value) (xs : List Value) : Prop where
 rd : Rd wr R G zs st.1 st.2
 lr : Lr wr Q R po pn pn
 pb : Byt wr po pn pn P
 own : wr.ownsRow base 52 4 v i xs
 iv : Iv wr R xs L
 two : Two w wr R Q
 far : Q < base ∧ R < base ∧ G < base ∧ Q ≠ R ∧ w.heap.size ≤ base ∧ base ≤ wr.heap.size
 pg : ∀ ad, po = some ad → 0 < pn → ad.block = G
 len : L.length = i
 u8 : U8 wr G
theorem Rn.call {w wr w' : World} {Q R G base N : Nat} {po : Option Addr} {pn : Nat} {zs P : List Int} {i : Nat} {st st' : Nat × Int} {L : List It} {v : Value} {xs : List Value} (h : Rn w wr Q R G base N po pn zs P i st L v xs) (hr : Rd w' R G zs st'.1 st'.2) (hg : wr.grownBy w' (some R)) : Rn w w' Q R G base N po pn zs P i st' L v xs := by
 have hne : v.ownBlock ≠ some R := fun e => by have := (h.own.lt R e).1; have := h.far.2.1; omega
 exact ⟨hr, h.lr.kept hg (fun e => h.far.2.2.2.1 (Option.some.inj e)), h.pb.kept hg (fun ad e hn e2 => by have := h.pg ad e hn; have := Option.some.inj e2; have := h.rd.ne; omega), h.own.kept hg (.inr hne), h.iv.kept hg (fun b hb _ e => hb (Option.some.inj e)), h.two.grown2 hg (fun k e => by have := Option.some.inj e; omega), ⟨h.far.1, h.far.2.1, h.far.2.2.1, h.far.2.2.2.1, h.far.2.2.2.2.1, Nat.le_trans h.far.2.2.2.2.2 hg.size⟩, h.pg, h.len, h.u8.kept hg (fun e => h.rd.ne (Option.some.inj e))⟩
theorem Rn.keptN {w wr w' : World} {Q R G base N : Nat} {po : Option Addr} {pn : Nat} {zs P : List Int} {i : Nat} {st : Nat × Int} {L : List It} {v : Value} {xs : List Value} (h : Rn w wr Q R G base N po pn zs P i st L v xs) (hg : wr.grownBy w' none) : Rn w w' Q R G base N po pn zs P i st L v xs :=
 h.call (h.rd.kept hg (by simp) (by simp)) (grown_any hg)
theorem Rn.app {w wr w' : World} {Q R G base N : Nat} {po : Option Addr} {pn : Nat} {zs P : List Int} {i : Nat} {st : Nat × Int} {L : List It} {v v' : Value} {xs : List Value} {ao : Option Addr} {n c : Nat} {bo : Option Addr} {m d : Nat} {x : It} (h : Rn w wr Q R G base N po pn zs P i st L v xs) (hx : Im wr R ao n c bo m d x)
  (ho : w'.ownsRow base 52 4 v' (i + 1) (xs ++ [.slice ao n c, .slice bo m d, .int .i64 x.size, .int .i64 x.first])) (hg : wr.grownBy w' v.ownBlock) : Rn w w' Q R G base N po pn zs P (i + 1) st (L ++ [x]) v' (xs ++ [.slice ao n c, .slice bo m d, .int .i64 x.size, .int .i64 x.first]) := by
 have hb : ∀ k, k < base → some k ≠ v.ownBlock := fun k hk e => by have := (h.own.lt k e.symm).1; omega
 have hne : ∀ b, b ≠ R → U8 wr b → some b ≠ v.ownBlock := fun b _ hu => own_item_ne h.own b hu
 exact ⟨h.rd.kept hg (hb R h.far.2.1) (hb G h.far.2.2.1), h.lr.kept hg (hb Q h.far.1), h.pb.kept hg (fun ad e hn => by rw [h.pg ad e hn]; exact hb G h.far.2.2.1), ho, (h.iv.kept hg hne).snoc (hx.kept hg hne) _ _ rfl rfl,
  h.two.grown2 hg (fun k e => by have := (h.own.lt k e).1; have := h.far.2.2.2.2.1; omega), ⟨h.far.1, h.far.2.1, h.far.2.2.1, h.far.2.2.2.1, h.far.2.2.2.2.1, Nat.le_trans h.far.2.2.2.2.2 hg.size⟩, h.pg, by simp [h.len], h.u8.kept hg (hb G h.far.2.2.1)⟩
set_option maxHeartbeats 4000000 in
set_option maxRecDepth 100000 in
theorem items_any (Q R G : Nat) (zs : List Int) (w : World) (hq : Lr w Q R none 0 0) (h : Rd w R G zs 0 0) (hbt : Bt zs) (hQR : Q ≠ R) (hQG : Q ≠ G) (hz : zs.length ≤ 5000) :
  Calls Tryz.prog 21 #[.pointer (some ⟨Q, 0, none⟩)] w fun en w' => (∃ a n cap, en = .returned (.slice a n cap) ∧ Il w' a (parse zs) ∧ (parse zs).length = n ∧ n ≤ cap ∧ cap ≤ 9223372036854775807 ∧ Nw w w' 52 a n) ∧ Two w w' R Q := by
 obtain ⟨i0, hi, hz0, hz1, hz2⟩ := info_parts info_item
 have HQ := hid_intro hq
 have HPZ : Hid (parse zs = sLoop zs (sB zs (sV zs (sN zs (sB zs (0, 0) 1).2 2).2).2 (i64 (sV zs (sN zs (sB zs (0, 0) 1).2 2).2).1)).1 (sN zs (sB zs (0, 0) 1).2 2).1 (sB zs (sB zs (sV zs (sN zs (sB zs (0, 0) 1).2 2).2).2 (i64 (sV zs (sN zs (sB zs (0, 0) 1).2 2).2).1)).2 ((2 * (sN zs (sB zs (0, 0) 1).2 2).1 : Nat) : Int)).2 []) := rfl
 obtain ⟨c0, c1, f1⟩ := hq.cells
 have H1 := hid_intro (rd_B R G zs (0, 0) 1 w h)
 have hRl := h.lt.1
 have hGl := h.lt.2
 have hQl := hq.lt
 have HNE := hid_intro h.ne
 clear h hq
 go_enter Tryz.func21, Tryz.ntmps21
 go_wp2_with fail
 refine H1.out.mono ?_
 rintro en w1 ⟨⟨ao, k, rfl, _, _, _⟩, hr1, hg1⟩
 have D1 := hid_intro hr1
 have G1 := hid_intro hg1
 have Q1 := hid_intro (HQ.out.kept hg1 (fun e => hQR (Option.some.inj e)))
 clear hr1 hg1 H1 c0 c1 f1
 generalize (sB zs (0, 0) 1).2 = s1 at *
 have hnl := sN_lt zs s1 2 hbt
 have H2 := hid_intro (rd_N2 R G zs s1 _ D1.out hbt)
 obtain ⟨c0, c1, f1⟩ := Q1.out.cells
 go_wp2_with fail
 refine H2.out.mono ?_
 rintro en w2 ⟨rfl, hr2, hg2⟩
 have D2 := hid_intro hr2
 have G2 := hid_intro (grown_trans G1.out hg2)
 have Q2 := hid_intro (Q1.out.kept hg2 (fun e => hQR (Option.some.inj e)))
 clear hr2 hg2 H2 c0 c1 f1 D1 G1 Q1
 generalize (sN zs s1 2).2 = s2 at *
 generalize (sN zs s1 2).1 = N at *
 have hN : N < 65536 := hnl
 have HV := hid_intro (fun (W : World) (hW : Rd W R G zs s2.1 s2.2) => rd_V R G zs s2 W hW hbt)
 have hvl := sV_lt zs s2 hbt
 have hwr := i64_wrap hvl
 generalize (sV zs s2).2 = s3 at *
 generalize (sV zs s2).1 = x at *
 generalize i64 x = m at *
 have HB := hid_intro (fun (W : World) (hW : Rd W R G zs s3.1 s3.2) => rd_B R G zs s3 m W hW)
 generalize (sB zs s3 m).2 = s4 at *
 generalize (sB zs s3 m).1 = P at *
 have HB2 := hid_intro (fun (W : World) (hW : Rd W R G zs s4.1 s4.2) => rd_B R G zs s4 ((2 * N : Nat) : Int) W hW)
 generalize (sB zs s4 ((2 * N : Nat) : Int)).2 = s5 at *
 obtain ⟨c0, c1, f1⟩ := Q2.out.cells
 clear hnl
 go_wp2_with fail
 go_region_with (first
  | (go_at_call 43; refine (HV.out _ (by exact D2.out.kept ((Qt.refl w2).drew.grown none) (by simp) (by simp))).mono ?_; rintro en w3 ⟨rfl, hr3, hg3⟩; have d0 := hg3.cell (by exact c0) (by intro e; exact hQR (Option.some.inj e)); have d1 := hg3.cell (by exact c1) (by intro e; exact hQR (Option.some.inj e)))
  | (go_at_call 41; refine (HB.out _ hr3).mono ?_; rintro en w4 ⟨⟨po, pn, rfl, hb4, hao, hk⟩, hr4, hg4⟩; have e0 := hg4.cell d0 (by intro e; exact hQR (Option.some.inj e)); have e1 := hg4.cell d1 (by intro e; exact hQR (Option.some.inj e)); have ef := (Q2.out.kept (grown_trans (grown_trans ((Qt.refl w2).drew.grown (some R)) hg3) hg4) (fun e => hQR (Option.some.inj e))).cells.2.2))
 all_goals
  have hg24 := grown_trans (grown_trans ((Qt.refl w2).drew.grown (some R)) hg3) hg4
  have hgc := grown_cell w4 Q 1 (.slice po pn pn)
  have Q5 := hid_intro ((Q2.out.kept hg24 (fun e => hQR (Option.some.inj e))).set po pn pn)
  have D5 := hid_intro (hr4.kept hgc (fun e => hQR (Option.some.inj e).symm) (fun e => hQG (Option.some.inj e).symm))
  have B5 := hid_intro (hb4.kept hgc (fun ad e h e2 => by have h9 := hao h; rw [e] at h9; obtain rfl := Option.some.inj h9; exact hQG (Option.some.inj e2).symm))
  have T0 : Two w w R Q := ⟨rfl, rfl, rfl, Nat.le_refl _, fun _ _ _ _ => rfl⟩
  have T5 := hid_intro ((T0.grown2 (grown_trans G2.out hg24) (fun k e => .inl (Option.some.inj e).symm)).grown2 hgc (fun k e => .inr (.inl (Option.some.inj e).symm)))
  have HAO := hid_intro hao
  clear hg24 hgc T0 hr3 hr4 hb4 hao hg3 hg4 d0 d1 e0 e1 ef G2 Q2 D2 HV HB c0 c1 f1
  generalize w4.setCell ⟨Q, 1, none⟩ (.slice po pn pn) = w5 at *
  obtain ⟨c0, c1, f1⟩ := Q5.out.cells
  have H6 := hid_intro (HB2.out _ D5.out)
  clear HB2
  have hcast : ((2 * N : Nat) : Int) = 2 * (N : Int) := by omega
  rw [hcast] at H6
  go_wp2_with fail
  refine H6.out.mono ?_
  rintro en w6 ⟨⟨ao6, k6, rfl, _, _, _⟩, hr6, hg6⟩
  have HS0 : Hid (Rn w w6 Q R G w6.heap.size N po pn zs P 0 s5 [] (.slice none 0 0) []) :=
   ⟨hr6, Q5.out.kept hg6 (fun e => hQR (Option.some.inj e)), B5.out.kept hg6 (fun ad e h e2 => by have h9 := HAO.out h; rw [e] at h9; obtain rfl := Option.some.inj h9; exact HNE.out (Option.some.inj e2)), ⟨rfl, .inl ⟨rfl, rfl⟩⟩, Iv.nil _ _, T5.out.grown2 hg6 (fun k e => .inl (Option.some.inj e).symm), ⟨by have := T5.out.size; have := hg6.size; omega, hr6.lt.1, hr6.lt.2, hQR, by have := T5.out.size; have := hg6.size; omega, Nat.le_refl _⟩, (fun ad e h => by have h9 := HAO.out h; rw [e] at h9; obtain rfl := Option.some.inj h9; rfl), rfl, hr6.u8⟩
  clear hr6 hg6 H6 c0 c1 f1 Q5 D5 B5 T5 HAO
  go_wp2
  obtain ⟨base, hbase⟩ : ∃ base, base = w6.heap.size := ⟨_, rfl⟩
  rw [← hbase] at HS0
  clear hbase
  go_loopw [4, 5, 6, 7, 41] (fun sl _ _ _ si wr => ∃ (i : Nat) (st : Nat × Int) (L : List It) (xs : List Value), i ≤ N ∧ si = .int .i64 i ∧ sLoop zs P (N - i) st L = parse zs ∧ Rn w wr Q R G base N po pn zs P i st L sl xs) (fun _ _ _ _ si _ => N - (intOf si).toNat)
  case atStart => exact ⟨0, s5, [], [], Nat.zero_le _, rfl, HPZ.out.symm, HS0.out⟩
  case round =>
   rename_i sl _ _ _ si wr
   obtain ⟨i, st, L, xs, hi', rfl, hsl, hrn⟩ := hrel
   have HRN := hid_intro hrn
   have HSL := hid_intro hsl
   clear hsl hrn HS0 HPZ
   by_cases hlt : i < N
   ·have HI := hid_intro (item_any Q R G zs st po pn pn P wr HRN.out.lr HRN.out.rd hbt HRN.out.pb (fun ad e h => by rw [HRN.out.pg ad e h]; exact HNE.out) hQR (by omega) hz)
    have HSS : Hid (parse zs = if (sItem zs P st).2.2 = 0 then sLoop zs P (N - (i + 1)) (sItem zs P st).2 (L ++ [(sItem zs P st).1]) else []) := by
     show _ = _
     rw [← HSL.out, show N - i = (N - (i + 1)) + 1 by omega, sLoop]
    clear HSL
    generalize (sItem zs P st).2 = st' at *
    generalize (sItem zs P st).1 = it at *
    go_wp2_with fail
    refine HI.out.mono ?_
    rintro en w7 ⟨⟨ao, n, c, bo, m', d, rfl, him⟩, hr7, hg7⟩
    have M7 := hid_intro him
    have N7 := hid_intro (HRN.out.call hr7 hg7)
    clear him hr7 hg7 HI HRN
    obtain ⟨sz, hsz⟩ : ∃ sz, it.size = sz := ⟨_, rfl⟩
    obtain ⟨fs, hfs⟩ : ∃ fs, it.first = fs := ⟨_, rfl⟩
    rw [hsz, hfs]
    have HSZ := hid_intro hsz
    have HFS := hid_intro hfs
    clear hsz hfs
    have ga := World.grownBy_alloc w7 (.cells #[.slice ao n c, .slice bo m' d, .int .i64 sz, .int .i64 fs] 52) none
    have N8 := hid_intro (N7.out.keptN ga)
    have M8 := hid_intro (M7.out.kept ga (fun _ _ _ => by simp))
    have X8 := hid_intro (Bx.new w7 (.slice ao n c) (.slice bo m' d) (.int .i64 sz) (.int .i64 fs))
    have qc := N8.out.lr.cells.1
    have HER := hid_intro (fun (W : World) (hW : Rd W R G zs st'.1 st'.2) => err_any R G zs st'.1 st'.2 W hW)
    clear ga N7 M7
    go_wp2_with fail
    clear qc
    generalize w7.alloc (.cells #[.slice ao n c, .slice bo m' d, .int .i64 sz, .int .i64 fs] 52) = w8 at *
    generalize w7.heap.size = T at *
    refine (HER.out _ N8.out.rd).mono ?_
    rintro en w9 ⟨rfl, hq9⟩
    have N9 := hid_intro (N8.out.keptN (hq9.grown none))
    have M9 := hid_intro (M8.out.kept (hq9.grown none) (fun _ _ _ => by simp))
    have X9 := hid_intro (X8.out.kept (hq9.grown none) (by simp))
    clear hq9 N8 M8 X8
    obtain ⟨pp, ee⟩ := st'
    by_cases he : ee = 0
    ·subst he
     have HSS1 := hid_intro (HSS.out.trans (if_pos rfl))
     clear HSS
     obtain ⟨x0, x1, x2, x3⟩ := X9.out.cells
     go_wp2_with (at_builtin; refine wpList_append_own _ rfl _ _ 22 rfl base 52 i0 (.agg #[.slice none 0 0, .slice none 0 0, .int .i64 0, .int .i64 0]) 4 64 Tryz.underlying22 hi hz0 hz1 hz2 rfl (by decide) _ i xs rfl (N9.out.own.alloc _) ⟨w9.heap.size, 0, none⟩ 1 1 [.slice ao n c, .slice bo m' d, .int .i64 sz, .int .i64 fs] rfl rfl (cell_four_new _ _ _ _ _ _) (by intro u hu; simp at hu; rcases hu with rfl | rfl | rfl | rfl <;> rfl) (by unfold maxLen; omega) (by omega) (by have := N9.out.far.2.2.2.2.2; simp; omega) ?_)
     intro v' w10 ho hg10 _
     have N10 : Hid (Rn w w10 Q R G base N po pn zs P (i + 1) (pp, 0) (L ++ [it]) v' (xs ++ [.slice ao n c, .slice bo m' d, .int .i64 it.size, .int .i64 it.first])) :=
      (N9.out.keptN (World.grownBy_alloc w9 _ none)).app (M9.out.kept (World.grownBy_alloc w9 _ none) (fun _ _ _ => by simp)) (by rw [HSZ.out, HFS.out]; exact ho) hg10
     clear ho hg10 N9 M9 X9 x0 x1 x2 x3
     go_wp2
     go_roundw
     case rel => exact ⟨i + 1, (pp, 0), L ++ [it], _, by omega, by go_num, HSS1.out.symm, N10.out⟩
     case measure => simp [intOf]; omega
    ·have HSS1 := hid_intro (HSS.out.trans (if_neg he))
     clear HSS
     go_wp2
     go_ret
     refine ⟨⟨none, 0, 0, rfl, ?_, ?_, Nat.le_refl _, by omega, Nw.zero _ _ _ _⟩, N9.out.two⟩
     ·rw [HSS1.out]; exact Il.zero _ _
     ·rw [HSS1.out]; rfl
   ·have hin : i = N := by omega
    subst hin
    obtain ⟨a, cap, e1, e2, e3, e4, e5⟩ := HRN.out.iv.il HRN.out.own
    have HSL1 : Hid (L = parse zs) := by
     have := HSL.out
     rw [Nat.sub_self] at this
     exact this
    subst e1
    have HNW : Hid (Nw w wr 52 a i) := Nw.of_owns HRN.out.own HRN.out.far.2.2.2.2.1
    have HE2 := hid_intro e2
    clear e2 HSL
    go_wp2
    go_ret
    refine ⟨⟨a, i, cap, rfl, ?_, ?_, e4, e5, HNW.out⟩, HRN.out.two⟩
    ·rw [← HSL1.out]; exact HE2.out
    ·rw [← HSL1.out]; exact e3
end Go.Proofs.YtcdkkhbkicejiaaGreatDoor
