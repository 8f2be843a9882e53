import Derived.Test.YtkiopabcnemgnaaGreatDoorK13
import Derived.Laws.CopyOwn
import Derived.Deep.RegionLaw
import Derived.Great.Walk
set_option maxRecDepth 100000
set_option maxHeartbeats 4000000
namespace Go.Proofs.YtkiopabcnemgnaaGreatDoor
open Go.RowKit
theorem Lr.set {w : World} {Q R : Nat} {po : Option Addr} {pn pc : Nat} (h : Lr w Q R po pn pc) (po' : Option Addr) (pn' pc' : Nat) : Lr (w.setCell ⟨Q, 1, none⟩ (.slice po' pn' pc')) Q R po' pn' pc' := heap_setCell_same w Q 1 _ _ _ h
structure Rn (w wr : World) (Q R G base N : Nat) (po : Option Addr) (pn : Nat) (zs P : List Int) (i : Nat) (st : Nat × Int) (L : List It) (v : Value) (xs : List Value) : Prop where
 rd : Rd wr R G zs st.1 st.2
 lr : Lr wr Q R po pn pn
 pb : Byt wr po pn pn P
 own : wr.ownsRow base 62 4 v i xs
 iv : Iv wr R xs L
 two : Two w wr R Q
 far : Q < base ∧ R < base ∧ G < base ∧ Q ≠ R ∧ w.heap.size ≤ base ∧ base ≤ wr.heap.size
 pg : ∀ ad, po = some ad → 0 < pn → ad.block = G
 len : L.length = i
 u8 : U8 wr G
theorem Rn.call {w wr w' : World} {Q R G base N : Nat} {po : Option Addr} {pn : Nat} {zs P : List Int} {i : Nat} {st st' : Nat × Int} {L : List It} {v : Value} {xs : List Value} (h : Rn w wr Q R G base N po pn zs P i st L v xs) (hr : Rd w' R G zs st'.1 st'.2) (hg : wr.grownBy w' (some R)) : Rn w w' Q R G base N po pn zs P i st' L v xs := by
 have hne : v.ownBlock ≠ some R := fun e => by have := (h.own.lt R e).1; have := h.far.2.1; omega
 exact ⟨hr, h.lr.kept hg (fun e => h.far.2.2.2.1 (Option.some.inj e)), h.pb.kept hg (fun ad e hn e2 => by have := h.pg ad e hn; have := Option.some.inj e2; have := h.rd.ne; omega), h.own.kept hg (.inr hne), h.iv.kept hg (fun b hb _ e => hb (Option.some.inj e)), h.two.grown2 hg (fun k e => by have := Option.some.inj e; omega), ⟨h.far.1, h.far.2.1, h.far.2.2.1, h.far.2.2.2.1, h.far.2.2.2.2.1, Nat.le_trans h.far.2.2.2.2.2 hg.size⟩, h.pg, h.len, h.u8.kept hg (fun e => h.rd.ne (Option.some.inj e))⟩
theorem Rn.keptN {w wr w' : World} {Q R G base N : Nat} {po : Option Addr} {pn : Nat} {zs P : List Int} {i : Nat} {st : Nat × Int} {L : List It} {v : Value} {xs : List Value} (h : Rn w wr Q R G base N po pn zs P i st L v xs) (hg : wr.grownBy w' none) : Rn w w' Q R G base N po pn zs P i st L v xs :=
 h.call (h.rd.kept hg (by simp) (by simp)) (grown_any hg)
theorem Rn.app {w wr w' : World} {Q R G base N : Nat} {po : Option Addr} {pn : Nat} {zs P : List Int} {i : Nat} {st : Nat × Int} {L : List It} {v v' : Value} {xs : List Value} {ao : Option Addr} {n c : Nat} {bo : Option Addr} {m d : Nat} {x : It} (h : Rn w wr Q R G base N po pn zs P i st L v xs) (hx : Im wr R ao n c bo m d x)
  (ho : w'.ownsRow base 62 4 v' (i + 1) (xs ++ [.slice ao n c, .slice bo m d, .int .i64 x.size, .int .i64 x.first])) (hg : wr.grownBy w' v.ownBlock) : Rn w w' Q R G base N po pn zs P (i + 1) st (L ++ [x]) v' (xs ++ [.slice ao n c, .slice bo m d, .int .i64 x.size, .int .i64 x.first]) := by
 have hb : ∀ k, k < base → some k ≠ v.ownBlock := fun k hk e => by have := (h.own.lt k e.symm).1; omega
 have hne : ∀ b, b ≠ R → U8 wr b → some b ≠ v.ownBlock := fun b _ hu => own_item_ne h.own b hu
 exact ⟨h.rd.kept hg (hb R h.far.2.1) (hb G h.far.2.2.1), h.lr.kept hg (hb Q h.far.1), h.pb.kept hg (fun ad e hn => by rw [h.pg ad e hn]; exact hb G h.far.2.2.1), ho, (h.iv.kept hg hne).snoc (hx.kept hg hne) _ _ rfl rfl,
  h.two.grown2 hg (fun k e => by have := (h.own.lt k e).1; have := h.far.2.2.2.2.1; omega), ⟨h.far.1, h.far.2.1, h.far.2.2.1, h.far.2.2.2.1, h.far.2.2.2.2.1, Nat.le_trans h.far.2.2.2.2.2 hg.size⟩, h.pg, by simp [h.len], h.u8.kept hg (hb G h.far.2.2.1)⟩
theorem items_any (Q R G : Nat) (zs : List Int) (w : World) (hq : Lr w Q R none 0 0) (h : Rd w R G zs 0 0) (hbt : Bt zs) (hQR : Q ≠ R) (hQG : Q ≠ G) (hz : zs.length ≤ 5000) :
  Calls Tryz.prog 125 #[.pointer (some ⟨Q, 0, none⟩)] w fun en w' => (∃ a n cap, en = .returned (.slice a n cap) ∧ Il w' a (parse zs) ∧ (parse zs).length = n ∧ n ≤ cap ∧ cap ≤ 9223372036854775807 ∧ Nw w w' 62 a n) ∧ Two w w' R Q := by
 obtain ⟨i0, hi, hz0, hz1, hz2⟩ := info_parts info_item;have HQ := hJ hq;have HPZ : Hid (parse zs = sLoop zs (sB zs (sV zs (sN zs (sB zs (0, 0) 1).2 2).2).2 (i64 (sV zs (sN zs (sB zs (0, 0) 1).2 2).2).1)).1 (sN zs (sB zs (0, 0) 1).2 2).1 (sB zs (sB zs (sV zs (sN zs (sB zs (0, 0) 1).2 2).2).2 (i64 (sV zs (sN zs (sB zs (0, 0) 1).2 2).2).1)).2 ((2 * (sN zs (sB zs (0, 0) 1).2 2).1 : Nat) : Int)).2 []) := rfl;obtain ⟨c0, c1, f1⟩ := hq.cells;have H1 := hJ (rd_B R G zs (0, 0) 1 w h);have hRl := h.lt.1;have hGl := h.lt.2;have hQl := hq.lt;have HNE := hJ h.ne;clear h hq;go_enter Tryz.func125, Tryz.ntmps125
 go_wp2_with fail
 refine H1.out.mono ?_;rintro en w1 ⟨⟨ao, k, rfl, _, _, _⟩, hr1, hg1⟩;have D1 := hJ hr1;have G1 := hJ hg1;have Q1 := hJ (HQ.out.kept hg1 (fun e => hQR (Option.some.inj e)));clear hr1 hg1 H1 c0 c1 f1;generalize (sB zs (0, 0) 1).2 = s1 at *;have hnl := sN_lt zs s1 2 hbt;have H2 := hJ (rd_N2 R G zs s1 _ D1.out hbt);obtain ⟨c0, c1, f1⟩ := Q1.out.cells
 go_wp2_with fail
 refine H2.out.mono ?_;rintro en w2 ⟨rfl, hr2, hg2⟩;have D2 := hJ hr2;have G2 := hJ (gQ G1.out hg2);have Q2 := hJ (Q1.out.kept hg2 (fun e => hQR (Option.some.inj e)));clear hr2 hg2 H2 c0 c1 f1 D1 G1 Q1;generalize (sN zs s1 2).2 = s2 at *;generalize (sN zs s1 2).1 = N at *;have hN : N < 65536 := hnl;have HV := hJ (fun (W : World) (hW : Rd W R G zs s2.1 s2.2) => rd_V R G zs s2 W hW hbt);have hvl := sV_lt zs s2 hbt;have hwr := i64_wrap hvl;generalize (sV zs s2).2 = s3 at *;generalize (sV zs s2).1 = x at *;generalize i64 x = m at *;have HB := hJ (fun (W : World) (hW : Rd W R G zs s3.1 s3.2) => rd_B R G zs s3 m W hW);generalize (sB zs s3 m).2 = s4 at *;generalize (sB zs s3 m).1 = P at *;have HB2 := hJ (fun (W : World) (hW : Rd W R G zs s4.1 s4.2) => rd_B R G zs s4 ((2 * N : Nat) : Int) W hW);generalize (sB zs s4 ((2 * N : Nat) : Int)).2 = s5 at *;obtain ⟨c0, c1, f1⟩ := Q2.out.cells;clear hnl
 go_wp2_with fail
 go_region_with (first
  | (go_at_call 162; refine (HV.out _ (by exact D2.out.kept ((Qt.refl w2).drew.grown none) (by simp) (by simp))).mono ?_; rintro en w3 ⟨rfl, hr3, hg3⟩; have d0 := hg3.cell (by exact c0) (by intro e; exact hQR (Option.some.inj e)); have d1 := hg3.cell (by exact c1) (by intro e; exact hQR (Option.some.inj e)))
  | (go_at_call 136; refine (HB.out _ hr3).mono ?_; rintro en w4 ⟨⟨po, pn, rfl, hb4, hao, hk⟩, hr4, hg4⟩; have e0 := hg4.cell d0 (by intro e; exact hQR (Option.some.inj e)); have e1 := hg4.cell d1 (by intro e; exact hQR (Option.some.inj e)); have ef := (Q2.out.kept (gQ (gQ ((Qt.refl w2).drew.grown (some R)) hg3) hg4) (fun e => hQR (Option.some.inj e))).cells.2.2))
 all_goals
  have hg24 := gQ (gQ ((Qt.refl w2).drew.grown (some R)) hg3) hg4;have hgc := grown_cell w4 Q 1 (.slice po pn pn);have Q5 := hJ ((Q2.out.kept hg24 (fun e => hQR (Option.some.inj e))).set po pn pn);have D5 := hJ (hr4.kept hgc (fun e => hQR (Option.some.inj e).symm) (fun e => hQG (Option.some.inj e).symm));have B5 := hJ (hb4.kept hgc (fun ad e h e2 => by have h9 := hao h; rw [e] at h9; obtain rfl := Option.some.inj h9; exact hQG (Option.some.inj e2).symm));have T0 : Two w w R Q := ⟨rfl, rfl, rfl, Nat.le_refl _, fun _ _ _ _ => rfl⟩;have T5 := hJ ((T0.grown2 (gQ G2.out hg24) (fun k e => .inl (Option.some.inj e).symm)).grown2 hgc (fun k e => .inr (.inl (Option.some.inj e).symm)));have HAO := hJ hao;clear hg24 hgc T0 hr3 hr4 hb4 hao hg3 hg4 d0 d1 e0 e1 ef G2 Q2 D2 HV HB c0 c1 f1;generalize w4.setCell ⟨Q, 1, none⟩ (.slice po pn pn) = w5 at *;obtain ⟨c0, c1, f1⟩ := Q5.out.cells;have H6 := hJ (HB2.out _ D5.out);clear HB2;have hcast : ((2 * N : Nat) : Int) = 2 * (N : Int) := by omega
  rw [hcast] at H6
  go_wp2_with fail
  refine H6.out.mono ?_;rintro en w6 ⟨⟨ao6, k6, rfl, _, _, _⟩, hr6, hg6⟩
  have HS0 : Hid (Rn w w6 Q R G w6.heap.size N po pn zs P 0 s5 [] (.slice none 0 0) []) :=
   ⟨hr6, Q5.out.kept hg6 (fun e => hQR (Option.some.inj e)), B5.out.kept hg6 (fun ad e h e2 => by have h9 := HAO.out h; rw [e] at h9; obtain rfl := Option.some.inj h9; exact HNE.out (Option.some.inj e2)), ⟨rfl, .inl ⟨rfl, rfl⟩⟩, Iv.nil _ _, T5.out.grown2 hg6 (fun k e => .inl (Option.some.inj e).symm), ⟨by have := T5.out.size; have := hg6.size; omega, hr6.lt.1, hr6.lt.2, hQR, by have := T5.out.size; have := hg6.size; omega, Nat.le_refl _⟩, (fun ad e h => by have h9 := HAO.out h; rw [e] at h9; obtain rfl := Option.some.inj h9; rfl), rfl, hr6.u8⟩
  clear hr6 hg6 H6 c0 c1 f1 Q5 D5 B5 T5 HAO;go_wp2;obtain ⟨base, hbase⟩ : ∃ base, base = w6.heap.size := ⟨_, rfl⟩;rw [← hbase] at HS0;clear hbase;go_loopw [4, 5, 6, 7, 41] (fun sl _ _ _ si wr => ∃ (i : Nat) (st : Nat × Int) (L : List It) (xs : List Value), i ≤ N ∧ si = .int .i64 i ∧ sLoop zs P (N - i) st L = parse zs ∧ Rn w wr Q R G base N po pn zs P i st L sl xs) (fun _ _ _ _ si _ => N - (intOf si).toNat)
  case atStart => exact ⟨0, s5, [], [], Nat.zero_le _, rfl, HPZ.out.symm, HS0.out⟩
  case round =>
   rename_i sl _ _ _ si wr;obtain ⟨i, st, L, xs, hi', rfl, hsl, hrn⟩ := hrel;have HRN := hJ hrn;have HSL := hJ hsl;clear hsl hrn HS0 HPZ
   by_cases hlt : i < N
   ·have HI := hJ (item_any Q R G zs st po pn pn P wr HRN.out.lr HRN.out.rd hbt HRN.out.pb (fun ad e h => by rw [HRN.out.pg ad e h]; exact HNE.out) hQR (by omega) hz)
    have HSS : Hid (parse zs = if (sItem zs P st).2.2 = 0 then sLoop zs P (N - (i + 1)) (sItem zs P st).2 (L ++ [(sItem zs P st).1]) else []) := by
     show _ = _
     rw [← HSL.out, show N - i = (N - (i + 1)) + 1 by omega, sLoop]
    clear HSL;generalize (sItem zs P st).2 = st' at *;generalize (sItem zs P st).1 = it at *
    go_wp2_with fail
    refine HI.out.mono ?_;rintro en w7 ⟨⟨ao, n, c, bo, m', d, rfl, him⟩, hr7, hg7⟩;have M7 := hJ him;have N7 := hJ (HRN.out.call hr7 hg7);clear him hr7 hg7 HI HRN;obtain ⟨sz, hsz⟩ : ∃ sz, it.size = sz := ⟨_, rfl⟩;obtain ⟨fs, hfs⟩ : ∃ fs, it.first = fs := ⟨_, rfl⟩
    rw [hsz, hfs];have HSZ := hJ hsz;have HFS := hJ hfs;clear hsz hfs;have ga := World.grownBy_alloc w7 (.cells #[.slice ao n c, .slice bo m' d, .int .i64 sz, .int .i64 fs] 62) none;have N8 := hJ (N7.out.keptN ga);have M8 := hJ (M7.out.kept ga (fun _ _ _ => by simp));have X8 := hJ (Bx.new w7 (.slice ao n c) (.slice bo m' d) (.int .i64 sz) (.int .i64 fs));have qc := N8.out.lr.cells.1;have HER := hJ (fun (W : World) (hW : Rd W R G zs st'.1 st'.2) => err_any R G zs st'.1 st'.2 W hW);clear ga N7 M7
    go_wp2_with fail
    clear qc;generalize w7.alloc (.cells #[.slice ao n c, .slice bo m' d, .int .i64 sz, .int .i64 fs] 62) = w8 at *;generalize w7.heap.size = T at *;refine (HER.out _ N8.out.rd).mono ?_;rintro en w9 ⟨rfl, hq9⟩;have N9 := hJ (N8.out.keptN (hq9.grown none));have M9 := hJ (M8.out.kept (hq9.grown none) (fun _ _ _ => by simp));have X9 := hJ (X8.out.kept (hq9.grown none) (by simp));clear hq9 N8 M8 X8;obtain ⟨pp, ee⟩ := st'
    by_cases he : ee = 0
    ·subst he
     have HSS1 := hJ (HSS.out.trans (if_pos rfl));clear HSS;obtain ⟨x0, x1, x2, x3⟩ := X9.out.cells
     go_wp2_with (at_builtin; refine wpList_append_own _ rfl _ _ 22 rfl base 62 i0 (.agg #[.slice none 0 0, .slice none 0 0, .int .i64 0, .int .i64 0]) 4 64 Tryz.underlying22 hi hz0 hz1 hz2 rfl (by decide) _ i xs rfl (N9.out.own.alloc _) ⟨w9.heap.size, 0, none⟩ 1 1 [.slice ao n c, .slice bo m' d, .int .i64 sz, .int .i64 fs] rfl rfl (cell_four_new _ _ _ _ _ _) (by intro u hu; simp at hu; rcases hu with rfl | rfl | rfl | rfl <;> rfl) (by unfold maxLen; omega) (by omega) (by have := N9.out.far.2.2.2.2.2; simp; omega) ?_)
     intro v' w10 ho hg10 _
     have N10 : Hid (Rn w w10 Q R G base N po pn zs P (i + 1) (pp, 0) (L ++ [it]) v' (xs ++ [.slice ao n c, .slice bo m' d, .int .i64 it.size, .int .i64 it.first])) :=
      (N9.out.keptN (World.grownBy_alloc w9 _ none)).app (M9.out.kept (World.grownBy_alloc w9 _ none) (fun _ _ _ => by simp)) (by rw [HSZ.out, HFS.out]; exact ho) hg10
     clear ho hg10 N9 M9 X9 x0 x1 x2 x3;go_wp2;go_roundw
     case rel => exact ⟨i + 1, (pp, 0), L ++ [it], _, by omega, by go_num, HSS1.out.symm, N10.out⟩
     case measure => simp [intOf]; omega
    ·have HSS1 := hJ (HSS.out.trans (if_neg he))
     clear HSS;go_wp2;go_ret;refine ⟨⟨none, 0, 0, rfl, ?_, ?_, Nat.le_refl _, by omega, Nw.zero _ _ _ _⟩, N9.out.two⟩
     ·rw [HSS1.out]; exact Il.zero _ _
     ·rw [HSS1.out]; rfl
   ·have hin : i = N := by omega
    subst hin;obtain ⟨a, cap, e1, e2, e3, e4, e5⟩ := HRN.out.iv.il HRN.out.own
    have HSL1 : Hid (L = parse zs) := by
     have := HSL.out;rw [Nat.sub_self] at this;exact this
    subst e1;have HNW : Hid (Nw w wr 62 a i) := Nw.of_owns HRN.out.own HRN.out.far.2.2.2.2.1;have HE2 := hJ e2;clear e2 HSL;go_wp2;go_ret;refine ⟨⟨a, i, cap, rfl, ?_, ?_, e4, e5, HNW.out⟩, HRN.out.two⟩
    ·rw [← HSL1.out]; exact HE2.out
    ·rw [← HSL1.out]; exact e3
theorem sV_ok {zs : List Int} {s : Nat × Int} (hb : Bt zs) (h : (sV zs s).2.2 = 0) : s.2 = 0 ∧ s.1 + 1 ≤ (sV zs s).2.1 ∧ (sV zs s).2.1 ≤ max s.1 zs.length := by
 unfold sV at h ⊢
 split
 ·rename_i h0
  rw [if_pos h0] at h
  split
  ·rename_i h1
   rw [if_pos h1] at h;obtain ⟨x, n, e⟩ : ∃ x n, rv (zs.drop s.1) = (x, n, 0) := ⟨_, _, by rw [← h1]⟩;have hb2 := rv_back (zs.drop s.1) x n (hb.drop _) e;rw [e];simp only [List.length_drop] at hb2 ⊢;exact ⟨h0, by omega, by omega⟩
  ·rename_i h1
   rw [if_neg h1] at h;exact absurd h h1
 ·rename_i h0
  rw [if_neg h0] at h;exact absurd h h0
theorem sB_ok {zs : List Int} {s : Nat × Int} {m : Int} (h : (sB zs s m).2.2 = 0) : s.2 = 0 ∧ s.1 ≤ (sB zs s m).2.1 ∧ (sB zs s m).2.1 ≤ max s.1 zs.length := by
 unfold sB at h ⊢
 split
 ·rename_i h0
  rw [if_pos h0] at h
  split
  ·rename_i h1
   rw [if_pos h1] at h;exact absurd h (by simp)
  ·rename_i h1
   exact ⟨h0, by simp, by simp only; omega⟩
 ·rename_i h0
  rw [if_neg h0] at h;exact absurd h h0
theorem sN_ok {zs : List Int} {s : Nat × Int} {k : Nat} (h : (sN zs s k).2.2 = 0) : s.2 = 0 ∧ s.1 ≤ (sN zs s k).2.1 ∧ (sN zs s k).2.1 ≤ max s.1 zs.length := by
 unfold sN at h ⊢
 split
 ·rename_i h0
  rw [if_pos h0] at h
  split
  ·rename_i h1
   rw [if_pos h1] at h;exact absurd h (by simp)
  ·rename_i h1
   exact ⟨h0, by simp, by simp only; omega⟩
 ·rename_i h0
  rw [if_neg h0] at h;exact absurd h h0
theorem sVal_ok {zs key : List Int} {t : Nat × (Nat × Int)} (h : (sVal zs key t).2.2 = 0) : t.2.2 = 0 ∧ t.2.1 ≤ (sVal zs key t).2.1 ∧ (sVal zs key t).2.1 ≤ max t.2.1 zs.length := by
 unfold sVal at h ⊢
 split
 ·rename_i h0
  rw [if_pos h0] at h;exact sN_ok h
 ·rename_i h0
  rw [if_neg h0] at h;exact sB_ok h
theorem sItem_ok {zs P : List Int} {s : Nat × Int} (hb : Bt zs) (h : (sItem zs P s).2.2 = 0) : s.1 + 2 ≤ (sItem zs P s).2.1 ∧ (sItem zs P s).2.1 ≤ max s.1 zs.length := by
 have h1 := sVal_ok (zs := zs) (key := (sKey zs P s).1) (t := sV zs (sKey zs P s).2) h;have h2 := sV_ok hb h1.1;have h3 := sB_ok (zs := zs) (s := (sV zs s).2) (m := i64 (sV zs s).1) h2.1;have h4 := sV_ok hb h3.1;have e : (sKey zs P s).2 = (sB zs (sV zs s).2 (i64 (sV zs s).1)).2 := rfl;have e2 : sItem zs P s = sVal zs (sKey zs P s).1 (sV zs (sKey zs P s).2) := rfl;rw [e] at h2;rw [e2];rw [e] at h1 ⊢;omega
theorem sB_bt {zs : List Int} (s : Nat × Int) (m : Int) (hb : Bt zs) : Bt (sB zs s m).1 ∧ (sB zs s m).1.length ≤ zs.length := by
 unfold sB
 split
 ·split
  ·exact ⟨Bt.nil, by simp⟩
  ·exact ⟨(hb.drop _).take _, by simp only [List.length_take, List.length_drop]; omega⟩
 ·exact ⟨Bt.nil, by simp⟩
structure Ir (x : It) : Prop where
 b : Itb x
 k : x.key.length ≤ 10000
theorem sVal_ir {zs key : List Int} (t : Nat × (Nat × Int)) (hb : Bt zs) (hk : Bt key) (hl : key.length ≤ 10000) (ht : t.1 < 18446744073709551616) : Ir (sVal zs key t).1 := by
 unfold sVal
 split
 ·have := sN_lt zs t.2 4 hb
  exact ⟨⟨hk, Bt.nil, by simp only; omega, by simp only; omega, by simp only; omega, by simp only; omega⟩, hl⟩
 ·exact ⟨⟨hk, (sB_bt _ _ hb).1, by simp only; omega, by simp only; omega, by simp only; omega, by simp only; omega⟩, hl⟩
theorem sItem_ir {zs P : List Int} (s : Nat × Int) (hb : Bt zs) (hP : Bt P) (hl : P.length + zs.length ≤ 10000) : Ir (sItem zs P s).1 := by
 have h1 := sB_bt (zs := zs) (sV zs s).2 (i64 (sV zs s).1) hb;exact sVal_ir (zs := zs) (key := (sKey zs P s).1) (sV zs (sKey zs P s).2) hb (hP.app h1.1) (by show (P ++ _).length ≤ _; rw [List.length_append]; omega) (sV_lt _ _ hb)
theorem sLoop_ir {zs P : List Int} (hb : Bt zs) (hP : Bt P) (hl : P.length + zs.length ≤ 10000) : ∀ (n : Nat) (s : Nat × Int) (acc : List It), (∀ x ∈ acc, Ir x) → ∀ x ∈ sLoop zs P n s acc, Ir x
 | 0, _, _, h, x, hx => h x hx
 | n + 1, s, acc, h, x, hx => by
  rw [sLoop] at hx
  split at hx
  ·refine sLoop_ir hb hP hl n _ _ (fun y hy => ?_) x hx
   rcases List.mem_append.1 hy with hy | hy
   ·exact h y hy
   ·obtain rfl := List.mem_singleton.1 hy
    exact sItem_ir s hb hP hl
  ·cases hx
theorem sLoop_len {zs P : List Int} (hb : Bt zs) : ∀ (n : Nat) (s : Nat × Int) (acc : List It), s.1 ≤ zs.length → 2 * acc.length ≤ s.1 → 2 * (sLoop zs P n s acc).length ≤ zs.length
 | 0, s, acc, h1, h2 => by rw [sLoop]; omega
 | n + 1, s, acc, h1, h2 => by
  rw [sLoop]
  split
  ·rename_i h0
   have h3 := sItem_ok hb h0;exact sLoop_len hb n _ _ (by omega) (by simp; omega)
  ·simp
theorem sHead_bt {zs : List Int} (hb : Bt zs) : Bt (sHead zs).2.1 ∧ (sHead zs).2.1.length ≤ zs.length := sB_bt _ _ hb
theorem sV_pl {zs : List Int} {s : Nat × Int} (hb : Bt zs) (h : s.1 ≤ zs.length) : (sV zs s).2.1 ≤ zs.length := by
 unfold sV
 split
 ·split
  ·rename_i h0 h1
   obtain ⟨x, n, e⟩ : ∃ x n, rv (zs.drop s.1) = (x, n, 0) := ⟨_, _, by rw [← h1]⟩;have hb2 := rv_back (zs.drop s.1) x n (hb.drop _) e;rw [e];simp only [List.length_drop] at hb2 ⊢;omega
  ·exact h
 ·exact h
theorem sB_pl {zs : List Int} {s : Nat × Int} {m : Int} (h : s.1 ≤ zs.length) : (sB zs s m).2.1 ≤ zs.length := by
 unfold sB
 split
 ·split
  ·exact h
  ·simp only; omega
 ·exact h
theorem sN_pl {zs : List Int} {s : Nat × Int} {k : Nat} (h : s.1 ≤ zs.length) : (sN zs s k).2.1 ≤ zs.length := by
 unfold sN
 split
 ·split
  ·exact h
  ·simp only; omega
 ·exact h
theorem sHead_pl {zs : List Int} (hb : Bt zs) : (sHead zs).2.2.1 ≤ zs.length := sB_pl (sB_pl (sV_pl hb (sN_pl (sB_pl (Nat.zero_le _)))))
theorem parse_ir {zs : List Int} (hb : Bt zs) (hl : zs.length ≤ 5000) : ∀ x ∈ parse zs, Ir x := by
 have h := sHead_bt hb;exact sLoop_ir hb h.1 (by omega) _ _ _ (fun x hx => by cases hx)
theorem parse_len {zs : List Int} (hb : Bt zs) (hl : zs.length ≤ 5000) : (parse zs).length ≤ 5000 := by
 have := sLoop_len (P := (sHead zs).2.1) hb (sHead zs).1 (sHead zs).2.2 [] (sHead_pl hb) (by simp);unfold parse;omega
theorem enc_good (zs : List Int) (L : List It) : ((enc L).1 = zs ∧ (enc L).2 = 0 → Good zs L) ∧ (Good zs L → (enc L).1 = zs ∧ (enc L).2 = 0) := by
 unfold enc;constructor
 ·rintro ⟨h1, h2⟩
  split at h1
  ·rename_i hw
   rw [if_pos hw] at h2
   split at h1
   ·rename_i hs
    exact ⟨hw, hs, h1⟩
   ·rename_i hs
    rw [if_neg hs] at h2;exact absurd h2 (by simp)
  ·rename_i hw
   rw [if_neg hw] at h2;exact absurd h2 hw
 ·rintro ⟨h1, h2, h3⟩
  rw [if_pos h1, if_pos h2];exact ⟨h3, rfl⟩
def Dec (zs : List Int) (L : List It) (e : Int) : Prop := (e = 0 ∧ Good zs L ∧ zs.length = 4092) ∨ (e = 40 ∧ L = [] ∧ ∀ M, ¬ (Good zs M ∧ zs.length = 4092))
theorem decode_len (ao : Option Addr) (n c : Nat) (w : World) (h : n ≠ 4092) : Calls Tryz.prog 105 #[.slice ao n c] w fun en w' => en = .returned (.tuple #[.slice none 0 0, .int .i64 40]) ∧ w' = w := by
 go_enter Tryz.func105, Tryz.ntmps105;go_wp2
 go_ret2
 exact ⟨rfl, rfl⟩
theorem decode_body (ao : Option Addr) (c : Nat) (zs : List Int) (w : World) (hb : Byt w ao 4092 c zs) (hbt : Bt zs) :
  Calls Tryz.prog 105 #[.slice ao 4092 c] w fun en w' => (∃ a n cap e L, en = .returned (.tuple #[.slice a n cap, .int .i64 e]) ∧ Dec zs L e ∧ Il w' a L ∧ L.length = n ∧ n ≤ cap ∧ cap ≤ 9223372036854775807 ∧ (e = 0 → L = parse zs) ∧ Nw w w' 62 a n) ∧ w.grownBy w' none := by
 have hl := hb.len;have HIR := hJ (parse_ir hbt (by omega));have HPL := hJ (parse_len hbt (by omega));have HIB : Hid (Ib (parse zs)) := fun x hx => (HIR.out x hx).b
 have HB := hJ hb;clear hb;go_enter Tryz.func105, Tryz.ntmps105
 go_wp2_with fail
 refine (newReader_any ao 4092 c zs _ HB.out (by omega)).mono ?_;rintro en w1 ⟨R, rfl, hr1, hg1, hR⟩;have ga := World.grownBy_alloc w1 (.cells #[.pointer (some ⟨R, 0, none⟩), .slice none 0 0] 159) none
 have Q2 : Hid (Lr (w1.alloc (.cells #[.pointer (some ⟨R, 0, none⟩), .slice none 0 0] 159)) w1.heap.size R none 0 0) := by
  show _ = _
  exact heap_alloc_new w1 _
 have D2 := hJ (hr1.kept ga (by simp) (by simp));have G2 := hJ (gQ hg1 ga);have hRl := hr1.lt.1;have hGl := hr1.lt.2;have hsz : w.heap.size ≤ w1.heap.size := hg1.size;clear ga hr1 hg1
 go_wp2_with fail
 generalize w1.alloc (.cells #[.pointer (some ⟨R, 0, none⟩), .slice none 0 0] 159) = w2 at *;generalize w1.heap.size = Q at *;refine (items_any Q R w.heap.size zs _ Q2.out D2.out hbt (by omega) (by omega) (by omega)).mono ?_;rintro en w3 ⟨⟨a, n, cap, rfl, hil, hn, hnc, hcm, hnw⟩, ht3⟩;have G3 := hJ (ht3.grown G2.out (by omega) hsz);have W3 := hJ (hnw.from G2.out.size);clear hnw;have L3 := hJ hil;have B3 := hJ (HB.out.keptN G3.out);have hn5 : n ≤ 5000 := by have := HPL.out; omega
 clear hil ht3 G2 D2 Q2
 go_wp2_with fail
 refine (encode_any a n cap (parse zs) _ L3.out HIB.out hn hn5).mono ?_;rintro en w4 ⟨⟨bo, k, c', rfl, hb4, hk4⟩, hg4⟩;have B4 := hJ hb4;have L4 := hJ (L3.out.keptN hg4);have W4 := hJ (W3.out.keptN hg4);have Z4 := hJ (B3.out.keptN hg4);have G4 := hJ (gQ G3.out hg4);have HEB := hJ (enc_bt HIB.out);clear hb4 hg4 L3 B3 G3;have HEQ := hJ (enc_good zs (parse zs));have HPB : Hid (∀ M, Good zs M → parse zs = M) := fun M h => parse_body h
 generalize hpz : parse zs = L at *;have HPZ := hJ hpz;clear hpz;generalize (enc L).2 = e at *;generalize (enc L).1 = ys at *
 by_cases he : e = 0
 ·subst he
  by_cases hy : ys = zs
  ·have HGD := hJ (HEQ.out.1 ⟨hy, rfl⟩)
   clear HEQ
   go_wp2_with fail
   refine (equal_yes _ _ _ _ _ _ _ _ _ B4.out Z4.out hy).mono ?_;rintro en w5 ⟨rfl, rfl⟩;clear hy;go_wp2
   go_ret2
   exact ⟨⟨a, n, cap, 0, L, rfl, .inl ⟨rfl, HGD.out, hl⟩, L4.out, hn, hnc, hcm, fun _ => HPZ.out.symm, W4.out⟩, G4.out⟩
  ·have HND : Hid (∀ M, ¬ (Good zs M ∧ zs.length = 4092)) := by
    rintro M ⟨h1, _⟩;obtain rfl := HPB.out M h1;exact hy (HEQ.out.2 h1).1
   clear HEQ
   go_wp2_with fail
   refine (equal_no _ _ _ _ _ _ _ _ _ B4.out Z4.out HEB.out hbt hy).mono ?_;rintro en w5 ⟨rfl, rfl⟩;clear hy;go_wp2
   go_ret2
   exact ⟨⟨none, 0, 0, 40, [], rfl, .inr ⟨rfl, rfl, HND.out⟩, Il.zero _ _, rfl, Nat.le_refl _, by omega, (fun h => by cases h), Nw.zero _ _ _ _⟩, G4.out⟩
 ·have HND : Hid (∀ M, ¬ (Good zs M ∧ zs.length = 4092)) := by
   rintro M ⟨h1, _⟩;obtain rfl := HPB.out M h1;exact he (HEQ.out.2 h1).2
  clear HEQ;go_wp2
  go_ret2
  exact ⟨⟨none, 0, 0, 40, [], rfl, .inr ⟨rfl, rfl, HND.out⟩, Il.zero _ _, rfl, Nat.le_refl _, by omega, (fun h => by cases h), Nw.zero _ _ _ _⟩, G4.out⟩
theorem decode_new (ao : Option Addr) (n c : Nat) (zs : List Int) (w : World) (hb : Byt w ao n c zs) (hbt : Bt zs) :
  Calls Tryz.prog 105 #[.slice ao n c] w fun en w' => (∃ a n cap e L, en = .returned (.tuple #[.slice a n cap, .int .i64 e]) ∧ Dec zs L e ∧ Il w' a L ∧ Ib L ∧ L.length = n ∧ n ≤ cap ∧ cap ≤ 9223372036854775807 ∧ Nw w w' 62 a n) ∧ w.grownBy w' none := by
 have hl := hb.len
 by_cases h : n = 4092
 ·subst h
  refine (decode_body ao c zs w hb hbt).mono ?_;rintro en w' ⟨⟨a, n, cap, e, L, rfl, h1, h2, h3, h4, h5, h6, h7⟩, hg⟩;refine ⟨⟨a, n, cap, e, L, rfl, h1, h2, ?_, h3, h4, h5, h7⟩, hg⟩;rcases h1 with ⟨he, _⟩ | ⟨_, rfl, _⟩
  ·rw [h6 he]; exact fun x hx => (parse_ir hbt (by omega) x hx).b
  ·exact fun x hx => by cases hx
 ·refine (decode_len ao n c w h).mono ?_
  rintro en w' ⟨rfl, rfl⟩;exact ⟨⟨none, 0, 0, 40, [], rfl, .inr ⟨rfl, rfl, fun M hM => h (by rw [← hl]; exact hM.2)⟩, Il.zero _ _, (fun x hx => by cases hx), rfl, Nat.le_refl _, by omega, Nw.zero _ _ _ _⟩, World.grownBy.refl _ _⟩
theorem rd_N1 (R G : Nat) (zs : List Int) (s : Nat × Int) (w : World) (h : Rd w R G zs s.1 s.2) (hbt : Bt zs) :
  Calls Tryz.prog 146 #[.pointer (some ⟨R, 0, none⟩)] w fun en w' => en = .returned (.int .u8 ((sN zs s 1).1 : Nat)) ∧ Rd w' R G zs (sN zs s 1).2.1 (sN zs s 1).2.2 ∧ w.grownBy w' (some R) := by
 obtain ⟨p, e⟩ := s
 by_cases he : e = 0
 ·subst he
  by_cases h0 : zs.length < p + 1
  ·have e1 : sN zs (p, 0) 1 = (0, (p, 10)) := by unfold sN; rw [if_pos rfl, if_pos h0]
   rw [e1];exact get_u8_short R G zs p w h h0
  ·have e1 : sN zs (p, 0) 1 = (le 1 (zs.drop p), (p + 1, 0)) := by unfold sN; rw [if_pos rfl, if_neg h0]
   rw [e1];exact get_u8_ok R G zs p w h hbt (by omega)
 ·have e1 : sN zs (p, e) 1 = (0, (p, e)) := by unfold sN; rw [if_neg he]
  rw [e1];exact get_u8_broken R G zs p e w h (by simpa using he)
def Rt (w : World) (g : Nat) (t : TypeId) (zs : List Int) : Prop := w.heap[g]? = some (.cells (zs.map (Value.int .u8)).toArray t (0, 0))
theorem Rt.lt {w : World} {g : Nat} {t : TypeId} {zs : List Int} (h : Rt w g t zs) : g < w.heap.size := (Array.getElem?_eq_some_iff.1 h).1
theorem Rt.cell {w : World} {g : Nat} {t : TypeId} {zs : List Int} (h : Rt w g t zs) (i : Nat) (hi : i < zs.length) : w.cell? ⟨g, i, none⟩ = some (.int .u8 (zs.getD i 0)) := by
 rw [cell_of_row w g i _ _ (0, 0) h];simp [List.getD, List.getElem?_eq_getElem hi]
theorem Rt.byt {w : World} {g : Nat} {t : TypeId} {zs : List Int} (h : Rt w g t zs) (off n cap : Nat) (hn : off + n ≤ zs.length) : Byt w (some ⟨g, off, none⟩) n cap ((zs.drop off).take n) := by
 refine Byt.of_cells (by rw [List.length_take, List.length_drop]; omega) fun i hi => ?_
 rw [h.cell (off + i) (by omega)];simp [List.getD, hi]
theorem Rt.all {w : World} {g : Nat} {t : TypeId} {zs : List Int} (h : Rt w g t zs) (n cap : Nat) (hn : n = zs.length) : Byt w (some ⟨g, 0, none⟩) n cap zs := by
 have := h.byt 0 n cap (by omega)
 rwa [List.drop_zero, List.take_of_length_le (by omega)] at this
theorem Rt.kept {w w' : World} {row : Option Nat} {g : Nat} {t : TypeId} {zs : List Int} (h : Rt w g t zs) (hg : w.grownBy w' row) (hne : some g ≠ row) : Rt w' g t zs := (hg.block g h.lt hne).trans h
theorem Rt.keptN {w w' : World} {g : Nat} {t : TypeId} {zs : List Int} (h : Rt w g t zs) (hg : w.grownBy w' none) : Rt w' g t zs := h.kept hg (by simp)
structure Rp (w w' : World) (g : Nat) (t : TypeId) (xs : List Value) : Prop where
 row : w'.heap[g]? = some (.cells xs.toArray t (0, 0))
 oth : ∀ k, k ≠ g → w'.heap[k]? = w.heap[k]?
 size : w'.heap.size = w.heap.size
 os : w'.os = w.os
 tape : w'.tape = w.tape
 output : w'.output = w.output
theorem Rp.grown {w w' : World} {g : Nat} {t : TypeId} {xs : List Value} (h : Rp w w' g t xs) : w.grownBy w' (some g) :=
 ⟨h.os, h.tape, h.output, by rw [h.size]; exact Nat.le_refl _, fun k _ hne => h.oth k (fun e => hne (by rw [e]))⟩
theorem oper_copy_val {o : Oper} {a : Act} {w : World} {K : Act → World → Prop} {Q : Exit → Act → World → Prop} (d s : Operand)
  (ho : o.op = .call { callee := .builtin .copy, args := #[d, s], argTypes := #[25, 25] })
  (dp sp : Option Addr) (dLen dCap sLen sCap : Nat) (hd : a.eval d = .slice dp dLen dCap) (hs : a.eval s = .slice sp sLen sCap)
  (g off : Nat) (t : TypeId) (cur : List Value) (hg : w.heap[g]? = some (.cells cur.toArray t (0, 0))) (cs : List Value) (hn : cs.length = Nat.min sLen dLen)
  (hpos : 0 < cs.length → dp = some ⟨g, off, none⟩ ∧ ∃ ad, sp = some ad ∧ ∀ j v, cs[j]? = some v → w.cell? (ad.add j) = some v)
  (hfit : off + cs.length ≤ cur.length) (h1 : ∀ v ∈ cs, v.oneCell' = true) (k : Nat) (hk : cs.length = k)
  (h : ∀ w', Rp w w' g t (splice cur off cs) → K (a.put o.dst (.int .i64 (k : Int))) w') : Oper.wp Tryz.prog o a w K Q := by
 obtain ⟨i0, hi, hz0, hz1, hz2⟩ := info_parts info_u8;have hsz : (Tryz.prog.info? 5).map (·.size) = some 1 := by rw [hi]; exact congrArg some hz1
 subst hk
 by_cases h0 : cs.length = 0
 ·obtain rfl : cs = [] := List.eq_nil_of_length_eq_zero h0
  have hrun := run_copy_none (P := Tryz.prog) w 25 25 o.type 5 dp sp dLen dCap sLen sCap Tryz.underlying25 hsz (by simpa using hn.symm);unfold Oper.wp;simp [execOp, ho, resolve, invoke, builtin, hd, hs, hrun, Result.andThen];exact h w ⟨by simpa [splice] using hg, fun _ _ => rfl, rfl, rfl, rfl, rfl⟩
 ·obtain ⟨rfl, ad, rfl, hsrc⟩ := hpos (by omega)
  have hrun := run_copy_row (P := Tryz.prog) w 25 25 o.type 5 g off dLen dCap ad sLen sCap cur.toArray t cs Tryz.underlying25 hsz hg hn hsrc (by simpa using hfit) h1;unfold Oper.wp;simp [execOp, ho, resolve, invoke, builtin, hd, hs, hrun, Result.andThen];exact h _ ⟨by simpa [splice] using setRow_heap w g _ _ _ _ hg, fun k hk => setRow_other w g k _ hk, by simp [World.setRow], rfl, rfl, rfl⟩
theorem oper_copy_rp {o : Oper} {a : Act} {w : World} {K : Act → World → Prop} {Q : Exit → Act → World → Prop} (d s : Operand)
  (ho : o.op = .call { callee := .builtin .copy, args := #[d, s], argTypes := #[25, 25] })
  (dp sp : Option Addr) (dLen dCap sLen sCap : Nat) (hd : a.eval d = .slice dp dLen dCap) (hs : a.eval s = .slice sp sLen sCap)
  (g off : Nat) (t : TypeId) (cs ts : List Int) (hg : Rt w g t cs) (hb : Byt w sp sLen sCap ts) (hn : sLen ≤ dLen) (hdp : 0 < sLen → dp = some ⟨g, off, none⟩) (hfit : off + sLen ≤ cs.length)
  (h : ∀ w', Rt w' g t (splice cs off ts) → w.grownBy w' (some g) → w'.heap.size = w.heap.size → K (a.put o.dst (.int .i64 (sLen : Int))) w') : Oper.wp Tryz.prog o a w K Q := by
 have hl := hb.len;refine oper_copy_val d s ho dp sp dLen dCap sLen sCap hd hs g off t (cs.map (Value.int .u8)) hg (ts.map (Value.int .u8)) (by rw [List.length_map, hl]; exact (Nat.min_eq_left hn).symm) (fun h0 => ?_) (by rw [List.length_map, List.length_map]; omega) (ints_oneCell _ _) sLen (by rw [List.length_map, hl]) fun w' hro => h w' ?_ hro.grown hro.size
 ·refine ⟨hdp (by simpa [hl] using h0), ?_⟩
  cases sp with
  | none => have := (hb.nil rfl).1; simp [hl] at h0; omega
  | some ad => exact ⟨ad, rfl, hb.cells ad rfl⟩
 ·show _ = _
  rw [← splice_map];exact hro.row
theorem step_copy_rt {ops : Array Oper} {o : Oper} {a : Act} {w : World} {K : Act → World → Prop} {Q : Exit → Act → World → Prop} {E : Prop} (hgd : o.guard = none) (d s : Operand)
  (ho : o.op = .call { callee := .builtin .copy, args := #[d, s], argTypes := #[25, 25] })
  (dp sp : Option Addr) (dLen dCap sLen sCap : Nat) (hd : a.eval d = .slice dp dLen dCap) (hs : a.eval s = .slice sp sLen sCap)
  (g off : Nat) (t : TypeId) (cs ts : List Int) (hg : Rt w g t cs) (hb : Byt w sp sLen sCap ts) (hn : sLen ≤ dLen) (hdp : 0 < sLen → dp = some ⟨g, off, none⟩) (hfit : off + sLen ≤ cs.length)
  (h : ∀ w', Rt w' g t (splice cs off ts) → w.grownBy w' (some g) → w'.heap.size = w.heap.size → K (a.put o.dst (.int .i64 (sLen : Int))) w') :
  if Region.wanted o (yielded ops a.tmps) = true then Oper.wp Tryz.prog o a w K Q else E := by
 have hw : Region.wanted o (yielded ops a.tmps) = true := by simp [Region.wanted, hgd]
 rw [if_pos hw];exact oper_copy_rp d s ho dp sp dLen dCap sLen sCap hd hs g off t cs ts hg hb hn hdp hfit h
theorem wpList_copy_rt {w : World} {ops : Array Oper} {rest : List Oper} {o : Oper} {a : Act} {Q : Exit → Act → World → Prop} (hgd : o.guard = none) (d s : Operand)
  (ho : o.op = .call { callee := .builtin .copy, args := #[d, s], argTypes := #[25, 25] })
  (dp sp : Option Addr) (dLen dCap sLen sCap : Nat) (hd : a.eval d = .slice dp dLen dCap) (hs : a.eval s = .slice sp sLen sCap)
  (g off : Nat) (t : TypeId) (cs ts : List Int) (hg : Rt w g t cs) (hb : Byt w sp sLen sCap ts) (hn : sLen ≤ dLen) (hdp : 0 < sLen → dp = some ⟨g, off, none⟩) (hfit : off + sLen ≤ cs.length)
  (h : ∀ w', Rt w' g t (splice cs off ts) → w.grownBy w' (some g) → w'.heap.size = w.heap.size → wpList Tryz.prog ops Q rest (a.put o.dst (.int .i64 (sLen : Int))) w') : wpList Tryz.prog ops Q (o :: rest) a w := by
 refine wpList_plain hgd fun K hK => ?_
 exact oper_copy_rp d s ho dp sp dLen dCap sLen sCap hd hs g off t cs ts hg hb hn hdp hfit fun w' h1 h2 h3 => hK _ _ (h w' h1 h2 h3)
def Fl (w : World) (R G p : Nat) : Prop := w.heap[R]? = some (.cells #[.pointer (some ⟨G, 0, none⟩), .int .i64 p] 202 (0, 0))
theorem Fl.cells {w : World} {R G p : Nat} (h : Fl w R G p) : w.cell? ⟨R, 0, none⟩ = some (.pointer (some ⟨G, 0, none⟩)) ∧ w.cell? ⟨R, 1, none⟩ = some (.int .i64 p) ∧ w.frozen? ⟨R, 1, none⟩ = false := by
 refine ⟨?_, ?_, frozen_of_row w R 1 _ _ h⟩
 ·rw [cell_of_row w R 0 _ _ _ h]; rfl
 ·rw [cell_of_row w R 1 _ _ _ h]; rfl
theorem Fl.lt {w : World} {R G p : Nat} (h : Fl w R G p) : R < w.heap.size := (Array.getElem?_eq_some_iff.1 h).1
theorem Fl.set {w : World} {R G p : Nat} (h : Fl w R G p) (q : Nat) (v : Int) (hv : v = (q : Int)) : Fl (w.setCell ⟨R, 1, none⟩ (.int .i64 v)) R G q := by
 have := heap_setCell_same w R 1 _ _ (.int .i64 v) h;subst hv;exact this
theorem Fl.kept {w w' : World} {R G p : Nat} {row : Option Nat} (h : Fl w R G p) (hg : w.grownBy w' row) (hne : some R ≠ row) : Fl w' R G p := (hg.block R h.lt hne).trans h
theorem Fl.two {w w' : World} {R G p R' : Nat} (h : Fl w R' G p) (hg : Two w w' R G) (h1 : R' ≠ R) (h2 : R' ≠ G) : Fl w' R' G p := (hg.block R' h.lt h1 h2).trans h
theorem Fl.qt {w w' : World} {R G p : Nat} (h : Fl w R G p) (q : Qt w w') : Fl w' R G p := by
 show _ = _
 rw [q.heap]; exact h
theorem next_any (R G p n : Nat) (w : World) (hw : Fl w R G p) (hp : p + n ≤ 4092) :
  Calls Tryz.prog 174 #[.pointer (some ⟨R, 0, none⟩), .int .i64 n] w fun en w' => (∃ ao, en = .returned (.slice ao n n) ∧ (0 < n → ao = some ⟨G, p, none⟩) ∧ ao ≠ none) ∧ Fl w' R G (p + n) ∧ w.grownBy w' (some R) ∧ w'.heap.size = w.heap.size := by
 obtain ⟨c0, c1, f1⟩ := hw.cells;have hwr : Hid (IntKind.i64.wrap ((p : Int) + (n : Int)) = ((p + n : Nat) : Int)) := by show _ = _; simp [IntKind.wrap, IntKind.bits, IntKind.signed]; omega
 have HF : Hid (∀ v : Int, v = ((p + n : Nat) : Int) → Fl (w.setCell ⟨R, 1, none⟩ (.int .i64 v)) R G (p + n) ∧ w.grownBy (w.setCell ⟨R, 1, none⟩ (.int .i64 v)) (some R) ∧ (w.setCell ⟨R, 1, none⟩ (.int .i64 v)).heap.size = w.heap.size) :=
  fun v hv => ⟨hw.set _ v hv, grown_cell _ _ _ _, by simp⟩
 have g1 : (p : Int) + (n : Int) ≤ 4092 := by omega
 have g2 : (0 : Int) ≤ (p : Int) := by omega
 have g3 : (0 : Int) ≤ (n : Int) := by omega
 have g4 : (0 : Int) ≤ (p : Int) + (n : Int) := by omega
 have g5 : (p : Int) ≤ (p : Int) + (n : Int) := by omega
 have g6 : (p : Int) ≤ 4092 := by omega
 clear hw
 by_cases h0 : n = 0
 ·subst h0
  go_enter Tryz.func174, Tryz.ntmps174;go_wp2
  go_quiet (fail)
  go_wp2;go_ret;obtain ⟨x1, x2, x3⟩ := HF.out _ (by first | rfl | omega);exact ⟨⟨_, rfl, fun h => by omega, by simp⟩, x1.qt (Qt.drewN _ _), gQ x2 ((Qt.drewN _ _).grown _), x3⟩
 ·have h1 : (0 : Int) < (n : Int) := by omega
  go_enter Tryz.func174, Tryz.ntmps174;go_wp2
  go_quiet (fail)
  go_wp2;go_ret;obtain ⟨x1, x2, x3⟩ := HF.out _ (by first | rfl | omega);exact ⟨⟨some ⟨G, p, none⟩, by show Ending.returned (Value.slice _ (p + n - p) (p + n - p)) = _; rw [Nat.add_sub_cancel_left], fun h => rfl, by simp⟩, x1.qt (Qt.drewN _ _), gQ x2 ((Qt.drewN _ _).grown _), x3⟩
theorem Two.of_one {w w' : World} {R G : Nat} (h : w.grownBy w' (some G)) : Two w w' R G := ⟨h.os, h.tape, h.output, h.size, fun k hk _ h2 => h.block k hk (fun e => h2 (Option.some.inj e))⟩
theorem Two.of_other {w w' : World} {R G : Nat} (h : w.grownBy w' (some R)) : Two w w' R G := ⟨h.os, h.tape, h.output, h.size, fun k hk h1 _ => h.block k hk (fun e => h1 (Option.some.inj e))⟩
theorem blay_any (R G p : Nat) (cs : List Int) (ao : Option Addr) (n c : Nat) (zs : List Int) (w : World) (hw : Fl w R G p) (hr : Rt w G 165 cs) (hcs : cs.length = 4092) (hb : Byt w ao n c zs) (hRG : R ≠ G) (hbR : ∀ ad, ao = some ad → 0 < n → ad.block ≠ R) (hp : p + n ≤ 4092) :
  Calls Tryz.prog 172 #[.pointer (some ⟨R, 0, none⟩), .slice ao n c] w fun en w' => en = .returned (.tuple #[]) ∧ Fl w' R G (p + n) ∧ Rt w' G 165 (splice cs p zs) ∧ Two w w' R G ∧ w'.heap.size = w.heap.size := by
 have HR := hJ hr;have HB := hJ hb;have HW := hJ hw;clear hr hb hw;go_enter Tryz.func172, Tryz.ntmps172
 go_wp2_with fail
 refine (next_any R G p n _ HW.out hp).mono ?_;rintro en w1 ⟨⟨bo, rfl, hbo, hbn⟩, hf1, hg1, hs1⟩;have R1 := hJ (HR.out.kept hg1 (fun e => hRG (Option.some.inj e).symm));have B1 := hJ (HB.out.kept hg1 (fun ad e h e2 => hbR ad e h (Option.some.inj e2)));have F1 := hJ hf1;have G1 := hJ hg1;have S1 := hJ hs1;clear hf1 hg1 hs1 HR HB HW
 go_wp2_with (refine wpList_copy_rt rfl _ _ rfl _ _ _ _ _ _ rfl rfl G p 165 cs zs R1.out B1.out (Nat.le_refl _) hbo (by omega) ?_)
 intro w2 hr2 hg2 hs2;go_wp2;refine Go.Great.bodyPost_end0 rfl rfl ?_;exact ⟨rfl, F1.out.kept hg2 (fun e => hRG (Option.some.inj e)), hr2, (Two.of_other G1.out).trans (Two.of_one hg2), hs2.trans S1.out⟩
theorem layKid_any (G q : Nat) (cs : List Int) (k : Kd) (no ks : Int) (w : World) (hr : Rt w G 165 cs) (hk : wk k = false) (h1 : k.no = no) (h2 : k.keys = ks) (hq : q + 8 ≤ cs.length) :
  Calls Tryz.prog 173 #[.slice (some ⟨G, q, none⟩) 8 8, .agg #[.int .i64 no, .int .i64 ks]] w fun en w' => en = .returned (.tuple #[]) ∧ Rt w' G 165 (splice cs q (kb k)) ∧ w.grownBy w' (some G) := by
 have hp := wk_parts hk;obtain ⟨a, ha⟩ : ∃ a : Nat, no = (a : Int) := ⟨no.toNat, by omega⟩;obtain ⟨b, hb⟩ : ∃ b : Nat, ks = (b : Int) := ⟨ks.toNat, by omega⟩;subst ha hb;have ha2 : a < 4294967296 := by omega
 have hb2 : b < 4294967296 := by omega
 have hwa : IntKind.u32.wrap (a : Int) = (a : Int) := by simp [IntKind.wrap, IntKind.bits, IntKind.signed]; omega
 have hwb : IntKind.u32.wrap (b : Int) = (b : Int) := by simp [IntKind.wrap, IntKind.bits, IntKind.signed]; omega
 have HKB : Hid (kb k = lb 4 a ++ lb 4 b) := by show _ = _; unfold kb; rw [h1, h2]; rfl
 have HSP : Hid (splice (splice cs q (lb 4 a)) (q + 4) (lb 4 b) = splice cs q (lb 4 a ++ lb 4 b)) := by
  have := splice_two (cs := cs) (xs := lb 4 a) (ys := lb 4 b) (p := q) (by rw [lb_len, lb_len]; omega);rw [lb_len] at this;exact this
 have HL1 : Hid ((splice cs q (lb 4 a)).length = cs.length) := splice_len (by rw [lb_len]; omega);have ga := World.grownBy_alloc w (.cells #[.int .i64 (a : Int), .int .i64 (b : Int)] 67) none;have k1 : Hid ((w.alloc (.cells #[.int .i64 (a : Int), .int .i64 (b : Int)] 67)).cell? ⟨w.heap.size, 1, none⟩ = some (.int .i64 (b : Int))) := by show _ = _; rw [cell_of_row _ w.heap.size 1 _ _ (0, 0) (heap_alloc_new w _)]; rfl
 have HG := hJ ga;have HR := hJ (hr.keptN ga);have hGl := hr.lt;have hBl : w.heap.size < (w.alloc (.cells #[.int .i64 (a : Int), .int .i64 (b : Int)] 67)).heap.size := by simp
 have HNE : Hid (w.heap.size ≠ G) := fun e => by omega
 clear hr hk h1 h2 hp ga hGl;go_enter Tryz.func173, Tryz.ntmps173
 go_wp2_with fail
 go_region_law
  (first
   | (have z2 := R2; refine step_copy_rt rfl (.tmp 5) (.tmp 9) (by rfl) _ _ _ _ _ _ (by rfl) (by rfl) G q 165 cs (lb 4 a) (by exact R2) (by exact hb3) (by omega) (fun _ => rfl) (by omega) ?_; intro w3 hr3 hg3 hs3; have d1 := hg3.cell e1 (fun e => HNE.out (Option.some.inj e)))
   | (go_simp; go_at_call 140; refine (put_u32_nil a _ ha2).mono ?_; rintro en w2 ⟨rfl, hb2', hg2, hs2⟩; have hb3 : Byt w2 (some ⟨w.heap.size + 1, 0, none⟩) 4 4 (lb 4 a) := (by simpa using hb2'); have R2 := HR.out.keptN (gQ ((Qt.refl _).drew.grown none) hg2); have e1 := (gQ ((Qt.refl _).drew.grown none) hg2).cell k1.out (by simp)))
 all_goals
  have T3 := hJ (gQ (grown_any (gQ HG.out (gQ ((Qt.refl _).drew.grown none) hg2))) hg3);have R3 := hJ hr3;have D1 := hJ d1;clear hb2' hb3 hg2 hs2 hg3 hs3 hr3 R2 e1 d1 HR HG k1;have d1 := D1.out
  go_wp2_with fail
  go_region_law
   (first
    | (have z4 := R4; refine step_copy_rt rfl (.tmp 12) (.tmp 16) (by rfl) _ _ _ _ _ _ (by rfl) (by rfl) G (q + 4) 165 (splice cs q (lb 4 a)) (lb 4 b) (by exact R4) (by exact hb4) (by omega) (fun _ => rfl) (by rw [HL1.out]; omega) ?_; intro w5 hr5 hg5 hs5)
    | (go_simp; go_at_call 140; refine (put_u32_nil b _ hb2).mono ?_; rintro en w4 ⟨rfl, hb4, hg4, hs4⟩; have R4 := R3.out.keptN (gQ ((Qt.refl _).drew.grown none) hg4)))
  all_goals
   go_wp2;refine Go.Great.bodyPost_end0 rfl rfl ?_;refine ⟨rfl, ?_, gQ T3.out (gQ (grown_any (gQ ((Qt.refl _).drew.grown none) hg4)) hg5)⟩;rw [HKB.out, ← HSP.out];exact hr5
theorem splice_three {cs A B C : List Int} {q a b : Nat} (ha : A.length = a) (hb : B.length = b) (h : q + a + b + C.length ≤ cs.length) :
  splice (splice (splice cs q A) (q + a) B) (q + a + b) C = splice cs q (A ++ (B ++ C)) := by
 subst ha hb;have e1 := splice_two (cs := cs) (xs := A) (ys := B) (p := q) (by omega);have e2 := splice_two (cs := cs) (xs := A ++ B) (ys := C) (p := q) (by simp only [List.length_append]; omega);simp only [List.length_append, ← Nat.add_assoc] at e2;rw [e1, e2, List.append_assoc]
theorem layCell5_any (G q : Nat) (cs : List Int) (so : Option Addr) (r c : Nat) (p : Nat) (x : Sk) (no ks : Int) (m : Nat) (w : World) (hr : Rt w G 165 cs) (hs : Byt w so r c (x.sep.drop p)) (hsb : ∀ ad, so = some ad → 0 < r → ad.block ≠ G) (hk : wk x.kid = false) (h1 : x.kid.no = no) (h2 : x.kid.keys = ks) (hm : (bcb p x).length = m) (hq : q + m ≤ cs.length) (hr5 : r ≤ 1000) :
  Calls Tryz.prog 175 #[.slice (some ⟨G, q, none⟩) m m, .slice so r c, .agg #[.int .i64 no, .int .i64 ks]] w fun en w' => en = .returned (.tuple #[]) ∧ Rt w' G 165 (splice cs q (bcb p x)) ∧ w.grownBy w' (some G) := by
 have hl := hs.len;have hl2 : x.sep.length - p = r := by rw [← hl, List.length_drop]
 have HCB : Hid (bcb p x = vform r ++ (x.sep.drop p ++ kb x.kid)) := by show _ = _; unfold bcb; rw [hl2]
 have P1 := hJ (fun W : World => putV_nil r W (by omega));obtain ⟨l1, hl1⟩ : ∃ l1, (vform r).length = l1 := ⟨_, rfl⟩;have hl9 : l1 ≤ 10 := by rw [← hl1]; exact vl_le r
 have hm2 : m = l1 + r + 8 := by rw [← hm, HCB.out, List.length_append, List.length_append, kb_len, hl, hl1]; omega
 rw [hl1] at P1;have HL1 := hJ hl1;have HLB := hJ hl;clear hl1 hl2 hl hm;generalize hB : x.sep.drop p = B at *;have HBB := hJ hB;generalize vform r = A at *;clear hB;have HSP : Hid (splice (splice (splice cs q A) (q + l1) B) (q + l1 + r) (kb x.kid) = splice cs q (A ++ (B ++ kb x.kid))) := splice_three HL1.out HLB.out (by rw [kb_len]; omega);have HS1 : Hid ((splice cs q A).length = cs.length) := splice_len (by rw [HL1.out]; omega);have HS2 : Hid ((splice (splice cs q A) (q + l1) B).length = cs.length) := by show _ = _; rw [splice_len (by rw [HS1.out, HLB.out]; omega)]; exact HS1.out
 have ga := World.grownBy_alloc w (.cells #[.int .i64 no, .int .i64 ks] 67) none;have k0 : Hid ((w.alloc (.cells #[.int .i64 no, .int .i64 ks] 67)).cell? ⟨w.heap.size, 0, none⟩ = some (.int .i64 no)) := by show _ = _; rw [cell_of_row _ w.heap.size 0 _ _ (0, 0) (heap_alloc_new w _)]; rfl
 have k1 : Hid ((w.alloc (.cells #[.int .i64 no, .int .i64 ks] 67)).cell? ⟨w.heap.size, 1, none⟩ = some (.int .i64 ks)) := by show _ = _; rw [cell_of_row _ w.heap.size 1 _ _ (0, 0) (heap_alloc_new w _)]; rfl
 have HG := hJ ga;have HR := hJ (hr.keptN ga);have HS := hJ (hs.keptN ga);have hGl := hr.lt;have HNE : Hid (w.heap.size ≠ G) := fun e => by omega
 have g1 : (l1 : Int) ≤ (m : Int) := by omega
 have g2 : (0 : Int) ≤ (l1 : Int) := by omega
 have g3 : ¬ m = l1 := by omega
 have g4 : (l1 : Int) + (r : Int) + 8 ≤ (m : Int) := by omega
 have g5 : (0 : Int) ≤ (l1 : Int) + (r : Int) := by omega
 clear hr hs ga hGl;go_enter Tryz.func175, Tryz.ntmps175
 go_wp2_with fail
 have K0 := k0.out;have K1 := k1.out;clear k0 k1;generalize w.alloc (.cells #[.int .i64 no, .int .i64 ks] 67) = w1 at *;generalize w.heap.size = Q at *;refine (P1.out _).mono ?_;rintro en w2 ⟨rfl, hb2, hg2, hs2⟩;have R2 := hJ (HR.out.keptN hg2);have B2 := hJ hb2;have S2 := hJ (HS.out.keptN hg2);have G2 := hJ (gQ HG.out hg2);have u0 := hg2.cell K0 (by simp);have u1 := hg2.cell K1 (by simp);clear hb2 hg2 hs2 HR HS HG K0 K1
 go_wp2_with (refine wpList_copy_rt rfl _ _ rfl _ _ _ _ _ _ rfl rfl G q 165 cs A R2.out B2.out (by omega) (fun _ => rfl) (by omega) ?_)
 intro w3 hr3 hg3 hs3;have R3 := hJ hr3;have S3 := hJ (S2.out.kept hg3 (fun ad e h e2 => hsb ad e h (Option.some.inj e2)));have G3 := hJ (gQ (grown_any G2.out) hg3);have v0 := hg3.cell u0 (fun e => HNE.out (Option.some.inj e));have v1 := hg3.cell u1 (fun e => HNE.out (Option.some.inj e));clear hr3 hg3 hs3 R2 B2 S2 G2 u0 u1
 go_wp2_with (refine wpList_copy_rt rfl _ _ rfl _ _ _ _ _ _ rfl rfl G (q + l1) 165 (splice cs q A) B R3.out S3.out (by omega) (fun _ => rfl) (by rw [HS1.out]; omega) ?_)
 intro w4 hr4 hg4 hs4;have R4 := hJ hr4;have G4 := hJ (gQ G3.out hg4);have u0 := hg4.cell v0 (fun e => HNE.out (Option.some.inj e));have u1 := hg4.cell v1 (fun e => HNE.out (Option.some.inj e));clear hr4 hg4 hs4 R3 S3 G3 v0 v1
 go_wp2_with fail
 obtain ⟨d, hd⟩ : ∃ d, l1 + r = d := ⟨_, rfl⟩;have hdd : (l1 : Int) + (r : Int) = (d : Int) := by omega
 rw [hdd];have HD := hJ hd;obtain ⟨D, hD⟩ : ∃ D, d + 8 = D := ⟨_, rfl⟩;have e7 : IntKind.i64.wrap ((d : Int) + 8) = (D : Int) := by simp [IntKind.wrap, IntKind.bits, IntKind.signed]; omega
 have e8 : D - d = 8 := by omega
 have e9 : (D : Int) ≤ (l1 : Int) + (r : Int) + 8 := by omega
 have e10 : max (D : Int) 0 = (D : Int) := by omega
 have e11 : d ≤ D := by omega
 have e12 : ¬ D = d := by omega
 have e13 : (0 : Int) ≤ (D : Int) := by omega
 have hqd : q + d + 8 ≤ cs.length := by omega
 clear hdd hd hm2 g1 g2 g3 g4 g5 hq hD
 go_region_law ((go_simp; go_at_call 173; refine (layKid_any G (q + d) (splice (splice cs q A) (q + l1) B) x.kid no ks _ (by exact R4.out.keptN ((Qt.refl _).drew.grown none)) hk h1 h2 (by rw [HS2.out]; omega)).mono ?_; rintro en w5 ⟨rfl, hr5', hg5⟩))
 all_goals
  have HR5 := hJ hr5';have HG5 := hJ (gQ (gQ G4.out ((Qt.refl _).drew.grown _)) hg5);clear hr5' hg5;go_wp2;refine Go.Great.bodyPost_end0 rfl rfl ?_;refine ⟨rfl, ?_, HG5.out⟩;rw [HCB.out, ← HSP.out, Nat.add_assoc q l1 r, HD.out];exact HR5.out
end Go.Proofs.YtkiopabcnemgnaaGreatDoor
namespace Go.Proofs.YtkiopabcnemgnaaGreatDoor
theorem bcells_snoc (p : Nat) : ∀ (L : List Sk) (i : Nat), i < L.length → bcells p (L.take (i + 1)) = bcells p (L.take i) ++ bcb p (L.getD i sk0)
 | x :: L, 0, _ => by simp [bcells]
 | x :: L, i + 1, h => by
  have := bcells_snoc p L i (by simpa using h);simp only [List.take_succ_cons, bcells, List.getD_cons_succ];rw [this, List.append_assoc]
theorem bslots_snoc (p : Nat) : ∀ (L : List Sk) (a i : Nat), i < L.length → bslots p a (L.take (i + 1)) = bslots p a (L.take i) ++ lb 2 (a + (bcells p (L.take i)).length)
 | x :: L, a, 0, _ => by simp [bslots, bcells]
 | x :: L, a, i + 1, h => by
  have := bslots_snoc p L (a + (bcb p x).length) i (by simpa using h);simp only [List.take_succ_cons, bslots, bcells];rw [this, List.append_assoc, List.length_append, Nat.add_assoc]
def bcst (lv : Int) (L : List Sk) : Nat := bkst lv L + 8
def blaid (lv : Int) (k : Kd) (L : List Sk) (i : Nat) : List Int :=
 bhead lv L ++ (bslots (bpre (seps L)) (bcst lv L) (L.take i) ++ (List.replicate (2 * (L.length - i)) 0 ++ (kb k ++ (bcells (bpre (seps L)) (L.take i) ++ List.replicate (4092 - (bcst lv L + (bcells (bpre (seps L)) (L.take i)).length)) 0))))
theorem bcells_mono (p : Nat) : ∀ (L : List Sk) (i : Nat), (bcells p (L.take i)).length ≤ (bcells p L).length
 | [], i => by simp [bcells]
 | x :: L, 0 => by simp [bcells]
 | x :: L, i + 1 => by
  have := bcells_mono p L i;simp only [List.take_succ_cons, bcells, List.length_append];omega
theorem blaid_zero (lv : Int) (k : Kd) (L : List Sk) (h : bcst lv L ≤ 4092) : splice (splice (List.replicate 4092 0) 0 (bhead lv L)) (bkst lv L) (kb k) = blaid lv k L 0 := by
 have h' : (bhead lv L).length + 2 * L.length + 8 ≤ 4092 := h
 have e1 : splice (List.replicate 4092 0) 0 (bhead lv L) = (bhead lv L ++ List.replicate (2 * L.length) 0) ++ (List.replicate 8 0 ++ List.replicate (4092 - bcst lv L) 0) := by
  unfold splice;rw [List.take_zero, List.nil_append, Nat.zero_add, List.drop_replicate, List.replicate_append_replicate, List.append_assoc, List.replicate_append_replicate]
  congr 2
  have : bcst lv L = (bhead lv L).length + 2 * L.length + 8 := rfl;omega
 rw [e1, splice_mid (by rw [List.length_append, List.length_replicate]; rfl) (by rw [kb_len, List.length_replicate])];unfold blaid;simp only [List.take_zero, bslots, bcells, List.nil_append, List.length_nil, Nat.add_zero, Nat.sub_zero, List.append_assoc]
theorem blaid_all (lv : Int) (k : Kd) (L : List Sk) : blaid lv k L L.length = bbody lv k L := by
 unfold blaid bbody;rw [List.take_length, Nat.sub_self, Nat.mul_zero, List.replicate_zero, List.nil_append]
 have e : 4092 - (bcst lv L + (bcells (bpre (seps L)) L).length) = 4092 - (bused lv k L).length := by
  unfold bused;rw [List.length_append, List.length_append, List.length_append, bslots_len, kb_len]; unfold bcst bkst; omega
 rw [e];generalize 4092 - (bused lv k L).length = z;unfold bused bcst;simp only [List.append_assoc]
theorem blaid_step (lv : Int) (k : Kd) (L : List Sk) (i : Nat) (hi : i < L.length) (h : bcst lv L + (bcells (bpre (seps L)) (L.take i)).length + (bcb (bpre (seps L)) (L.getD i sk0)).length ≤ 4092) :
  splice (splice (blaid lv k L i) ((bhead lv L).length + 2 * i) (lb 2 (bcst lv L + (bcells (bpre (seps L)) (L.take i)).length))) (bcst lv L + (bcells (bpre (seps L)) (L.take i)).length) (bcb (bpre (seps L)) (L.getD i sk0)) = blaid lv k L (i + 1) := by
 have hs := bslots_len (bpre (seps L)) (L.take i) (bcst lv L);rw [List.length_take] at hs
 have e1 : splice (blaid lv k L i) ((bhead lv L).length + 2 * i) (lb 2 (bcst lv L + (bcells (bpre (seps L)) (L.take i)).length)) =
   (bhead lv L ++ bslots (bpre (seps L)) (bcst lv L) (L.take (i + 1))) ++ (List.replicate (2 * (L.length - (i + 1))) 0 ++ (kb k ++ (bcells (bpre (seps L)) (L.take i) ++ List.replicate (4092 - (bcst lv L + (bcells (bpre (seps L)) (L.take i)).length)) 0))) := by
  unfold blaid;rw [show 2 * (L.length - i) = 2 + 2 * (L.length - (i + 1)) by omega, ← List.replicate_append_replicate, List.append_assoc (List.replicate 2 0), ← List.append_assoc (bhead lv L), splice_mid (by rw [List.length_append, hs]; omega) (by rw [lb_len, List.length_replicate]), bslots_snoc _ _ _ _ hi];simp only [List.append_assoc]
 rw [e1];have hs1 := bslots_len (bpre (seps L)) (L.take (i + 1)) (bcst lv L);rw [List.length_take] at hs1
 have hX : ((bhead lv L ++ bslots (bpre (seps L)) (bcst lv L) (L.take (i + 1))) ++ (List.replicate (2 * (L.length - (i + 1))) 0 ++ (kb k ++ bcells (bpre (seps L)) (L.take i)))).length = bcst lv L + (bcells (bpre (seps L)) (L.take i)).length := by
  simp only [List.length_append, hs1, List.length_replicate, kb_len];unfold bcst bkst; omega
 rw [show (bhead lv L ++ bslots (bpre (seps L)) (bcst lv L) (L.take (i + 1))) ++ (List.replicate (2 * (L.length - (i + 1))) 0 ++ (kb k ++ (bcells (bpre (seps L)) (L.take i) ++ List.replicate (4092 - (bcst lv L + (bcells (bpre (seps L)) (L.take i)).length)) 0))) =
  ((bhead lv L ++ bslots (bpre (seps L)) (bcst lv L) (L.take (i + 1))) ++ (List.replicate (2 * (L.length - (i + 1))) 0 ++ (kb k ++ bcells (bpre (seps L)) (L.take i)))) ++ (List.replicate (bcb (bpre (seps L)) (L.getD i sk0)).length 0 ++ List.replicate (4092 - (bcst lv L + (bcells (bpre (seps L)) (L.take (i + 1))).length)) 0) by
   rw [List.replicate_append_replicate, bcells_snoc _ _ _ hi, List.length_append];simp only [List.append_assoc];rw [show (bcb (bpre (seps L)) (L.getD i sk0)).length + (4092 - (bcst lv L + ((bcells (bpre (seps L)) (L.take i)).length + (bcb (bpre (seps L)) (L.getD i sk0)).length))) = 4092 - (bcst lv L + (bcells (bpre (seps L)) (L.take i)).length) by omega]]
 rw [splice_mid hX (by simp)];unfold blaid;rw [bcells_snoc _ _ _ hi];simp only [List.append_assoc]
theorem blaid_len (lv : Int) (k : Kd) (L : List Sk) (i : Nat) (hi : i ≤ L.length) (h : bcst lv L + (bcells (bpre (seps L)) (L.take i)).length ≤ 4092) : (blaid lv k L i).length = 4092 := by
 unfold blaid;simp only [List.length_append, bslots_len, List.length_replicate, List.length_take, kb_len];have : bcst lv L = (bhead lv L).length + 2 * L.length + 8 := rfl;omega
theorem bcst_le (lv : Int) (k : Kd) {L : List Sk} (h2 : bsize (seps L) ≤ 4092) (i : Nat) : bcst lv L + (bcells (bpre (seps L)) (L.take i)).length ≤ 4092 := by
 have h1 := bused_len lv k L;have h3 := bcells_mono (bpre (seps L)) L i;unfold bused at h1;rw [List.length_append, List.length_append, List.length_append, bslots_len, kb_len] at h1;unfold bcst bkst;omega
theorem info_arrB : ((Tryz.prog.info? 165).bind (fun i => i.zero)).map (fun z => z.cells) = some ((List.replicate 4092 (Value.int .u8 0)).toArray) := by kernel_rfl
theorem arrB_parts : ∃ i z, Tryz.prog.info? 165 = some i ∧ i.zero = some z ∧ z.cells = ((List.replicate 4092 (0 : Int)).map (Value.int .u8)).toArray := by
 obtain ⟨z, h1, h2⟩ := Option.map_eq_some_iff.1 info_arrB;obtain ⟨i, h3, h4⟩ := Option.bind_eq_some_iff.1 h1;exact ⟨i, z, h3, h4, by rw [List.map_replicate]; exact h2⟩
theorem wpList_alloc_arr {w : World} {ops : Array Oper} {rest : List Oper} {o : Oper} {a : Act} {Q : Exit → Act → World → Prop} (hgd : o.guard = none) (ho : o.op = .alloc 165) (Z : List Int) (hZ : Z = List.replicate 4092 0)
  (h : ∀ w', Rt w' w.heap.size 165 Z → w.grownBy w' none → w'.heap.size = w.heap.size + 1 → wpList Tryz.prog ops Q rest (a.put o.dst (.pointer (some ⟨w.heap.size, 0, none⟩))) w') : wpList Tryz.prog ops Q (o :: rest) a w := by
 obtain ⟨i, z, h1, h2, h3⟩ := arrB_parts;refine Go.Great.wpList_allocTo hgd o.dst rfl (.pointer (some ⟨w.heap.size, 0, none⟩)) (.cells z.cells 165) ?_ (h _ ?_ (World.grownBy_alloc w _ none) (by simp))
 ·simp [execOp, ho, Instr.alloc, zeroValue, typeInfo, newVar, newRow, h1, h2]
 ·rw [h3, hZ]
  exact heap_alloc_new w _
end Go.Proofs.YtkiopabcnemgnaaGreatDoor
