import Derived.Test.YtlfhonlifgpnhaaLeaf5
import Derived.Test.YtlfhonlifgpnhaaLeafL
namespace Go.Proofs.Ytlfhonlifgpnhaa
open Go.RowKit

theorem Rw.two {w w' : World} {R G g : Nat} {zs : List Int} (h : Rw w g zs) (hg : Two w w' R G) (h1 : g ≠ R) (h2 : g ≠ G) : Rw w' g zs := (hg.block g h.lt h1 h2).trans h

/-- The three writers over the body, i items laid. -/
structure Ls (w : World) (H S C G p0 c0 cl i : Nat) (B : List Int) : Prop where
  h : Wt w H G p0
  s : Wt w S G (p0 + 2 * i)
  c : Wt w C G (c0 + cl)
  b : Rw w G B

theorem info_writer : (Try.prog.info? 84).map (fun i => (i.zero, i.size, i.bytes)) = some (some (.agg #[.slice none 0 0, .int .i64 0]), 2, 32) := by kernel_rfl

set_option maxHeartbeats 4000000 in
set_option maxRecDepth 100000 in
theorem layOut_any (a : Option Addr) (n cap : Nat) (L : List It) (w : World) (hl : Il w a L) (hn : L.length = n) (hw : wrong L = 0) (hs : size L ≤ 4092) :
    Calls Try.prog 37 #[.slice a n cap] w fun en w' => ∃ G, en = .returned (.slice (some ⟨G, 0, none⟩) 4092 4092) ∧ Rw w' G (body L) ∧ w.grownBy w' none ∧ w.heap.size ≤ G := by
  obtain ⟨i0, hi, hz0, hz1, hz2⟩ := info_parts info_u8
  obtain ⟨hm1, hm2⟩ := many_le hw hs
  obtain ⟨hL0, hws, hwv, hup⟩ := wrong_parts hw
  have HCS := hid_intro (cst_le hw hs)
  have hLne : L ≠ [] := fun e => hL0 (by rw [e]; rfl)
  have hhl := head_len hLne
  have hc0 := cst_le hw hs 0
  have HL := hid_intro hl
  have hm : n ≤ 2046 := by omega
  have hn0 : 0 < n := by omega
  obtain ⟨b, off, ao, n0, c0, bo, m0, d0, rfl, q2, q3, q4, q5, q6, q7, q8, q9, q10, q11⟩ := hl.row 0 (by omega)
  have hpl : pre L ≤ n0 := by
    have := (pre_each _ (getD_mem (L := L) (i := 0) (by omega))).1
    have e := q6.len
    omega
  have HB0 : Hid (headB L = lb 1 1 ++ (lb 2 n ++ (vform (pre L) ++ (L.getD 0 it0).key.take (pre L)))) := by
    show _ = _
    unfold headB
    rw [hn]
    cases L with
    | nil => exact absurd rfl hLne
    | cons x L => rfl
  rw [Nat.zero_mul, Nat.add_zero] at q2
  have HQ2 := hid_intro q2
  have HQ6 := hid_intro q6
  have HWS := hid_intro hws
  have HWV := hid_intro hwv
  clear hl q2 q3 q4 q5 q6 q9 hws hwv hup hL0 hLne
  go_enter Try.func37, Try.ntmps37
  go_wp2_with fail
  refine (common4_any _ n cap L _ HL.out hn (by omega)).mono ?_
  rintro en w1 ⟨rfl, hg1⟩
  have G1 := hid_intro hg1
  clear hg1
  have P1 := hid_intro (fun W : World => putV_nil (pre L) W (by omega))
  have hvl : vl (pre L) = (vform (pre L)).length := rfl
  have HBD : Hid (∀ i, i < L.length → (headB L).length = 3 + vl (pre L) + pre L) := fun _ _ => hhl
  obtain ⟨l1, hl1⟩ : ∃ l1, (vform (pre L)).length = l1 := ⟨_, rfl⟩
  rw [hl1] at P1 hvl
  rw [hvl] at hhl
  have hcst : cst L = (headB L).length + 2 * n := by unfold cst; rw [hn]
  have HCST := hid_intro hcst
  have HHL := hid_intro hhl
  have HL1 := hid_intro hl1
  have hb1 : 3 + l1 + pre L + 2 * n ≤ 4092 := by rw [hcst, hhl] at hc0; omega
  clear hc0 hvl HBD hl1 hcst hhl
  generalize hpp : pre L = p at *
  have HPP := hid_intro hpp
  clear hpp
  go_wp2_with (at_make; refine wpList_make_full _ rfl _ _ 34 rfl w1.heap.size 5 i0 (.int .u8 0) 1 Try.underlying34 hi hz0 hz1 _ _ _ _ 4092 rfl rfl rfl rfl ?b2 ?b3 (Nat.le_refl _) ?_)
  case b2 => rw [hz2]; omega
  case b3 => unfold maxLen; omega
  intro w2 hown2 hg2
  rw [made] at hown2
  have R2 := hid_intro (Rw.of_owns hown2)
  have hG0 : w.heap.size ≤ w1.heap.size := G1.out.size
  have HG0 := hid_intro hG0
  have G2 := hid_intro (grown_trans G1.out hg2)
  clear hown2 hg2 hG0 G1
  generalize w1.heap.size = G at *
  have G3 := hid_intro (grown_trans G2.out (World.grownBy_alloc w2 (.cells #[.slice (some ⟨G, 0, none⟩) 4092 4092, .int .i64 0] 84) none))
  have R3 := hid_intro (R2.out.keptN (World.grownBy_alloc w2 (.cells #[.slice (some ⟨G, 0, none⟩) 4092 4092, .int .i64 0] 84) none))
  have W3 : Hid (Wt (w2.alloc (.cells #[.slice (some ⟨G, 0, none⟩) 4092 4092, .int .i64 0] 84)) w2.heap.size G 0) := by
    show _ = _
    exact heap_alloc_new w2 _
  have HGH : Hid (w2.heap.size ≠ G) := fun e => by have := R2.out.lt; omega
  have HH0 : Hid (w.heap.size ≤ w2.heap.size) := by have := R2.out.lt; have := HG0.out; show _ ≤ _; omega
  go_wp2_with fail
  generalize w2.alloc (.cells #[.slice (some ⟨G, 0, none⟩) 4092 4092, .int .i64 0] 84) = w3 at *
  clear R2 G2
  generalize w2.heap.size = H at *
  refine (put_u8_nil 1 _ (by omega)).mono ?_
  rintro en w4 ⟨rfl, hb4, hg4, hs4⟩
  have B4 := hid_intro hb4
  have W4 := hid_intro (W3.out.kept hg4)
  have R4 := hid_intro (R3.out.keptN hg4)
  have G4 := hid_intro (grown_trans G3.out hg4)
  clear hb4 hg4 hs4 W3 R3 G3
  go_wp2_with fail
  refine (lay_any H G 0 _ _ _ _ (lb 1 1) _ W4.out R4.out (by rw [List.length_replicate]) B4.out HGH.out (by omega)).mono ?_
  rintro en w5 ⟨rfl, hw5, hr5, ht5, hs5⟩
  have W5 := hid_intro hw5
  have R5 := hid_intro hr5
  have G5 := hid_intro (ht5.grown G4.out HH0.out HG0.out)
  clear hw5 hr5 ht5 hs5 W4 R4 G4 B4
  have L1 : Hid ((splice (List.replicate 4092 0) 0 (lb 1 1)).length = 4092) := by show _ = _; rw [splice_len (by rw [lb_len, List.length_replicate]; omega), List.length_replicate]
  go_wp2_with fail
  refine (put_u16_nil n _ (by omega)).mono ?_
  rintro en w6 ⟨rfl, hb6, hg6, hs6⟩
  have B6 := hid_intro hb6
  have W6 := hid_intro (W5.out.kept hg6)
  have R6 := hid_intro (R5.out.keptN hg6)
  have G6 := hid_intro (grown_trans G5.out hg6)
  clear hb6 hg6 hs6 W5 R5 G5
  go_wp2_with fail
  refine (lay_any H G _ _ _ _ _ (lb 2 n) _ W6.out R6.out L1.out B6.out HGH.out (by omega)).mono ?_
  rintro en w7 ⟨rfl, hw7, hr7, ht7, hs7⟩
  have W7 := hid_intro hw7
  have R7 := hid_intro hr7
  have G7 := hid_intro (ht7.grown G6.out HH0.out HG0.out)
  clear hw7 hr7 ht7 hs7 W6 R6 G6 B6
  have L2 : Hid ((splice (splice (List.replicate 4092 0) 0 (lb 1 1)) (0 + 1) (lb 2 n)).length = 4092) := by show _ = _; rw [splice_len (by rw [L1.out, lb_len]; omega)]; exact L1.out
  go_wp2_with fail
  refine (P1.out _).mono ?_
  rintro en w8 ⟨rfl, hb8, hg8, hs8⟩
  have B8 := hid_intro hb8
  have W8 := hid_intro (W7.out.kept hg8)
  have R8 := hid_intro (R7.out.keptN hg8)
  have G8 := hid_intro (grown_trans G7.out hg8)
  clear hb8 hg8 hs8 W7 R7 G7
  go_wp2_with fail
  refine (lay_any H G _ _ _ _ _ (vform p) _ W8.out R8.out L2.out B8.out HGH.out (by omega)).mono ?_
  rintro en w9 ⟨rfl, hw9, hr9, ht9, hs9⟩
  have W9 := hid_intro hw9
  have R9 := hid_intro hr9
  have G9 := hid_intro (ht9.grown G8.out HH0.out HG0.out)
  clear hw9 hr9 ht9 hs9 W8 R8 G8 B8
  have L3 : Hid ((splice (splice (splice (List.replicate 4092 0) 0 (lb 1 1)) (0 + 1) (lb 2 n)) (0 + 1 + 2) (vform p)).length = 4092) := by show _ = _; rw [splice_len (by rw [L2.out, HL1.out]; omega)]; exact L2.out
  have e0 : w9.cell? ⟨b, off, none⟩ = some (.slice ao n0 c0) := G9.out.cell HQ2.out (by simp)
  have B9 := hid_intro ((HQ6.out.keptN G9.out).take p c0 hpl (fun e => by have := ((HQ6.out).nil e).2; omega))
  have g1 : (0 : Int) ≤ (p : Int) := by omega
  have g2 : (p : Int) ≤ (c0 : Int) := by omega
  have g3 : (0 : Int) < (n : Int) := by omega
  go_wp2_with fail
  refine (lay_any H G _ _ _ _ _ _ _ W9.out R9.out L3.out B9.out HGH.out (by omega)).mono ?_
  rintro en w10 ⟨rfl, hw10, hr10, ht10, hs10⟩
  have hh0 : 0 + 1 + 2 + l1 + p = (headB L).length := by have := HHL.out; omega
  have W10 : Hid (Wt w10 H G (headB L).length) := by rw [← hh0]; exact hw10
  have R10 : Hid (Rw w10 G (laid L 0)) := by
    have e := splice_four (cs := List.replicate 4092 0) (A := lb 1 1) (B := lb 2 n) (C := vform p) (D := (L.getD 0 it0).key.take p) (q := 0) (a := 1) (b := 2) (c := l1) (lb_len _ _) (lb_len _ _) HL1.out (by rw [List.length_replicate, List.length_take]; omega)
    have e2 := laid_zero L (by have := HCS.out 0; omega)
    rw [HB0.out, ← e] at e2
    show Rw _ _ _
    rw [← e2]
    exact hr10
  have G10 := hid_intro (ht10.grown G9.out HH0.out HG0.out)
  have HHt := hid_intro W10.out.lt
  have HGt := hid_intro R10.out.lt
  have hb2 : (headB L).length + 2 * n ≤ 4092 := by rw [HHL.out]; omega
  have HHC := hid_intro HHL.out
  clear hw10 hr10 ht10 hs10 W9 R9 G9 B9 hh0 L1 L2 L3 HB0 P1 HQ2 HQ6
  obtain ⟨k0, k1, _⟩ := W10.out.cells
  generalize hhe : (headB L).length = h0 at *
  have HHE := hid_intro hhe
  clear hhe
  have HS : Hid (∀ v : Int, v = ((h0 + 2 * n : Nat) : Int) → Ls ((w10.alloc (.cells #[.slice (some ⟨G, 0, none⟩) 4092 4092, .int .i64 (h0 : Int)] 84)).alloc (.cells #[.slice (some ⟨G, 0, none⟩) 4092 4092, .int .i64 v] 84)) H w10.heap.size (w10.heap.size + 1) G h0 (h0 + 2 * n) 0 0 (laid L 0) ∧ w.grownBy ((w10.alloc (.cells #[.slice (some ⟨G, 0, none⟩) 4092 4092, .int .i64 (h0 : Int)] 84)).alloc (.cells #[.slice (some ⟨G, 0, none⟩) 4092 4092, .int .i64 v] 84)) none) := by
    intro v hv
    subst hv
    have ga := World.grownBy_alloc w10 (.cells #[.slice (some ⟨G, 0, none⟩) 4092 4092, .int .i64 (h0 : Int)] 84) none
    have wa : Wt (w10.alloc (.cells #[.slice (some ⟨G, 0, none⟩) 4092 4092, .int .i64 (h0 : Int)] 84)) w10.heap.size G h0 := heap_alloc_new w10 _
    have hsa : (w10.alloc (.cells #[.slice (some ⟨G, 0, none⟩) 4092 4092, .int .i64 (h0 : Int)] 84)).heap.size = w10.heap.size + 1 := by simp
    have Wa := W10.out.kept ga
    have Ra := R10.out.keptN ga
    have Ga := grown_trans G10.out ga
    generalize w10.alloc (.cells #[.slice (some ⟨G, 0, none⟩) 4092 4092, .int .i64 (h0 : Int)] 84) = wa1 at *
    have gb := World.grownBy_alloc wa1 (.cells #[.slice (some ⟨G, 0, none⟩) 4092 4092, .int .i64 ((h0 + 2 * n : Nat) : Int)] 84) none
    have wb : Wt (wa1.alloc (.cells #[.slice (some ⟨G, 0, none⟩) 4092 4092, .int .i64 ((h0 + 2 * n : Nat) : Int)] 84)) (w10.heap.size + 1) G (h0 + 2 * n) := by rw [← hsa]; exact heap_alloc_new wa1 _
    exact ⟨⟨Wa.kept gb, wa.kept gb, wb, Ra.keptN gb⟩, grown_trans Ga gb⟩
  have g5 : (0 : Int) ≤ (h0 : Int) := by omega
  go_wp2
  have HSl := hid_intro (G10.out.size)
  clear k0 k1
  go_loopw [8, 42] (fun _ si wr => ∃ i : Nat, i ≤ n ∧ si = .int .i64 i ∧ Ls wr H w10.heap.size (w10.heap.size + 1) G h0 (h0 + 2 * n) (cells p (L.take i)).length i (laid L i) ∧ w.grownBy wr none) (fun _ si _ => n - (intOf si).toNat)
  case atStart =>
    obtain ⟨x1, x2⟩ := HS.out _ (by go_num)
    exact ⟨0, Nat.zero_le _, rfl, x1, x2⟩
  case round =>
    obtain ⟨i, hi', rfl, hls, hg⟩ := hrel
    have HLS := hid_intro hls
    have HG := hid_intro hg
    have HHt1 := HHt.out
    have HGt1 := HGt.out
    have HSl1 := HSl.out
    clear hls hg HS W10 R10 G10 HHt HGt HSl
    by_cases hlt : i < n
    · obtain ⟨b', off', ao', m, c', bo', m2, d2, e1, r2, r3, r4, r5, r6, r7, r8, r9, r10, r11⟩ := HL.out.row i (by omega)
      simp only [Option.some.injEq, Addr.mk.injEq] at e1
      obtain ⟨rfl, rfl, _⟩ := e1
      have hx := getD_mem (L := L) (i := i) (by omega)
      have x1 := HWS.out _ hx
      have x2 := HWV.out _ hx
      have x3 := (ws_parts x1).1
      have x4 := r6.len
      obtain ⟨kb, ko, rfl, hkb, _⟩ := r6.at (by omega)
      have hbv : ∀ ad, bo' = some ad → 0 < m2 → ad.block < w.heap.size := fun ad e h => r9.lt e h
      have hpx : p ≤ m := by
        have := (pre_each _ hx).1
        rw [HPP.out] at this
        omega
      have u0 := HG.out.cell r2 (by simp)
      have u1 := HG.out.cell r3 (by simp)
      have u2 := HG.out.cell r4 (by simp)
      have u3 := HG.out.cell r5 (by simp)
      have hA0 := HCS.out (i + 1)
      have hcsn := cells_snoc p L i (by omega)
      have hst := laid_step L i (by omega) (by rw [HPP.out]; rw [hcsn, List.length_append] at hA0; omega)
      rw [HHE.out, HCST.out, HPP.out] at hst
      rw [hcsn, List.length_append, HCST.out, ← Nat.add_assoc] at hA0
      have HCN : Hid ((cells p (L.take (i + 1))).length = (cells p (L.take i)).length + (cb p (L.getD i it0)).length) := by show _ = _; rw [hcsn, List.length_append]
      have hll := laid_len L i (by omega) (HCS.out i |> fun h => by rw [HPP.out]; exact h)
      have HKy := hid_intro r6
      have HVl := hid_intro r9
      have HLC := HLS.out.c
      have HLCh := hid_intro HLC
      obtain ⟨A, hA⟩ : ∃ A, h0 + 2 * n + (cells p (L.take i)).length = A := ⟨_, rfl⟩
      rw [hA] at HLC hst hA0
      have HAA := hid_intro hA
      have HST := hid_intro hst
      have HLL := hid_intro hll
      have HLCc := hid_intro HLC
      have hA9 : A ≤ 4092 := by omega
      clear r2 r3 r4 r5 r6 r9 hcsn hst hll HLC hA HLCh hx
      generalize hxx : L.getD i it0 = x at *
      generalize hBi : laid L i = Bi at *
      have HBi := hid_intro hBi
      clear hBi
      have HSz : Hid (x.size = x.size) := rfl
      obtain ⟨sz, hsz⟩ : ∃ sz, x.size = sz := ⟨_, rfl⟩
      obtain ⟨fs, hfs⟩ : ∃ fs, x.first = fs := ⟨_, rfl⟩
      rw [hsz] at u2
      rw [hfs] at u3
      have HSZ := hid_intro hsz
      have HFS := hid_intro hfs
      have HX1 := hid_intro x1
      have HX2 := hid_intro x2
      have HX4 := hid_intro x4
      have HXX := hid_intro hxx
      clear hsz hfs x1 x2 x3 x4 hxx HSz
      have ga := World.grownBy_alloc wr (.cells #[.slice (some ⟨kb, ko, none⟩) m c', .slice bo' m2 d2, .int .i64 sz, .int .i64 fs] 48) none
      have k0 : Hid ((wr.alloc (.cells #[.slice (some ⟨kb, ko, none⟩) m c', .slice bo' m2 d2, .int .i64 sz, .int .i64 fs] 48)).cell? ⟨wr.heap.size, 0, none⟩ = some (.slice (some ⟨kb, ko, none⟩) m c')) := by show _ = _; rw [cell_of_row _ wr.heap.size 0 _ _ (0, 0) (heap_alloc_new wr _)]; rfl
      have k1 : Hid ((wr.alloc (.cells #[.slice (some ⟨kb, ko, none⟩) m c', .slice bo' m2 d2, .int .i64 sz, .int .i64 fs] 48)).cell? ⟨wr.heap.size, 1, none⟩ = some (.slice bo' m2 d2)) := by show _ = _; rw [cell_of_row _ wr.heap.size 1 _ _ (0, 0) (heap_alloc_new wr _)]; rfl
      have k2 : Hid ((wr.alloc (.cells #[.slice (some ⟨kb, ko, none⟩) m c', .slice bo' m2 d2, .int .i64 sz, .int .i64 fs] 48)).cell? ⟨wr.heap.size, 2, none⟩ = some (.int .i64 sz)) := by show _ = _; rw [cell_of_row _ wr.heap.size 2 _ _ (0, 0) (heap_alloc_new wr _)]; rfl
      have k3 : Hid ((wr.alloc (.cells #[.slice (some ⟨kb, ko, none⟩) m c', .slice bo' m2 d2, .int .i64 sz, .int .i64 fs] 48)).cell? ⟨wr.heap.size, 3, none⟩ = some (.int .i64 fs)) := by show _ = _; rw [cell_of_row _ wr.heap.size 3 _ _ (0, 0) (heap_alloc_new wr _)]; rfl
      have Hh := hid_intro (HLS.out.h.kept ga)
      have Hs := hid_intro (HLS.out.s.kept ga)
      have Hc := hid_intro (HLCc.out.kept ga)
      have Hb := hid_intro (HLS.out.b.keptN ga)
      have Hg := hid_intro (grown_trans HG.out ga)
      have HNE : Hid (wr.heap.size ≠ w10.heap.size ∧ wr.heap.size ≠ w10.heap.size + 1 ∧ wr.heap.size ≠ G) := by
        have a1 := HLS.out.s.lt
        have a2 := HLCc.out.lt
        have a3 := HLS.out.b.lt
        exact ⟨by omega, by omega, by omega⟩
      obtain ⟨_, j1, _⟩ := (HLCc.out.kept ga).cells
      clear ga HLS HLCc HG
      go_wp2_with fail
      have k0' := k0.out
      have k1' := k1.out
      have k2' := k2.out
      have k3' := k3.out
      clear k0 k1 k2 k3 u0 u1 u2 u3 j1
      generalize wr.alloc (.cells #[.slice (some ⟨kb, ko, none⟩) m c', .slice bo' m2 d2, .int .i64 sz, .int .i64 fs] 48) = wq at *
      generalize wr.heap.size = Q at *
      refine (put_u16_nil A _ (by omega)).mono ?_
      rintro en w5 ⟨rfl, hb5, hg5, hs5⟩
      have B5 := hid_intro hb5
      have Hh5 := hid_intro (Hh.out.kept hg5)
      have Hs5 := hid_intro (Hs.out.kept hg5)
      have Hc5 := hid_intro (Hc.out.kept hg5)
      have Hb5 := hid_intro (Hb.out.keptN hg5)
      have Hg5 := hid_intro (grown_trans Hg.out hg5)
      have z0 := hg5.cell k0' (by simp)
      have z1 := hg5.cell k1' (by simp)
      have z2 := hg5.cell k2' (by simp)
      have z3 := hg5.cell k3' (by simp)
      clear hb5 hg5 hs5 Hh Hs Hc Hb Hg k0' k1' k2' k3'
      go_wp2_with fail
      refine (lay_any w10.heap.size G _ _ _ _ _ (lb 2 A) _ Hs5.out Hb5.out HLL.out B5.out (by omega) (by omega)).mono ?_
      rintro en w6 ⟨rfl, hw6, hr6, ht6, hs6⟩
      have Hs6 := hid_intro hw6
      have Hb6 := hid_intro hr6
      have Hh6 := hid_intro (Hh5.out.two ht6 (by omega) HGH.out)
      have Hc6 := hid_intro (Hc5.out.two ht6 (by omega) (by omega))
      have Hg6 := hid_intro (ht6.grown Hg5.out (by omega) HG0.out)
      have y0 : w6.cell? ⟨Q, 0, none⟩ = some (.slice (some ⟨kb, ko, none⟩) m c') := (World.cell?_of_block (ht6.block Q (World.block_lt_of_cell? _ _ z0) HNE.out.1 HNE.out.2.2)).trans z0
      have y1 : w6.cell? ⟨Q, 1, none⟩ = some (.slice bo' m2 d2) := (World.cell?_of_block (ht6.block Q (World.block_lt_of_cell? _ _ z0) HNE.out.1 HNE.out.2.2)).trans z1
      have y2 : w6.cell? ⟨Q, 2, none⟩ = some (.int .i64 sz) := (World.cell?_of_block (ht6.block Q (World.block_lt_of_cell? _ _ z0) HNE.out.1 HNE.out.2.2)).trans z2
      have y3 : w6.cell? ⟨Q, 3, none⟩ = some (.int .i64 fs) := (World.cell?_of_block (ht6.block Q (World.block_lt_of_cell? _ _ z0) HNE.out.1 HNE.out.2.2)).trans z3
      have L6 : Hid ((splice Bi (h0 + 2 * i) (lb 2 A)).length = 4092) := by show _ = _; rw [splice_len (by rw [HLL.out, lb_len]; omega)]; exact HLL.out
      clear hw6 hr6 ht6 hs6 Hs5 Hb5 Hh5 Hc5 Hg5 B5 z0 z1 z2 z3
      have hg0 := HG0.out
      go_wp2_with fail
      refine (layCell_any (w10.heap.size + 1) G A _ kb ko m c' bo' m2 d2 sz fs p x _ Hc6.out Hb6.out L6.out (by omega) (HKy.out.keptN Hg6.out) (HVl.out.keptN Hg6.out) HSZ.out HFS.out HX1.out HX2.out hpx r7 (by omega) ⟨by omega, by omega⟩ (fun ad e h => by have := hbv ad e h; exact ⟨by omega, by omega⟩)).mono ?_
      rintro en w7 ⟨rfl, hw7, hr7, ht7⟩
      have Hc7 := hid_intro hw7
      have Hb7 := hid_intro hr7
      have Hh7 := hid_intro (Hh6.out.two ht7 (by omega) HGH.out)
      have Hs7 := hid_intro (Hs6.out.two ht7 (by omega) (by omega))
      have Hg7 := hid_intro (ht7.grown Hg6.out (by omega) HG0.out)
      clear hw7 hr7 ht7 Hc6 Hb6 Hh6 Hs6 Hg6 y0 y1 y2 y3
      go_wp2
      go_roundw
      case rel =>
        refine ⟨i + 1, by omega, by go_num, ⟨Hh7.out, ?_, ?_, ?_⟩, Hg7.out⟩
        · exact (by have := Hs7.out; simpa [Nat.mul_add, Nat.add_assoc] using this)
        · rw [HCN.out, ← Nat.add_assoc, HAA.out]; exact Hc7.out
        · rw [← HST.out]; exact Hb7.out
      case measure => simp [intOf]; omega
    · have hin : i = n := by omega
      subst hin
      obtain ⟨k0, k1, _⟩ := HLS.out.h.cells
      go_wp2
      go_ret
      refine ⟨G, rfl, ?_, HG.out, HG0.out⟩
      have := HLS.out.b
      rw [← hn, laid_all] at this
      exact this
end Go.Proofs.Ytlfhonlifgpnhaa
