import Derived.Test.YtlfhonlifgpnhaaLeaf4
namespace Go.Proofs.Ytlfhonlifgpnhaa
open Go.RowKit

/-! ### Splices in a row: a writer that goes on -/

/-- The body so far: what was laid up to p, and what is behind q on. -/
theorem splice_len {cs zs : List Int} {p : Nat} (h : p + zs.length ≤ cs.length) : (splice cs p zs).length = cs.length := length_splice cs p zs h
theorem splice_nil (cs : List Int) (p : Nat) : splice cs p [] = cs := by simp [splice]
theorem splice_two {cs xs ys : List Int} {p : Nat} (h : p + xs.length + ys.length ≤ cs.length) : splice (splice cs p xs) (p + xs.length) ys = splice cs p (xs ++ ys) := by
  unfold splice
  have e1 : (cs.take p ++ (xs ++ cs.drop (p + xs.length))).take (p + xs.length) = cs.take p ++ xs := by
    rw [← List.append_assoc, List.take_left' (by simp; omega)]
  have e2 : (cs.take p ++ (xs ++ cs.drop (p + xs.length))).drop (p + xs.length + ys.length) = cs.drop (p + xs.length + ys.length) := by
    rw [← List.append_assoc, ← List.drop_drop, List.drop_left' (by simp; omega), List.drop_drop]
  rw [e1, e2]
  simp [Nat.add_assoc]

/-- A piece that is laid: it does not lie in the body or the writer. -/
theorem fresh_lay {w w' : World} {n c : Nat} {zs : List Int} (h : Byt w' (some ⟨w.heap.size, 0, none⟩) n c zs) : Byt w' (some ⟨w.heap.size, 0, none⟩) n c zs := h

theorem Wt.kept {w w' : World} {R G p : Nat} (h : Wt w R G p) (hg : w.grownBy w' none) : Wt w' R G p := (hg.block R h.lt (by simp)).trans h
theorem Wt.two {w w' : World} {R G p R' : Nat} (h : Wt w R' G p) (hg : Two w w' R G) (h1 : R' ≠ R) (h2 : R' ≠ G) : Wt w' R' G p := (hg.block R' h.lt h1 h2).trans h
theorem Byt.two {w w' : World} {R G : Nat} {ao : Option Addr} {n c : Nat} {zs : List Int} (h : Byt w ao n c zs) (hg : Two w w' R G) (hne : ∀ ad, ao = some ad → 0 < n → ad.block ≠ R ∧ ad.block ≠ G) : Byt w' ao n c zs := by
  refine ⟨h.len, h.nil, fun ad had j u hu => ?_⟩
  have hj : j < zs.length := by have := (List.getElem?_eq_some_iff.1 hu).1; simpa using this
  have hc := h.cells ad had j u hu
  have hb : (ad.add j).block = ad.block := by unfold Addr.add; split <;> rfl
  have hn := hne ad had (by have := h.len; omega)
  have hlt := World.block_lt_of_cell? w _ hc
  rw [World.cell?_of_block (hg.block _ hlt (by rw [hb]; exact hn.1) (by rw [hb]; exact hn.2))]
  exact hc
theorem Byt.lt {w : World} {ao : Option Addr} {n c : Nat} {zs : List Int} (h : Byt w ao n c zs) {ad : Addr} (e : ao = some ad) (hn : 0 < n) : ad.block < w.heap.size := by
  obtain ⟨b, off, e2, hb, _⟩ := h.at hn
  rw [e] at e2
  obtain rfl := Option.some.inj e2
  exact hb
theorem Byt.drop {w : World} {b off : Nat} {n c : Nat} {zs : List Int} (h : Byt w (some ⟨b, off, none⟩) n c zs) (k c' : Nat) (hk : k ≤ n) : Byt w (some ⟨b, off + k, none⟩) (n - k) c' (zs.drop k) := by
  have hl := h.len
  refine Byt.of_cells (by rw [List.length_drop]; omega) fun i hi => ?_
  obtain ⟨b', off', e, _, hc⟩ := h.at (by omega)
  simp only [Option.some.injEq, Addr.mk.injEq] at e
  obtain ⟨rfl, rfl, _⟩ := e
  rw [Nat.add_assoc, hc (k + i) (by omega)]
  simp [List.getD]
theorem Byt.none (w : World) (b off c : Nat) : Byt w (some ⟨b, off, none⟩) 0 c [] := Byt.of_cells rfl fun i hi => by omega

theorem put_u8_nil (x : Nat) (w : World) (hx : x < 256) :
    Calls Try.prog 61 #[.slice none 0 0, .int .u8 x] w fun e w' => e = .returned (.slice (some ⟨w.heap.size, 0, none⟩) 1 1) ∧ Byt w' (some ⟨w.heap.size, 0, none⟩) 1 1 (lb 1 x) ∧ w.grownBy w' none ∧ w.heap.size < w'.heap.size := by
  refine (put_u8 none 0 0 [] x w (Byt.empty w) (by omega) hx).mono ?_
  rintro e w' ⟨rfl, h1, h2, h3⟩
  exact ⟨rfl, Byt.of_owns h1, h2, h3⟩
theorem put_u16_nil (x : Nat) (w : World) (hx : x < 65536) :
    Calls Try.prog 62 #[.slice none 0 0, .int .u16 x] w fun e w' => e = .returned (.slice (some ⟨w.heap.size, 0, none⟩) 2 2) ∧ Byt w' (some ⟨w.heap.size, 0, none⟩) 2 2 (lb 2 x) ∧ w.grownBy w' none ∧ w.heap.size < w'.heap.size := by
  refine (put_u16 none 0 0 [] x w (Byt.empty w) (by omega) hx).mono ?_
  rintro e w' ⟨rfl, h1, h2, h3⟩
  exact ⟨rfl, Byt.of_owns h1, h2, h3⟩
theorem put_u32_nil (x : Nat) (w : World) (hx : x < 4294967296) :
    Calls Try.prog 81 #[.slice none 0 0, .int .u32 x] w fun e w' => e = .returned (.slice (some ⟨w.heap.size, 0, none⟩) 4 4) ∧ Byt w' (some ⟨w.heap.size, 0, none⟩) 4 4 (lb 4 x) ∧ w.grownBy w' none ∧ w.heap.size < w'.heap.size := by
  refine (put_u32 none 0 0 [] x w (Byt.empty w) (by omega) hx).mono ?_
  rintro e w' ⟨rfl, h1, h2, h3⟩
  exact ⟨rfl, Byt.of_owns h1, h2, h3⟩
theorem splice_four {cs A B C D : List Int} {q a b c : Nat} (ha : A.length = a) (hb : B.length = b) (hc : C.length = c) (h : q + a + b + c + D.length ≤ cs.length) :
    splice (splice (splice (splice cs q A) (q + a) B) (q + a + b) C) (q + a + b + c) D = splice cs q (A ++ (B ++ (C ++ D))) := by
  subst ha hb hc
  have e1 := splice_two (cs := cs) (xs := A) (ys := B) (p := q) (by omega)
  have e2 := splice_two (cs := cs) (xs := A ++ B) (ys := C) (p := q) (by simp only [List.length_append]; omega)
  have e3 := splice_two (cs := cs) (xs := A ++ B ++ C) (ys := D) (p := q) (by simp only [List.length_append]; omega)
  simp only [List.length_append, ← Nat.add_assoc] at e2 e3
  rw [e1, e2, e3]
  simp only [List.append_assoc]

set_option maxHeartbeats 2000000 in
set_option maxRecDepth 100000 in
theorem layCell_any (R G q : Nat) (cs : List Int) (b off n c : Nat) (bo : Option Addr) (m d : Nat) (s f : Int) (p : Nat) (x : It) (w : World) (hw : Wt w R G q) (hr : Rw w G cs) (hcs : cs.length = 4092) (hRG : R ≠ G)
    (hk : Byt w (some ⟨b, off, none⟩) n c x.key) (hv : Byt w bo m d x.val) (hs : x.size = s) (hf : x.first = f) (h1 : ws x = false) (h2 : wv x = false) (hp : p ≤ n) (hnc : n ≤ c) (hq : q + (cb p x).length ≤ 4092)
    (hkb : b ≠ R ∧ b ≠ G) (hvb : ∀ ad, bo = some ad → 0 < m → ad.block ≠ R ∧ ad.block ≠ G) :
    Calls Try.prog 64 #[.pointer (some ⟨R, 0, none⟩), .agg #[.slice (some ⟨b, off, none⟩) n c, .slice bo m d, .int .i64 s, .int .i64 f], .int .i64 p] w fun en w' => en = .returned (.tuple #[]) ∧ Wt w' R G (q + (cb p x).length) ∧ Rw w' G (splice cs q (cb p x)) ∧ Two w w' R G := by
  obtain ⟨a1, a2, a3, a4⟩ := ws_parts h1
  have hlk := hk.len
  have htg := tg_parts h1 h2
  have htt := tg_lt x.size
  obtain ⟨t, ht⟩ : ∃ t, tg x.size = t := ⟨_, rfl⟩
  obtain ⟨r, hr2⟩ : ∃ r, n - p = r := ⟨_, rfl⟩
  obtain ⟨k, hk2⟩ : ∃ k, x.size = ((k : Nat) : Int) := ⟨x.size.toNat, by omega⟩
  obtain rfl : s = (k : Int) := by rw [← hs, hk2]
  have hk5 : k ≤ 262144 := by omega
  have HT : Hid ((if 512 < k then 2 * k + 1 else 2 * k) = t) := by
    show _ = _
    rw [← ht]; unfold tg; rw [lg_of a3 a4, hk2]; rfl
  have hwl := hw.lt
  have hrl := hr.lt
  have g1 : (p : Int) ≤ (n : Int) := by omega
  have g2 : (0 : Int) ≤ (p : Int) := by omega
  have g3 : (p : Int) ≤ (c : Int) := by omega
  obtain ⟨y, hy⟩ : ∃ y, (if 512 < x.size then lb 4 x.first.toNat else x.val).length = y := ⟨_, rfl⟩
  have HCB : Hid (cb p x = vform r ++ (x.key.drop p ++ (vform t ++ (if 512 < x.size then lb 4 x.first.toNat else x.val)))) := by show _ = _; unfold cb; rw [hlk, hr2, ht]
  have hcl : (cb p x).length = (vform r).length + r + (vform t).length + y := by
    rw [HCB.out]; simp only [List.length_append, List.length_drop]; omega
  have hq' : q + (vform r).length + r + (vform t).length + y ≤ 4092 := by omega
  have HD : Hid ((x.key.drop p).length = r) := by show _ = _; rw [List.length_drop]; omega
  have hvl := wv_parts h2
  obtain ⟨l1, hl1⟩ : ∃ l1, (vform r).length = l1 := ⟨_, rfl⟩
  obtain ⟨l2, hl2⟩ : ∃ l2, (vform t).length = l2 := ⟨_, rfl⟩
  have P1 := hid_intro (fun W : World => putV_nil r W (by omega))
  have P2 := hid_intro (fun W : World => putV_nil t W (by omega))
  rw [hl1] at hq' hcl P1
  rw [hl2] at hq' hcl P2
  have HA := hid_intro hl1
  have HC := hid_intro hl2
  clear hl1 hl2
  generalize vform r = A at *
  generalize vform t = C at *
  generalize hB : x.key.drop p = B at *
  have HB := hid_intro hB
  have HCL := hid_intro hcl
  have G1 := hid_intro (World.grownBy_alloc w (.cells #[.slice (some ⟨b, off, none⟩) n c, .slice bo m d, .int .i64 (k : Int), .int .i64 f] 48) none)
  have HW := hid_intro (hw.kept G1.out)
  have HR := hid_intro (hr.keptN G1.out)
  have HV := hid_intro (hv.keptN G1.out)
  have HK0 := hid_intro (hk.keptN G1.out)
  have HYV := hid_intro hy
  have hlv := hv.len
  clear hw hr hk hv hcl hq hy
  have b1' : Hid ((w.alloc (.cells #[.slice (some ⟨b, off, none⟩) n c, .slice bo m d, .int .i64 (k : Int), .int .i64 f] 48)).cell? ⟨w.heap.size, 1, none⟩ = some (.slice bo m d)) := by show _ = _; rw [cell_of_row _ w.heap.size 1 _ _ (0, 0) (heap_alloc_new w _)]; rfl
  have b2' : Hid ((w.alloc (.cells #[.slice (some ⟨b, off, none⟩) n c, .slice bo m d, .int .i64 (k : Int), .int .i64 f] 48)).cell? ⟨w.heap.size, 2, none⟩ = some (.int .i64 (k : Int))) := by show _ = _; rw [cell_of_row _ w.heap.size 2 _ _ (0, 0) (heap_alloc_new w _)]; rfl
  have b3' : Hid ((w.alloc (.cells #[.slice (some ⟨b, off, none⟩) n c, .slice bo m d, .int .i64 (k : Int), .int .i64 f] 48)).cell? ⟨w.heap.size, 3, none⟩ = some (.int .i64 f)) := by show _ = _; rw [cell_of_row _ w.heap.size 3 _ _ (0, 0) (heap_alloc_new w _)]; rfl
  have WL := hid_intro hwl
  have RL := hid_intro hrl
  clear hwl hrl
  by_cases hcp : c = p
  · subst hcp
    have HK : Hid (Byt (w.alloc (.cells #[.slice (some ⟨b, off, none⟩) n c, .slice bo m d, .int .i64 (k : Int), .int .i64 f] 48)) (some ⟨b, off, none⟩) r 0 B) := by
      obtain rfl : r = 0 := by omega
      have e : B = [] := List.length_eq_zero_iff.1 HD.out
      rw [e]
      exact Byt.none _ _ _ _
    go_enter Try.func64, Try.ntmps64
    go_wp2_with fail
    have Q1 := b1'.out
    have Q2 := b2'.out
    have Q3 := b3'.out
    clear b1' b2' b3'
    generalize w.alloc (.cells #[.slice (some ⟨b, off, none⟩) n c, .slice bo m d, .int .i64 (k : Int), .int .i64 f] 48) = w1 at *
    refine (P1.out _).mono ?_
    rintro en w2 ⟨rfl, hb2, hg2, hs2⟩
    have W2 := hid_intro (HW.out.kept hg2)
    have R2 := hid_intro (HR.out.keptN hg2)
    have B2 := hid_intro hb2
    have K2 := hid_intro (HK.out.keptN hg2)
    have V2 := hid_intro (HV.out.keptN hg2)
    have T2 := hid_intro (Two.of_grown (R := R) (G := G) (grown_trans G1.out hg2))
    have b1 := hg2.cell Q1 (by simp)
    have b2 := hg2.cell Q2 (by simp)
    have b3 := hg2.cell Q3 (by simp)
    have HNE : Hid (w.heap.size ≠ R ∧ w.heap.size ≠ G) := ⟨fun e => by have := WL.out; omega, fun e => by have := RL.out; omega⟩
    clear hb2 hg2 hs2 HW HR HK HV Q1 Q2 Q3
    go_wp2_with fail
    refine (lay_any R G q cs _ _ _ A _ W2.out R2.out hcs B2.out hRG (by omega)).mono ?_
    rintro en w3 ⟨rfl, hw3, hr3, ht3, hs3⟩
    have W3 := hid_intro hw3
    have R3 := hid_intro hr3
    have K3 := hid_intro (K2.out.two ht3 (fun ad e _ => by obtain rfl := Option.some.inj e; exact hkb))
    have V3 := hid_intro (V2.out.two ht3 hvb)
    have T3 := hid_intro (T2.out.trans ht3)
    have d1 : w3.cell? ⟨w.heap.size, 1, none⟩ = some (.slice bo m d) := (World.cell?_of_block (ht3.block w.heap.size (World.block_lt_of_cell? _ _ b1) HNE.out.1 HNE.out.2)).trans b1
    have d2 : w3.cell? ⟨w.heap.size, 2, none⟩ = some (.int .i64 (k : Int)) := (World.cell?_of_block (ht3.block w.heap.size (World.block_lt_of_cell? _ _ b1) HNE.out.1 HNE.out.2)).trans b2
    have d3 : w3.cell? ⟨w.heap.size, 3, none⟩ = some (.int .i64 f) := (World.cell?_of_block (ht3.block w.heap.size (World.block_lt_of_cell? _ _ b1) HNE.out.1 HNE.out.2)).trans b3
    clear hw3 hr3 ht3 hs3 W2 R2 B2 K2 V2 T2 b1 b2 b3
    have L1 : Hid ((splice cs q A).length = 4092) := by show _ = _; rw [splice_len (by rw [HA.out, hcs]; omega)]; exact hcs
    go_wp2_with fail
    refine (lay_any R G _ _ _ _ _ _ _ W3.out R3.out L1.out K3.out hRG (by omega)).mono ?_
    rintro en w4 ⟨rfl, hw4, hr4, ht4, hs4⟩
    have W4 := hid_intro hw4
    have R4 := hid_intro hr4
    have V4 := hid_intro (V3.out.two ht4 hvb)
    have T4 := hid_intro (T3.out.trans ht4)
    have e1 : w4.cell? ⟨w.heap.size, 1, none⟩ = some (.slice bo m d) := (World.cell?_of_block (ht4.block w.heap.size (World.block_lt_of_cell? _ _ d1) HNE.out.1 HNE.out.2)).trans d1
    have e2 : w4.cell? ⟨w.heap.size, 2, none⟩ = some (.int .i64 (k : Int)) := (World.cell?_of_block (ht4.block w.heap.size (World.block_lt_of_cell? _ _ d1) HNE.out.1 HNE.out.2)).trans d2
    have e3 : w4.cell? ⟨w.heap.size, 3, none⟩ = some (.int .i64 f) := (World.cell?_of_block (ht4.block w.heap.size (World.block_lt_of_cell? _ _ d1) HNE.out.1 HNE.out.2)).trans d3
    clear hw4 hr4 ht4 hs4 W3 R3 K3 V3 T3 d1 d2 d3
    have L2 : Hid ((splice (splice cs q A) (q + l1) B).length = 4092) := by show _ = _; rw [splice_len (by rw [L1.out, HD.out]; omega)]; exact L1.out
    go_wp2_with fail
    refine (tagOf_any k _ hk5).mono ?_
    rintro en w5 ⟨rfl, rfl⟩
    rw [HT.out]
    go_wp2_with fail
    refine (P2.out _).mono ?_
    rintro en w5 ⟨rfl, hb5, hg5, hs5⟩
    have W5 := hid_intro (W4.out.kept hg5)
    have R5 := hid_intro (R4.out.keptN hg5)
    have B5 := hid_intro hb5
    have V5 := hid_intro (V4.out.keptN hg5)
    have T5 := hid_intro (T4.out.trans (Two.of_grown hg5))
    have b1 := hg5.cell e1 (by simp)
    have b2 := hg5.cell e2 (by simp)
    have b3 := hg5.cell e3 (by simp)
    clear hb5 hg5 hs5 W4 R4 V4 T4 e1 e2 e3
    go_wp2_with fail
    refine (lay_any R G _ _ _ _ _ _ _ W5.out R5.out L2.out B5.out hRG (by omega)).mono ?_
    rintro en w6 ⟨rfl, hw6, hr6, ht6, hs6⟩
    have W6 := hid_intro hw6
    have R6 := hid_intro hr6
    have V6 := hid_intro (V5.out.two ht6 hvb)
    have T6 := hid_intro (T5.out.trans ht6)
    have e1 : w6.cell? ⟨w.heap.size, 1, none⟩ = some (.slice bo m d) := (World.cell?_of_block (ht6.block w.heap.size (World.block_lt_of_cell? _ _ b1) HNE.out.1 HNE.out.2)).trans b1
    have e2 : w6.cell? ⟨w.heap.size, 2, none⟩ = some (.int .i64 (k : Int)) := (World.cell?_of_block (ht6.block w.heap.size (World.block_lt_of_cell? _ _ b1) HNE.out.1 HNE.out.2)).trans b2
    have e3 : w6.cell? ⟨w.heap.size, 3, none⟩ = some (.int .i64 f) := (World.cell?_of_block (ht6.block w.heap.size (World.block_lt_of_cell? _ _ b1) HNE.out.1 HNE.out.2)).trans b3
    clear hw6 hr6 ht6 hs6 W5 R5 B5 V5 T5 b1 b2 b3
    have L3 : Hid ((splice (splice (splice cs q A) (q + l1) B) (q + l1 + r) C).length = 4092) := by show _ = _; rw [splice_len (by rw [L2.out, HC.out]; omega)]; exact L2.out
    go_wp2_with fail
    refine (chained_any _ _).mono ?_
    rintro en w7 ⟨rfl, rfl⟩
    by_cases h5 : 512 < k
    · have hd : decide ((512 : Int) < (k : Int)) = true := decide_eq_true (by omega)
      rw [hd]
      have hy4 : y = 4 := by have := HYV.out; rw [if_pos (by omega), lb_len] at this; omega
      obtain ⟨fn, hfn⟩ : ∃ fn : Nat, f = (fn : Int) := ⟨f.toNat, by omega⟩
      subst hfn
      have HF2 : Hid (x.first.toNat = fn) := by show _ = _; rw [hf]; rfl
      go_wp2_with fail
      refine (put_u32_nil fn _ (by omega)).mono ?_
      rintro en w8 ⟨rfl, hb8, hg8, hs8⟩
      have W8 := hid_intro (W6.out.kept hg8)
      have R8 := hid_intro (R6.out.keptN hg8)
      have B8 := hid_intro hb8
      have T8 := hid_intro (T6.out.trans (Two.of_grown hg8))
      clear hb8 hg8 hs8 W6 R6 V6 T6
      go_wp2_with fail
      refine (lay_any R G _ _ _ _ _ _ _ W8.out R8.out L3.out B8.out hRG (by omega)).mono ?_
      rintro en w9 ⟨rfl, hw9, hr9, ht9, hs9⟩
      have W9 := hid_intro hw9
      have R9 := hid_intro hr9
      have T9 := hid_intro (T8.out.trans ht9)
      clear hw9 hr9 ht9 hs9 W8 R8 B8 T8
      go_wp2
      refine bodyPost_ret (results_none rfl _ _ _) rfl ?_
      refine ⟨rfl, ?_, ?_, T9.out⟩
      · rw [HCL.out, hy4]; exact (by have := W9.out; simpa [Nat.add_assoc] using this)
      · rw [HCB.out, if_pos (by omega), HF2.out, ← splice_four HA.out HD.out HC.out (by rw [lb_len, hcs]; omega)]
        exact R9.out
    · have hd : decide ((512 : Int) < (k : Int)) = false := decide_eq_false (by omega)
      rw [hd]
      obtain rfl : y = m := by have := HYV.out; rw [if_neg (by omega)] at this; omega
      go_wp2_with fail
      refine (lay_any R G _ _ _ _ _ _ _ W6.out R6.out L3.out V6.out hRG (by omega)).mono ?_
      rintro en w9 ⟨rfl, hw9, hr9, ht9, hs9⟩
      have W9 := hid_intro hw9
      have R9 := hid_intro hr9
      have T9 := hid_intro (T6.out.trans ht9)
      clear hw9 hr9 ht9 hs9 W6 R6 V6 T6
      go_wp2
      refine Go.Great.bodyPost_end0 rfl rfl ?_
      refine ⟨rfl, ?_, ?_, T9.out⟩
      · rw [HCL.out]; exact (by have := W9.out; simpa [Nat.add_assoc] using this)
      · rw [HCB.out, if_neg (by omega), ← splice_four HA.out HD.out HC.out (by rw [hcs]; omega)]
        exact R9.out
  · have HK : Hid (Byt (w.alloc (.cells #[.slice (some ⟨b, off, none⟩) n c, .slice bo m d, .int .i64 (k : Int), .int .i64 f] 48)) (some ⟨b, off + p, none⟩) r (c - p) B) := by
      have := HK0.out.drop p (c - p) hp
      rwa [hr2, HB.out] at this
    go_enter Try.func64, Try.ntmps64
    go_wp2_with fail
    have Q1 := b1'.out
    have Q2 := b2'.out
    have Q3 := b3'.out
    clear b1' b2' b3'
    generalize w.alloc (.cells #[.slice (some ⟨b, off, none⟩) n c, .slice bo m d, .int .i64 (k : Int), .int .i64 f] 48) = w1 at *
    refine (P1.out _).mono ?_
    rintro en w2 ⟨rfl, hb2, hg2, hs2⟩
    have W2 := hid_intro (HW.out.kept hg2)
    have R2 := hid_intro (HR.out.keptN hg2)
    have B2 := hid_intro hb2
    have K2 := hid_intro (HK.out.keptN hg2)
    have V2 := hid_intro (HV.out.keptN hg2)
    have T2 := hid_intro (Two.of_grown (R := R) (G := G) (grown_trans G1.out hg2))
    have b1 := hg2.cell Q1 (by simp)
    have b2 := hg2.cell Q2 (by simp)
    have b3 := hg2.cell Q3 (by simp)
    have HNE : Hid (w.heap.size ≠ R ∧ w.heap.size ≠ G) := ⟨fun e => by have := WL.out; omega, fun e => by have := RL.out; omega⟩
    clear hb2 hg2 hs2 HW HR HK HV Q1 Q2 Q3
    go_wp2_with fail
    refine (lay_any R G q cs _ _ _ A _ W2.out R2.out hcs B2.out hRG (by omega)).mono ?_
    rintro en w3 ⟨rfl, hw3, hr3, ht3, hs3⟩
    have W3 := hid_intro hw3
    have R3 := hid_intro hr3
    have K3 := hid_intro (K2.out.two ht3 (fun ad e _ => by obtain rfl := Option.some.inj e; exact hkb))
    have V3 := hid_intro (V2.out.two ht3 hvb)
    have T3 := hid_intro (T2.out.trans ht3)
    have d1 : w3.cell? ⟨w.heap.size, 1, none⟩ = some (.slice bo m d) := (World.cell?_of_block (ht3.block w.heap.size (World.block_lt_of_cell? _ _ b1) HNE.out.1 HNE.out.2)).trans b1
    have d2 : w3.cell? ⟨w.heap.size, 2, none⟩ = some (.int .i64 (k : Int)) := (World.cell?_of_block (ht3.block w.heap.size (World.block_lt_of_cell? _ _ b1) HNE.out.1 HNE.out.2)).trans b2
    have d3 : w3.cell? ⟨w.heap.size, 3, none⟩ = some (.int .i64 f) := (World.cell?_of_block (ht3.block w.heap.size (World.block_lt_of_cell? _ _ b1) HNE.out.1 HNE.out.2)).trans b3
    clear hw3 hr3 ht3 hs3 W2 R2 B2 K2 V2 T2 b1 b2 b3
    have L1 : Hid ((splice cs q A).length = 4092) := by show _ = _; rw [splice_len (by rw [HA.out, hcs]; omega)]; exact hcs
    go_wp2_with fail
    refine (lay_any R G _ _ _ _ _ _ _ W3.out R3.out L1.out K3.out hRG (by omega)).mono ?_
    rintro en w4 ⟨rfl, hw4, hr4, ht4, hs4⟩
    have W4 := hid_intro hw4
    have R4 := hid_intro hr4
    have V4 := hid_intro (V3.out.two ht4 hvb)
    have T4 := hid_intro (T3.out.trans ht4)
    have e1 : w4.cell? ⟨w.heap.size, 1, none⟩ = some (.slice bo m d) := (World.cell?_of_block (ht4.block w.heap.size (World.block_lt_of_cell? _ _ d1) HNE.out.1 HNE.out.2)).trans d1
    have e2 : w4.cell? ⟨w.heap.size, 2, none⟩ = some (.int .i64 (k : Int)) := (World.cell?_of_block (ht4.block w.heap.size (World.block_lt_of_cell? _ _ d1) HNE.out.1 HNE.out.2)).trans d2
    have e3 : w4.cell? ⟨w.heap.size, 3, none⟩ = some (.int .i64 f) := (World.cell?_of_block (ht4.block w.heap.size (World.block_lt_of_cell? _ _ d1) HNE.out.1 HNE.out.2)).trans d3
    clear hw4 hr4 ht4 hs4 W3 R3 K3 V3 T3 d1 d2 d3
    have L2 : Hid ((splice (splice cs q A) (q + l1) B).length = 4092) := by show _ = _; rw [splice_len (by rw [L1.out, HD.out]; omega)]; exact L1.out
    go_wp2_with fail
    refine (tagOf_any k _ hk5).mono ?_
    rintro en w5 ⟨rfl, rfl⟩
    rw [HT.out]
    go_wp2_with fail
    refine (P2.out _).mono ?_
    rintro en w5 ⟨rfl, hb5, hg5, hs5⟩
    have W5 := hid_intro (W4.out.kept hg5)
    have R5 := hid_intro (R4.out.keptN hg5)
    have B5 := hid_intro hb5
    have V5 := hid_intro (V4.out.keptN hg5)
    have T5 := hid_intro (T4.out.trans (Two.of_grown hg5))
    have b1 := hg5.cell e1 (by simp)
    have b2 := hg5.cell e2 (by simp)
    have b3 := hg5.cell e3 (by simp)
    clear hb5 hg5 hs5 W4 R4 V4 T4 e1 e2 e3
    go_wp2_with fail
    refine (lay_any R G _ _ _ _ _ _ _ W5.out R5.out L2.out B5.out hRG (by omega)).mono ?_
    rintro en w6 ⟨rfl, hw6, hr6, ht6, hs6⟩
    have W6 := hid_intro hw6
    have R6 := hid_intro hr6
    have V6 := hid_intro (V5.out.two ht6 hvb)
    have T6 := hid_intro (T5.out.trans ht6)
    have e1 : w6.cell? ⟨w.heap.size, 1, none⟩ = some (.slice bo m d) := (World.cell?_of_block (ht6.block w.heap.size (World.block_lt_of_cell? _ _ b1) HNE.out.1 HNE.out.2)).trans b1
    have e2 : w6.cell? ⟨w.heap.size, 2, none⟩ = some (.int .i64 (k : Int)) := (World.cell?_of_block (ht6.block w.heap.size (World.block_lt_of_cell? _ _ b1) HNE.out.1 HNE.out.2)).trans b2
    have e3 : w6.cell? ⟨w.heap.size, 3, none⟩ = some (.int .i64 f) := (World.cell?_of_block (ht6.block w.heap.size (World.block_lt_of_cell? _ _ b1) HNE.out.1 HNE.out.2)).trans b3
    clear hw6 hr6 ht6 hs6 W5 R5 B5 V5 T5 b1 b2 b3
    have L3 : Hid ((splice (splice (splice cs q A) (q + l1) B) (q + l1 + r) C).length = 4092) := by show _ = _; rw [splice_len (by rw [L2.out, HC.out]; omega)]; exact L2.out
    go_wp2_with fail
    refine (chained_any _ _).mono ?_
    rintro en w7 ⟨rfl, rfl⟩
    by_cases h5 : 512 < k
    · have hd : decide ((512 : Int) < (k : Int)) = true := decide_eq_true (by omega)
      rw [hd]
      have hy4 : y = 4 := by have := HYV.out; rw [if_pos (by omega), lb_len] at this; omega
      obtain ⟨fn, hfn⟩ : ∃ fn : Nat, f = (fn : Int) := ⟨f.toNat, by omega⟩
      subst hfn
      have HF2 : Hid (x.first.toNat = fn) := by show _ = _; rw [hf]; rfl
      go_wp2_with fail
      refine (put_u32_nil fn _ (by omega)).mono ?_
      rintro en w8 ⟨rfl, hb8, hg8, hs8⟩
      have W8 := hid_intro (W6.out.kept hg8)
      have R8 := hid_intro (R6.out.keptN hg8)
      have B8 := hid_intro hb8
      have T8 := hid_intro (T6.out.trans (Two.of_grown hg8))
      clear hb8 hg8 hs8 W6 R6 V6 T6
      go_wp2_with fail
      refine (lay_any R G _ _ _ _ _ _ _ W8.out R8.out L3.out B8.out hRG (by omega)).mono ?_
      rintro en w9 ⟨rfl, hw9, hr9, ht9, hs9⟩
      have W9 := hid_intro hw9
      have R9 := hid_intro hr9
      have T9 := hid_intro (T8.out.trans ht9)
      clear hw9 hr9 ht9 hs9 W8 R8 B8 T8
      go_wp2
      refine bodyPost_ret (results_none rfl _ _ _) rfl ?_
      refine ⟨rfl, ?_, ?_, T9.out⟩
      · rw [HCL.out, hy4]; exact (by have := W9.out; simpa [Nat.add_assoc] using this)
      · rw [HCB.out, if_pos (by omega), HF2.out, ← splice_four HA.out HD.out HC.out (by rw [lb_len, hcs]; omega)]
        exact R9.out
    · have hd : decide ((512 : Int) < (k : Int)) = false := decide_eq_false (by omega)
      rw [hd]
      obtain rfl : y = m := by have := HYV.out; rw [if_neg (by omega)] at this; omega
      go_wp2_with fail
      refine (lay_any R G _ _ _ _ _ _ _ W6.out R6.out L3.out V6.out hRG (by omega)).mono ?_
      rintro en w9 ⟨rfl, hw9, hr9, ht9, hs9⟩
      have W9 := hid_intro hw9
      have R9 := hid_intro hr9
      have T9 := hid_intro (T6.out.trans ht9)
      clear hw9 hr9 ht9 hs9 W6 R6 V6 T6
      go_wp2
      refine Go.Great.bodyPost_end0 rfl rfl ?_
      refine ⟨rfl, ?_, ?_, T9.out⟩
      · rw [HCL.out]; exact (by have := W9.out; simpa [Nat.add_assoc] using this)
      · rw [HCB.out, if_neg (by omega), ← splice_four HA.out HD.out HC.out (by rw [hcs]; omega)]
        exact R9.out
end Go.Proofs.Ytlfhonlifgpnhaa
