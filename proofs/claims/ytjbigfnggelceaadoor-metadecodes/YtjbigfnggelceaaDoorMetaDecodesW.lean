import Derived.Test.YtjbigfnggelceaaDoorMeV
import Derived.Laws.BitsAllLaws
namespace Go.Proofs.YtjbigfnggelceaaDoor
open Go.RowKit

theorem placeN (x : Int) (n : Nat) (h : 0 < n) : ∃ (k : Nat) (y : Int), k < n ∧ Int.tmod x (n : Int) = y ∧ -(n : Int) < y ∧ y < (n : Int) ∧ Int.tmod (y + (n : Int)) (n : Int) = (k : Int) := by
  have h1 := Int.tmod_lt_of_pos x (show (0 : Int) < (n : Int) by omega)
  have h2 := Int.lt_tmod_of_pos x (show (0 : Int) < (n : Int) by omega)
  have h3 := Int.emod_nonneg (Int.tmod x n + n) (show (n : Int) ≠ 0 by omega)
  have h4 := Int.emod_lt_of_pos (Int.tmod x n + n) (show (0 : Int) < (n : Int) by omega)
  refine ⟨((Int.tmod x n + n) % n).toNat, _, by omega, rfl, h2, h1, ?_⟩
  rw [Int.tmod_eq_emod_of_nonneg (by omega)]
  omega

theorem Bt.set4 {zs : List Int} (h : Bt zs) (j : Nat) (z : Int) (hz : 0 ≤ z ∧ z ≤ 255) : Bt (zs.set j z) := by
  intro y hy
  rcases List.mem_or_eq_of_mem_set hy with h1 | h1
  · exact h y h1
  · subst h1; exact hz
theorem xor_byte7 {z x : Int} (hz : 0 ≤ z ∧ z ≤ 255) (hx : 0 ≤ x ∧ x ≤ 255) : 0 ≤ bits .xor .u8 z x ∧ bits .xor .u8 z x ≤ 255 := by
  have e := u8_xor z x hz.1 (by omega) hx.1 (by omega)
  have hlt := Nat.xor_lt_two_pow (x := z.toNat) (y := x.toNat) (n := 8) (by omega) (by omega)
  rw [e]
  omega

set_option maxHeartbeats 2000000 in
set_option maxRecDepth 100000 in
theorem decodes7_any (g m cc n : Nat) (ys : List Int) (w : World) (hk : Mk w) (hb : Byt w (some ⟨g, 0, none⟩) m cc ys) (hbt : Bt ys) (hn : n ≤ m) (hm : m ≤ 100000) (hm0 : 0 < m) (hcc : m ≤ cc) (_hcm : cc ≤ 9223372036854775807) :
    Calls Tryd.prog 15 #[.slice (some ⟨g, 0, none⟩) m cc, .int .i64 n] w fun en w' => en = .returned (.bool true) ∧ w.grownBy w' none := by
  have HB := hid_intro hb
  have HK := hid_intro hk
  have hl := hb.len
  clear hb hk
  obtain ⟨⟨v, c, r, t, k, f, q⟩, hH⟩ : ∃ H, H = aH (ys.take n) := ⟨_, rfl⟩
  have HH := hid_intro hH
  obtain ⟨er, her⟩ : ∃ er, er = aE (ys.take n) := ⟨_, rfl⟩
  have HER := hid_intro her
  clear hH her
  go_enter Tryd.func15, Tryd.ntmps15
  go_wp2_with fail
  refine (refBytes_any _ m cc ys _ HB.out (by omega)).mono ?_
  rintro en w1 ⟨rfl, hown1, hg1, hs1⟩
  have W1 := hid_intro (Byt.of_owns hown1)
  have G1 := hid_intro hg1
  clear hown1 hg1
  have g1 : (n : Int) ≤ (m : Int) := by omega
  have g2 : (m : Int) ≤ (cc : Int) := by omega
  have g3 : (0 : Int) ≤ (n : Int) := by omega
  have B1 := hid_intro ((HB.out.keptN G1.out).take n m hn (fun e => by cases e))
  go_wp2_with fail
  refine (decode_any _ n m (ys.take n) _ B1.out (hbt.take n) (HK.out.keptN G1.out)).mono ?_
  rw [← HH.out, ← HER.out]
  rintro en w2 ⟨rfl, hg2⟩
  have G2 := hid_intro (grown_trans G1.out hg2)
  have W2 := hid_intro (W1.out.keptN hg2)
  clear hg2 G1 W1 B1
  go_upto_region 3 with fail
  have X3 := hid_intro (Hx.new w2 v c r t k f q)
  have gg := World.grownBy_alloc w2 (.cells #[.int .i64 v, .int .i64 c, .int .i64 r, .int .i64 t, .int .i64 k, .int .i64 f, .int .i64 q] 23) none
  have G3 := hid_intro (grown_trans G2.out gg)
  have W3 := hid_intro (W2.out.keptN gg)
  clear gg G2 W2
  generalize w2.alloc (.cells #[.int .i64 v, .int .i64 c, .int .i64 r, .int .i64 t, .int .i64 k, .int .i64 f, .int .i64 q] 23) = w3 at *
  generalize w2.heap.size = T at *
  go_wp2_with fail
  refine (same_yes _ _ _ _ _ _ _ _ _ (HB.out.keptN G3.out) W3.out rfl).mono ?_
  rintro en w3 ⟨rfl, rfl⟩
  have B3 := hid_intro (W3.out.take n m hn (fun e => by cases e))
  go_wp2_with fail
  refine (refDecode_any _ n m (ys.take n) _ B3.out (hbt.take n)).mono ?_
  rw [← HH.out, ← HER.out]
  rintro en w4 ⟨rfl, hg4⟩
  have G4 := hid_intro (grown_trans G3.out hg4)
  have X4 := hid_intro (X3.out.keptN hg4)
  clear hg4 G3 X3 W3 B3
  go_upto_region 5 with fail
  have Y5 := hid_intro (Hx.new w4 v c r t k f q)
  have gg := World.grownBy_alloc w4 (.cells #[.int .i64 v, .int .i64 c, .int .i64 r, .int .i64 t, .int .i64 k, .int .i64 f, .int .i64 q] 23) none
  have G5 := hid_intro (grown_trans G4.out gg)
  have X5 := hid_intro (X4.out.keptN gg)
  clear gg G4 X4
  generalize w4.alloc (.cells #[.int .i64 v, .int .i64 c, .int .i64 r, .int .i64 t, .int .i64 k, .int .i64 f, .int .i64 q] 23) = w5 at *
  generalize w4.heap.size = S at *
  obtain ⟨c0, c1, c2, c3, c4, c5, c6⟩ := X5.out.cells
  obtain ⟨d0, d1, d2, d3, d4, d5, d6⟩ := Y5.out.cells
  go_wp2_with fail
  refine (sameHead_yes v c r t k f q _).mono ?_
  rintro en w6 ⟨rfl, hg6⟩
  have G6 := hid_intro (grown_trans G5.out hg6)
  clear hg6 G5 X5 Y5 c0 c1 c2 c3 c4 c5 c6 d0 d1 d2 d3 d4 d5 d6
  go_wp2_with fail
  refine (num7_any _ _).mono ?_
  rintro en w6 ⟨rfl, rfl⟩
  go_wp2
  go_ret
  exact ⟨rfl, G6.out⟩

set_option maxHeartbeats 2000000 in
set_option maxRecDepth 100000 in
theorem metaDecodes_walk (bo : Option Addr) (n c : Nat) (zs : List Int) (pl x : Int) (w : World) (hb : Byt w bo n c zs) (hbt : Bt zs) (_hbc : n ≤ c) (_hbm : c ≤ 9223372036854775807) (_hp : (Lit.int .i64 pl).wf = true) (hx : (Lit.int .u8 x).wf = true) (hk : Mk w) :
    Calls Tryd.prog 4 #[.slice bo n c, .int .i64 pl, .int .u8 x] w fun en w' => en = .returned (.bool true) ∧ w.grownBy w' none := by
  have hxb := bounds_u8 hx
  have HK := hid_intro hk
  clear hk
  have HB := hid_intro hb
  have hl := hb.len
  clear hb
  go_enter Tryd.func4, Tryd.ntmps4
  go_wp2_with fail
  refine (first7_any _ HK.out).mono ?_
  rintro en w1 ⟨rfl, hg1⟩
  have G1 := hid_intro hg1
  clear hg1
  by_cases h1 : 65536 < n
  · have h1' : (65536 : Int) < (n : Int) := by omega
    go_wp2
    go_ret
    exact ⟨rfl, G1.out⟩
  · have h1' : ¬ (65536 : Int) < (n : Int) := by omega
    go_wp2_with fail
    refine (refBytes_any bo n c zs _ (HB.out.keptN G1.out) (by omega)).mono ?_
    rintro en w2 ⟨rfl, hown2, hg2, hs2⟩
    have O2 := hid_intro (hown2.alloc (.cells #[.int .u8 161, .int .u8 162] 5))
    have hown2' := hown2
    have HG2 := hid_intro hg2
    have BL := hid_intro (Byt.lit w2 5 #[.int .u8 161, .int .u8 162] [161, 162] 2 rfl rfl)
    clear hown2 hg2
    have hw1 : w.heap.size ≤ w1.heap.size := G1.out.size
    go_wp2_with (at_builtin; refine wpList_append_byt rfl _ _ rfl w1.heap.size _ n zs rfl O2.out (some ⟨w2.heap.size, 0, none⟩) 2 2 [161, 162] rfl BL.out (by omega) (by simp; omega) ?_)
    intro v3 w3 ho3 hg3
    have ho3' : w3.ownsRow w1.heap.size 5 1 v3 (n + 2) ((zs ++ [161, 162]).map (Value.int .u8)) := by simpa using ho3
    obtain ⟨g, cc, rfl, hgb, hgl, hgc⟩ := owns_shape ho3' (by omega)
    obtain ⟨hOw, _, _, _⟩ := Ow.of_owns ho3'
    have HG3 := hid_intro (grown_trans G1.out (grown_own HG2.out hown2' (Nat.le_refl _) hg3))
    have HOW := hid_intro hOw
    have hmx := hOw.max
    have HZB : Hid (Bt (zs ++ [161, 162])) := hbt.app (by intro y hy; simp at hy; omega)
    have HZL : Hid ((zs ++ [161, 162]).length = n + 2) := by show _ = _; rw [List.length_append]; simp [hl]
    clear hg3 ho3 ho3' hOw HG2 O2 BL hown2' G1
    generalize zs ++ [161, 162] = ys at *
    have B3 := hid_intro (HOW.out.byt (n + 2) HZL.out.symm)
    obtain ⟨m, hm⟩ : ∃ m, n + 2 = m := ⟨_, rfl⟩
    have hm1 : n + 2 ≤ m := by omega
    have hm2 : m ≤ 70000 := by omega
    rw [hm] at B3 HZL ⊢
    have hmc : m ≤ cc := by omega
    clear hm
    go_wp2_with fail
    refine (decodes7_any g m cc n ys _ (HK.out.keptN HG3.out) B3.out HZB.out (by omega) (by omega) (by omega) hmc hmx).mono ?_
    rintro en w4 ⟨rfl, hg4⟩
    have G4 := hid_intro (grown_trans HG3.out hg4)
    have W4 := hid_intro (HOW.out.keptN hg4)
    clear hg4 HG3 HOW B3
    by_cases h0 : n = 0
    · have h0' : (n : Int) = 0 := by omega
      go_wp2
      go_ret
      exact ⟨rfl, G4.out⟩
    · have h0' : ¬ (n : Int) = 0 := by omega
      have h0d : ((n : Int) == 0) = false := by simp; omega
      obtain ⟨j, z, hj, hz, hz1, hz2, hj2⟩ := placeN pl n (by omega)
      have cb := W4.out.cell (j := j) (by have := HZL.out; omega)
      have cf := W4.out.frozen j
      have hxy := xor_byte7 (HZB.out.getD j) hxb
      have W5 := hid_intro (W4.out.set j (bits .xor .u8 (ys.getD j 0) x) (by have := HZL.out; omega))
      have HZB5 : Hid (Bt (ys.set j (bits .xor .u8 (ys.getD j 0) x))) := HZB.out.set4 j _ hxy
      have HZL5 : Hid ((ys.set j (bits .xor .u8 (ys.getD j 0) x)).length = m) := by show _ = _; rw [List.length_set]; exact HZL.out
      have G5 := hid_intro (grown_new G4.out (grown_cell w4 g j (.int .u8 (bits .xor .u8 (ys.getD j 0) x))) (by omega))
      generalize ys.set j (bits .xor .u8 (ys.getD j 0) x) = ys' at *
      generalize ys.getD j 0 = by0 at *
      have g5 : (0 : Int) ≤ (j : Int) := by omega
      have g6 : (j : Int) < (m : Int) := by omega
      have hw9 : IntKind.i64.wrap (z + (n : Int)) = z + (n : Int) := by simp [IntKind.wrap, IntKind.bits, IntKind.signed]; omega
      go_wp2_with fail
      generalize w4.setCell ⟨g, j, none⟩ (.int .u8 (bits .xor .u8 by0 x)) = w5 at *
      have B5 := hid_intro (W5.out.byt m HZL5.out.symm)
      refine (decodes7_any g m cc n ys' _ (HK.out.keptN G5.out) B5.out HZB5.out (by omega) (by omega) (by omega) hmc hmx).mono ?_
      rintro en w6 ⟨rfl, hg6⟩
      have G6 := hid_intro (grown_trans G5.out hg6)
      clear hg6
      go_wp2
      go_ret
      exact ⟨rfl, G6.out⟩
end Go.Proofs.YtjbigfnggelceaaDoor
