import Derived.Test.YtjbigfnggelceaaDoorMeY
import Derived.Test.YtjbigfnggelceaaDoorMe4
import Derived.Test.YtjbigfnggelceaaDoorRefB
import Derived.Test.YtjbigfnggelceaaDoorPuts
namespace Go.Proofs.YtjbigfnggelceaaDoor
open Go.RowKit

set_option maxHeartbeats 1000000 in
set_option maxRecDepth 100000 in
theorem refPut_own (ao : Option Addr) (n cap : Nat) (zs : List Int) (x d : Nat) (w : World) (hb : Byt w ao n cap zs) (hn : n ≤ 1099511627776) (_hx : x < 18446744073709551616) (hd : d ≤ 8) :
    Calls Tryd.prog 24 #[.slice ao n cap, .int .u64 x, .int .i64 d] w fun e w' => ∃ ao' cap', e = .returned (.slice ao' (n + d) cap') ∧ w'.ownsRow w.heap.size 5 1 (.slice ao' (n + d) cap') (n + d) ((zs ++ lb d x).map (Value.int .u8)) ∧ w.grownBy w' none ∧ w.heap.size ≤ w'.heap.size := by
  go_enter Tryd.func24, Tryd.ntmps24
  go_wp2_with fail
  refine (refBytes_any ao n cap zs _ hb (by omega)).mono ?_
  rintro en w0 ⟨rfl, hown0, hg0, hs0⟩
  clear hb
  go_wp2
  go_loopw [7, 8] (fun out si wr => ∃ (k : Nat), k ≤ d ∧ si = .int .i64 k ∧ wr.ownsRow w.heap.size 5 1 out (n + k) ((zs ++ lb k x).map (Value.int .u8)) ∧ w.grownBy wr none) (fun _ si _ => d - (intOf si).toNat)
  case atStart => exact ⟨0, by omega, rfl, by simpa [lb] using hown0, hg0⟩
  case round =>
    obtain ⟨k, hk, rfl, hown, hg⟩ := hrel
    by_cases hlt : k < d
    · go_wp2_with (at_builtin; refine wpList_append_byt rfl _ _ rfl w.heap.size _ (n + k) (zs ++ lb k x) rfl (hown.alloc _) (some ⟨wr.heap.size, 0, none⟩) 1 1 [(x : Int) / 2 ^ (8 * k) % 256] rfl (Byt.lit wr 5 _ [(x : Int) / 2 ^ (8 * k) % 256] 1 rfl rfl) (by omega) (by have := hg.size; simp; omega) ?_)
      intro v' w1 h1 h2
      have hg2 := grown_own hg hown (Nat.le_refl _) h2
      have hown2 : w1.ownsRow w.heap.size 5 1 v' (n + (k + 1)) ((zs ++ lb (k + 1) x).map (Value.int .u8)) := by
        rw [lb_snoc, List.map_append, List.map_append, ← Nat.add_assoc, ← shift_byte]
        simpa using h1
      clear h1 h2 hown
      go_wp2
      go_roundw
      case rel => exact ⟨k + 1, by omega, by go_num, hown2, hg2⟩
      case measure => simp [intOf]; omega
    · have hkd : k = d := by omega
      subst hkd
      obtain ⟨ao', cap', hv, hB⟩ := owns_any hown
      subst hv
      have HB := hid_intro hown
      have HG : Hid (w.grownBy wr none) := hg
      clear hB hown hg
      go_wp2
      go_ret
      exact ⟨_, _, rfl, HB.out, HG.out, HG.out.size⟩


theorem rp (ao : Option Addr) (n c m : Nat) (zs : List Int) (x d : Nat) (w : World) (hb : Byt w ao n c zs) (hn : n ≤ 100) (hx : x < 18446744073709551616) (hd : d ≤ 8) (hm : m = n + d) :
    Calls Tryd.prog 24 #[.slice ao n c, .int .u64 x, .int .i64 d] w fun e w' => ∃ ao' c', e = .returned (.slice ao' m c') ∧ Byt w' ao' m c' (zs ++ lb d x) ∧ w.grownBy w' none := by
  subst hm
  exact refPut_any ao n c zs x d w hb (by omega) hx hd
theorem rpo (ao : Option Addr) (n c m : Nat) (zs : List Int) (x d : Nat) (w : World) (hb : Byt w ao n c zs) (hn : n ≤ 100) (hx : x < 18446744073709551616) (hd : d ≤ 8) (hm : m = n + d) :
    Calls Tryd.prog 24 #[.slice ao n c, .int .u64 x, .int .i64 d] w fun e w' => ∃ ao' c', e = .returned (.slice ao' m c') ∧ w'.ownsRow w.heap.size 5 1 (.slice ao' m c') m ((zs ++ lb d x).map (Value.int .u8)) ∧ w.grownBy w' none := by
  subst hm
  refine (refPut_own ao n c zs x d w hb (by omega) hx hd).mono ?_
  rintro e w' ⟨a, b, h1, h2, h3, _⟩
  exact ⟨a, b, h1, h2, h3⟩

set_option maxHeartbeats 2000000 in
set_option maxRecDepth 100000 in
theorem refEncode_no (v c r t k f n : Int) (w : World) (hm : may ⟨v, c, r, t, k, f, n⟩ = false) :
    Calls Tryd.prog 11 #[.agg #[.int .i64 v, .int .i64 c, .int .i64 r, .int .i64 t, .int .i64 k, .int .i64 f, .int .i64 n]] w fun en w' => en = .returned (.tuple #[.slice none 0 0, .int .i64 71]) ∧ w.grownBy w' none := by
  have HM := hid_intro hm
  clear hm
  go_enter Tryd.func11, Tryd.ntmps11
  go_wp2_with fail
  have G1 := hid_intro (World.grownBy_alloc w (.cells #[.int .i64 v, .int .i64 c, .int .i64 r, .int .i64 t, .int .i64 k, .int .i64 f, .int .i64 n] 23) none)
  generalize w.alloc (.cells #[.int .i64 v, .int .i64 c, .int .i64 r, .int .i64 t, .int .i64 k, .int .i64 f, .int .i64 n] 23) = w1 at *
  refine (refMay_any v c r t k f n _).mono ?_
  rintro en w2 ⟨rfl, hg2⟩
  rw [HM.out]
  have G2 := hid_intro (grown_trans G1.out hg2)
  clear hg2 G1
  go_wp2
  go_ret2
  exact ⟨rfl, G2.out⟩

set_option maxHeartbeats 4000000 in
set_option maxRecDepth 100000 in
theorem refEncode_yes (v c r t k f n : Nat) (w : World) (hm : may ⟨v, c, r, t, k, f, n⟩ = true) :
    Calls Tryd.prog 11 #[.agg #[.int .i64 v, .int .i64 c, .int .i64 r, .int .i64 t, .int .i64 k, .int .i64 f, .int .i64 n]] w fun en w' => ∃ ao cp, en = .returned (.tuple #[.slice ao 4092 cp, .int .i64 0]) ∧ Byt w' ao 4092 cp (mB ⟨v, c, r, t, k, f, n⟩) ∧ w.grownBy w' none := by
  have hb := may_bounds hm
  simp only at hb
  have HM := hid_intro hm
  have hv : v < 18446744073709551616 := by omega
  have hc : c < 18446744073709551616 := by omega
  have hr : r < 18446744073709551616 := by omega
  have ht : t < 18446744073709551616 := by omega
  have hk : k < 18446744073709551616 := by omega
  have hf : f < 18446744073709551616 := by omega
  have hn : n < 18446744073709551616 := by omega
  have wv : IntKind.u64.wrap (v : Int) = (v : Int) := by simp [IntKind.wrap, IntKind.bits, IntKind.signed]; omega
  have wc : IntKind.u64.wrap (c : Int) = (c : Int) := by simp [IntKind.wrap, IntKind.bits, IntKind.signed]; omega
  have wrr : IntKind.u64.wrap (r : Int) = (r : Int) := by simp [IntKind.wrap, IntKind.bits, IntKind.signed]; omega
  have wt : IntKind.u64.wrap (t : Int) = (t : Int) := by simp [IntKind.wrap, IntKind.bits, IntKind.signed]; omega
  have wk : IntKind.u64.wrap (k : Int) = (k : Int) := by simp [IntKind.wrap, IntKind.bits, IntKind.signed]; omega
  have wf : IntKind.u64.wrap (f : Int) = (f : Int) := by simp [IntKind.wrap, IntKind.bits, IntKind.signed]; omega
  have wn : IntKind.u64.wrap (n : Int) = (n : Int) := by simp [IntKind.wrap, IntKind.bits, IntKind.signed]; omega
  clear hb hm
  obtain ⟨P, hP⟩ : ∃ P, P = kb4 ++ nb ⟨v, c, r, t, k, f, n⟩ := ⟨_, rfl⟩
  have HP : Hid ([5, 99, 111, 112] ++ lb 8 v ++ lb 4 c ++ lb 4 r ++ lb 1 t ++ lb 8 k ++ lb 4 f ++ lb 4 n = P) := by
    show _ = _
    rw [hP]
    simp [nb, kb4]
  have HMB : Hid (P ++ (List.replicate 4051 0 ++ [101, 110, 100, 46]) = mB ⟨v, c, r, t, k, f, n⟩) := by
    show _ = _
    rw [hP, List.append_assoc]
    rfl
  clear hP
  generalize mB ⟨v, c, r, t, k, f, n⟩ = M at *
  go_enter Tryd.func11, Tryd.ntmps11
  go_wp2_with fail
  have G1 := hid_intro (World.grownBy_alloc w (.cells #[.int .i64 v, .int .i64 c, .int .i64 r, .int .i64 t, .int .i64 k, .int .i64 f, .int .i64 n] 23) none)
  have X1 := hid_intro (Hx.new w v c r t k f n)
  generalize w.alloc (.cells #[.int .i64 v, .int .i64 c, .int .i64 r, .int .i64 t, .int .i64 k, .int .i64 f, .int .i64 n] 23) = w1 at *
  refine (refMay_any v c r t k f n _).mono ?_
  rintro en w2 ⟨rfl, hg2⟩
  rw [HM.out]
  have G2 := hid_intro (grown_trans G1.out hg2)
  have X2 := hid_intro (X1.out.keptN hg2)
  clear hg2 G1 X1 HM
  go_upto_region 5 with fail
  have B3 := hid_intro (Byt.lit w2 5 #[.int .u8 5, .int .u8 99, .int .u8 111, .int .u8 112] [5, 99, 111, 112] 4 rfl rfl)
  have gg := World.grownBy_alloc w2 (.cells #[.int .u8 5, .int .u8 99, .int .u8 111, .int .u8 112] 5) none
  have G3 := hid_intro (grown_trans G2.out gg)
  have X3 := hid_intro (X2.out.keptN gg)
  clear gg G2 X2
  generalize w2.alloc (.cells #[.int .u8 5, .int .u8 99, .int .u8 111, .int .u8 112] 5) = w3 at *
  obtain ⟨c0, c1, c2, c3, c4, c5, c6⟩ := X3.out.cells
  go_wp2_with fail
  refine (rp _ 4 _ 12 _ v 8 _ B3.out (by omega) hv (by omega) rfl).mono ?_
  rintro en w4 ⟨a4, q4, rfl, hb4, hg4⟩
  have B4 := hid_intro hb4
  have G4 := hid_intro (grown_trans G3.out hg4)
  have X4 := hid_intro (X3.out.keptN hg4)
  clear hb4 hg4 B3 G3 X3 c0 c1 c2 c3 c4 c5 c6
  obtain ⟨c0, c1, c2, c3, c4, c5, c6⟩ := X4.out.cells
  go_wp2_with fail
  refine (rp _ 12 _ 16 _ c 4 _ B4.out (by omega) hc (by omega) rfl).mono ?_
  rintro en w5 ⟨a5, q5, rfl, hb5, hg5⟩
  have B5 := hid_intro hb5
  have G5 := hid_intro (grown_trans G4.out hg5)
  have X5 := hid_intro (X4.out.keptN hg5)
  clear hb5 hg5 B4 G4 X4 c0 c1 c2 c3 c4 c5 c6
  obtain ⟨c0, c1, c2, c3, c4, c5, c6⟩ := X5.out.cells
  go_wp2_with fail
  refine (rp _ 16 _ 20 _ r 4 _ B5.out (by omega) hr (by omega) rfl).mono ?_
  rintro en w6 ⟨a6, q6, rfl, hb6, hg6⟩
  have B6 := hid_intro hb6
  have G6 := hid_intro (grown_trans G5.out hg6)
  have X6 := hid_intro (X5.out.keptN hg6)
  clear hb6 hg6 B5 G5 X5 c0 c1 c2 c3 c4 c5 c6
  obtain ⟨c0, c1, c2, c3, c4, c5, c6⟩ := X6.out.cells
  go_wp2_with fail
  refine (rp _ 20 _ 21 _ t 1 _ B6.out (by omega) ht (by omega) rfl).mono ?_
  rintro en w7 ⟨a7, q7, rfl, hb7, hg7⟩
  have B7 := hid_intro hb7
  have G7 := hid_intro (grown_trans G6.out hg7)
  have X7 := hid_intro (X6.out.keptN hg7)
  clear hb7 hg7 B6 G6 X6 c0 c1 c2 c3 c4 c5 c6
  obtain ⟨c0, c1, c2, c3, c4, c5, c6⟩ := X7.out.cells
  go_wp2_with fail
  refine (rp _ 21 _ 29 _ k 8 _ B7.out (by omega) hk (by omega) rfl).mono ?_
  rintro en w8 ⟨a8, q8, rfl, hb8, hg8⟩
  have B8 := hid_intro hb8
  have G8 := hid_intro (grown_trans G7.out hg8)
  have X8 := hid_intro (X7.out.keptN hg8)
  clear hb8 hg8 B7 G7 X7 c0 c1 c2 c3 c4 c5 c6
  obtain ⟨c0, c1, c2, c3, c4, c5, c6⟩ := X8.out.cells
  go_wp2_with fail
  refine (rp _ 29 _ 33 _ f 4 _ B8.out (by omega) hf (by omega) rfl).mono ?_
  rintro en w9 ⟨a9, q9, rfl, hb9, hg9⟩
  have B9 := hid_intro hb9
  have G9 := hid_intro (grown_trans G8.out hg9)
  have X9 := hid_intro (X8.out.keptN hg9)
  clear hb9 hg9 B8 G8 X8 c0 c1 c2 c3 c4 c5 c6
  obtain ⟨c0, c1, c2, c3, c4, c5, c6⟩ := X9.out.cells
  go_wp2_with fail
  refine (rpo _ 33 _ 37 _ n 4 _ B9.out (by omega) hn (by omega) rfl).mono ?_
  rintro en w10 ⟨a10, q10, rfl, ho10, hg10⟩
  rw [HP.out] at ho10
  have O10 : Hid (w10.ownsRow w9.heap.size 5 1 (.slice a10 37 q10) (37 + 0) ((P ++ List.replicate 0 0).map (Value.int .u8))) := by rw [List.replicate_zero, List.append_nil]; exact ho10
  have SB := hid_intro G9.out.size
  have SB2 := hid_intro hg10.size
  have G10 := hid_intro (grown_trans G9.out hg10)
  clear ho10 hg10 B9 G9 X9 c0 c1 c2 c3 c4 c5 c6 HP
  generalize w9.heap.size = bs at *
  go_wp2
  go_loopw [5] (fun out wr => ∃ k : Nat, 37 + k ≤ 4088 ∧ wr.ownsRow bs 5 1 out (37 + k) ((P ++ List.replicate k 0).map (Value.int .u8)) ∧ w.grownBy wr none ∧ bs ≤ wr.heap.size) (fun out _ => 4088 - (match out with | .slice _ l _ => l | _ => 0))
  case atStart => exact ⟨0, by omega, O10.out, G10.out, SB2.out⟩
  case round =>
    obtain ⟨j, hj, ho, hg, hsz⟩ := hrel
    obtain ⟨ao, cp, hv', hB⟩ := owns_any ho
    subst hv'
    by_cases hlt : 37 + j < 4088
    · have hg1 := World.grownBy_alloc wr (.cells #[.int .u8 0] 5) none
      have HBL := hid_intro (Byt.lit wr 5 _ [0] 1 rfl rfl)
      have O7 := hid_intro (ho.alloc (.cells #[.int .u8 0] 5))
      have G7 := hid_intro (grown_trans hg hg1)
      have S7 := hid_intro (Nat.le_trans hsz hg1.size)
      have HOO := hid_intro ho
      have HGG := hid_intro hg
      obtain ⟨N, hN⟩ : ∃ N, N = 37 + j := ⟨_, rfl⟩
      rw [← hN] at O7 hlt hB hj HOO ⊢
      have HNN := hid_intro hN
      clear hg1 ho hg hB hN hsz
      have hlt2 : (N : Int) < 4088 := by omega
      go_wp2_with (at_builtin; refine wpList_append_byt rfl _ _ rfl bs _ N (P ++ List.replicate j 0) rfl O7.out (some ⟨wr.heap.size, 0, none⟩) 1 1 [0] rfl HBL.out (by omega) S7.out ?_)
      intro v8 w8 h8 g8
      have hg8 := grown_own HGG.out HOO.out SB.out g8
      have S8 := hid_intro (Nat.le_trans S7.out g8.size)
      have h8' : w8.ownsRow bs 5 1 v8 (N + 1) ((P ++ List.replicate (j + 1) 0).map (Value.int .u8)) := by
        rw [List.replicate_succ', ← List.append_assoc, List.map_append]
        simpa using h8
      have O8 := hid_intro h8'
      have G8 := hid_intro hg8
      obtain ⟨ao8, c8, hv8, _⟩ := owns_any h8'
      subst hv8
      clear h8 h8' g8 hg8 O7 G7 HBL S7
      go_wp2
      go_roundw
      case rel =>
        refine ⟨j + 1, by have := HNN.out; omega, ?_, G8.out, S8.out⟩
        rw [← Nat.add_assoc, ← HNN.out]
        exact O8.out
      case measure => simp; omega
    · obtain rfl : j = 4051 := by omega
      have hg1 := World.grownBy_alloc wr (.cells #[.int .u8 101, .int .u8 110, .int .u8 100, .int .u8 46] 5) none
      have HBL := hid_intro (Byt.lit wr 5 #[.int .u8 101, .int .u8 110, .int .u8 100, .int .u8 46] [101, 110, 100, 46] 4 rfl rfl)
      have O7 := hid_intro (ho.alloc (.cells #[.int .u8 101, .int .u8 110, .int .u8 100, .int .u8 46] 5))
      have S7 := hid_intro (Nat.le_trans hsz hg1.size)
      have HOO := hid_intro ho
      have HGG := hid_intro hg
      clear hg1 ho hg hB hsz hj hlt
      obtain ⟨Y, hY⟩ : ∃ Y, Y = P ++ List.replicate 4051 0 := ⟨_, rfl⟩
      rw [← hY] at O7 HOO
      have HY := hid_intro hY
      clear hY
      go_wp2_with (at_builtin; refine wpList_append_byt rfl _ _ rfl bs _ 4088 Y rfl O7.out (some ⟨wr.heap.size, 0, none⟩) 4 4 [101, 110, 100, 46] rfl HBL.out (by omega) S7.out ?_)
      intro v8 w8 h8 g8
      have G8 := hid_intro (grown_own HGG.out HOO.out SB.out g8)
      have h8' : w8.ownsRow bs 5 1 v8 4092 ((Y ++ [101, 110, 100, 46]).map (Value.int .u8)) := by rw [List.map_append]; exact h8
      obtain ⟨ao8, c8, hv8, hB8⟩ := owns_any h8'
      subst hv8
      have B8 : Hid (Byt w8 ao8 4092 c8 M) := by
        show Byt _ _ _ _ _
        rw [← HMB.out, ← List.append_assoc, ← HY.out]
        exact hB8
      clear h8 h8' g8 hB8 O7 HBL S7
      go_wp2
      go_ret2
      exact ⟨_, _, rfl, B8.out, G8.out⟩
end Go.Proofs.YtjbigfnggelceaaDoor
