import Derived.Test.YtkiopabcnemgnaaGreatDoorK30
import Derived.Deep.CutBlock
set_option maxRecDepth 100000
set_option maxHeartbeats 2000000
namespace Go.Proofs.YtkiopabcnemgnaaGreatDoor
open Go.RowKit
theorem number6_any (x d : Nat) (w : World) (hd : d ≤ 4) :
  Calls Tryz.prog 99 #[.int .i64 x, .int .i64 d] w fun e w' => ∃ ao c, e = .returned (.slice ao d c) ∧ Byt w' ao d c (lb d x) ∧ w.grownBy w' none := by
 go_enter Tryz.func99, Tryz.ntmps99;go_wp2;go_loopw [5, 6] (fun out si wr => ∃ (k : Nat), k ≤ d ∧ si = .int .i64 k ∧ wr.ownsRow w.heap.size 5 1 out k ((lb k x).map (Value.int .u8)) ∧ w.grownBy wr none) (fun _ si _ => d - (intOf si).toNat)
 case atStart => exact ⟨0, by omega, rfl, World.ownsRow_nil _ _ _ _, World.grownBy.refl _ _⟩
 case round =>
  obtain ⟨k, hk, rfl, hown, hg⟩ := hrel
  by_cases hlt : k < d
  ·go_wp2_with (at_builtin; refine wpList_append_byt rfl _ _ rfl w.heap.size _ k (lb k x) rfl (hown.alloc _) (some ⟨wr.heap.size, 0, none⟩) 1 1 [(x : Int) / 2 ^ (8 * k) % 256] rfl (Byt.lit wr 5 _ [(x : Int) / 2 ^ (8 * k) % 256] 1 rfl rfl) (by omega) (by have := hg.size; simp; omega) ?_)
   intro v' w1 h1 h2;have hg2 := grown_own hg hown (Nat.le_refl _) h2
   have hown2 : w1.ownsRow w.heap.size 5 1 v' (k + 1) ((lb (k + 1) x).map (Value.int .u8)) := by
    rw [lb_snoc, List.map_append, ← shift_byte];simpa using h1
   clear h1 h2 hown;go_wp2;go_roundw
   case rel => exact ⟨k + 1, by omega, by go_num, hown2, hg2⟩
   case measure => simp [intOf]; omega
  ·have hkd : k = d := by omega
   subst hkd;obtain ⟨ao', cap', hv, hB⟩ := owns_any hown;subst hv;have HB := hJ hB;have HG := hJ hg;clear hB hown hg;go_wp2;go_ret;exact ⟨_, _, rfl, HB.out, HG.out⟩
theorem number_at (X : Int) (x d : Nat) (w : World) (hX : X = (x : Int)) (hd : d ≤ 4) :
  Calls Tryz.prog 99 #[.int .i64 X, .int .i64 d] w fun e w' => ∃ ao c, e = .returned (.slice ao d c) ∧ Byt w' ao d c (lb d x) ∧ w.grownBy w' none := by
 subst hX;exact number6_any x d w hd
theorem le_zero (zs : List Int) : le 0 zs = 0 := by simp [le]
theorem le_rev {zs : List Int} {p k : Nat} (h : p < zs.length) : le (k + 1) (zs.drop p) = (zs.getD p 0).toNat + 256 * le k (zs.drop (p + 1)) := by
 rw [List.drop_eq_getElem_cons h];simp [le, List.getD, List.getElem?_eq_getElem h]
theorem read_any (ao : Option Addr) (n cap at_ k : Nat) (P : Int) (zs : List Int) (w : World) (hb : Byt w ao n cap zs) (hbt : Bt zs) (hk : at_ + k ≤ n) (hk4 : k ≤ 4) (hn : n ≤ 1000000) (hP : P = (at_ : Int)) :
  Calls Tryz.prog 67 #[.slice ao n cap, .int .i64 P, .int .i64 k] w fun e w' => e = .returned (.int .i64 (le k (zs.drop at_) : Nat)) ∧ w' = w := by
 subst hP;have hl := hb.len;have HB := hJ hb;clear hb;go_enter Tryz.func67, Tryz.ntmps67;go_wp2;go_loopw [7, 8] (fun sx si wr => ∃ j y : Nat, j ≤ k ∧ si = .int .i64 ((k : Int) - 1 - j) ∧ sx = .int .i64 y ∧ y = le j (zs.drop (at_ + (k - j))) ∧ wr = w) (fun _ si _ => (intOf si + 1).toNat)
 case atStart => exact ⟨0, 0, Nat.zero_le _, by simp, rfl, by rw [le_zero], rfl⟩
 case round =>
  obtain ⟨j, y, hj, rfl, rfl, hy, rfl⟩ := hrel;have hy4 : y < 256 ^ j := by rw [hy]; exact le_lt j _ (hbt.drop _)
  have HY := hJ hy;clear hy
  by_cases hlt : j < k
  ·obtain ⟨b, off, rfl, _, hc⟩ := HB.out.at (by omega)
   have c0 := hc (at_ + (k - (j + 1))) (by omega);have hz := hbt.getD (at_ + (k - (j + 1)))
   have HX : Hid (le (j + 1) (zs.drop (at_ + (k - (j + 1)))) = (zs.getD (at_ + (k - (j + 1))) 0).toNat + 256 * y) := by
    show _ = _
    rw [le_rev (by omega), HY.out];have : at_ + (k - (j + 1)) + 1 = at_ + (k - j) := by omega
    rw [this]
   generalize zs.getD (at_ + (k - (j + 1))) 0 = z at *;clear hc
   have hpow : 256 ^ j ≤ 16777216 := by
    have : j ≤ 3 := by omega
    exact Nat.le_trans (Nat.pow_le_pow_right (by omega) this) (by decide)
   obtain ⟨q, hq⟩ : ∃ q : Nat, at_ + (k - (j + 1)) = q := ⟨_, rfl⟩;have HX0 := hJ hq;rw [hq] at c0 HX;have e1 : (at_ : Int) + ((k : Int) - 1 - (j : Int)) = (q : Int) := by omega
   have e2 : (0 : Int) ≤ (k : Int) - 1 - (j : Int) := by omega
   go_wp2;go_roundw
   case rel =>
    refine ⟨j + 1, z.toNat + 256 * y, by omega, by congr 1; omega, by congr 1; omega, ?_, by trivial⟩;rw [HX0.out];exact HX.out.symm
   case measure => simp [intOf]; omega
  ·have hjk : j = k := by omega
   subst hjk;rw [Nat.sub_self, Nat.add_zero] at HY;go_wp2;go_ret;exact ⟨by rw [← HY.out]; rfl, rfl⟩
theorem own_kept6 {w w' : World} {base n sz : Nat} {e : TypeId} {v : Value} {xs : List Value} (h : w.ownsRow base e sz v n xs) (hg : w.grownBy w' none) : w'.ownsRow base e sz v n xs :=
 h.kept hg (by cases v.ownBlock with | none => exact .inl rfl | some g => exact .inr (by simp))
theorem own_lt6 {w : World} {base n sz : Nat} {e : TypeId} {v : Value} {xs : List Value} (h : w.ownsRow base e sz v n xs) (g : Nat) (hv : v.ownBlock = some g) : base ≤ g := (h.lt g hv).1
theorem grown_own6 {a b c : World} {base n sz : Nat} {e : TypeId} {v : Value} {xs : List Value} (h : a.grownBy b none) (k : b.grownBy c v.ownBlock) (ho : b.ownsRow base e sz v n xs) (hb : a.heap.size ≤ base) : a.grownBy c none :=
 grown_ownN h k (fun g hg => Nat.le_trans hb (own_lt6 ho g hg))
theorem body_any (kd x n : Nat) (ro : Option Addr) (m rc : Nat) (zs : List Int) (w : World) (hb : Byt w ro m rc zs) (hm : m ≤ 4085) (hk : kd < 256) :
  Calls Tryz.prog 98 #[.int .i64 kd, .int .i64 x, .int .i64 n, .slice ro m rc] w fun e w' => ∃ ao c, e = .returned (.slice ao 4092 c) ∧ Byt w' ao 4092 c (hd kd x n ++ (zs ++ List.replicate (4085 - m) 0)) ∧ w.grownBy w' none := by
 have HB := hJ hb;have hl := hb.len;clear hb;have hwk : IntKind.u8.wrap (kd : Int) = (kd : Int) := by simp [IntKind.wrap, IntKind.bits, IntKind.signed]; omega
 have HO : Hid ((w.alloc (.cells #[.int .u8 (kd : Int)] 5)).ownsRow w.heap.size 5 1 (.slice (some ⟨w.heap.size, 0, none⟩) 1 1) 1 ([(kd : Int)].map (Value.int .u8))) :=
  ⟨rfl, .inr ⟨w.heap.size, 1, #[.int .u8 (kd : Int)], rfl, Nat.le_refl _, heap_alloc_new w _, Nat.le_refl _, by decide, rfl, rfl⟩⟩
 have G1 := hJ (World.grownBy_alloc w (.cells #[.int .u8 (kd : Int)] 5) none);go_enter Tryz.func98, Tryz.ntmps98
 go_wp2_with fail
 generalize w.alloc (.cells #[.int .u8 (kd : Int)] 5) = w1 at *;refine (number6_any x 4 w1 (by omega)).mono ?_;rintro en w2 ⟨a2, c2, rfl, hb2, hg2⟩;have O2 := hJ (own_kept6 HO.out hg2);have G2 := hJ (gQ G1.out hg2);have B2 := hJ hb2;clear hg2 hb2 HO G1
 go_wp2_with (at_builtin; refine wpList_append_byt rfl _ _ rfl w.heap.size _ 1 [(kd : Int)] rfl O2.out a2 4 c2 (lb 4 x) rfl B2.out (by omega) G2.out.size ?_)
 intro v3 w3 h3 g3;have G3 := hJ (grown_own6 G2.out g3 O2.out (Nat.le_refl _));have O3 := hJ h3;clear h3 g3 O2 G2 B2
 go_wp2_with fail
 refine (number6_any n 2 w3 (by omega)).mono ?_;rintro en w4 ⟨a4, c4, rfl, hb4, hg4⟩;have O4 := hJ (own_kept6 O3.out hg4);have G4 := hJ (gQ G3.out hg4);have B4 := hJ hb4;clear hg4 hb4 O3 G3
 go_wp2_with (at_builtin; refine wpList_append_byt rfl _ _ rfl w.heap.size _ 5 ([(kd : Int)] ++ lb 4 x) rfl O4.out a4 2 c4 (lb 2 n) rfl B4.out (by omega) G4.out.size ?_)
 intro v5 w5 h5 g5;have G5 := hJ (grown_own6 G4.out g5 O4.out (Nat.le_refl _))
 have h5' : w5.ownsRow w.heap.size 5 1 v5 7 ((hd kd x n).map (Value.int .u8)) := by
  have e : hd kd x n = [(kd : Int)] ++ lb 4 x ++ lb 2 n := by simp [hd]
  rw [e];exact h5
 have O5 := hJ h5';have B5 := hJ (HB.out.keptN G5.out);clear h5 h5' g5 O4 G4 B4 HB
 go_wp2_with (at_builtin; refine wpList_append_byt rfl _ _ rfl w.heap.size _ 7 (hd kd x n) rfl O5.out ro m rc zs rfl B5.out (by omega) G5.out.size ?_)
 intro v6 w6 h6 g6;have G6 := hJ (grown_own6 G5.out g6 O5.out (Nat.le_refl _))
 have h6' : w6.ownsRow w.heap.size 5 1 v6 (7 + m + 0) ((hd kd x n ++ (zs ++ List.replicate 0 0)).map (Value.int .u8)) := by
  rw [List.replicate_zero, List.append_nil];exact h6
 have O6 := hJ h6';clear h6 h6' g6 O5 G5 B5;go_wp2;go_loopw [9] (fun out wr => ∃ k : Nat, 7 + m + k ≤ 4092 ∧ wr.ownsRow w.heap.size 5 1 out (7 + m + k) ((hd kd x n ++ (zs ++ List.replicate k 0)).map (Value.int .u8)) ∧ w.grownBy wr none) (fun out _ => 4092 - (match out with | .slice _ l _ => l | _ => 0))
 case atStart => exact ⟨0, by omega, O6.out, G6.out⟩
 case round =>
  obtain ⟨k, hk', ho, hg⟩ := hrel;obtain ⟨ao, c, hv, hB⟩ := owns_any ho;subst hv
  by_cases hlt : 7 + m + k < 4092
  ·have hg1 := World.grownBy_alloc wr (.cells #[.int .u8 0] 5) none
   have HBL := hJ (Byt.lit wr 5 _ [0] 1 rfl rfl);have O7 := hJ (ho.alloc (.cells #[.int .u8 0] 5));have G7 := hJ (gQ hg hg1);have HOO := hJ ho;have HGG := hJ hg;obtain ⟨N, hN⟩ : ∃ N, N = 7 + m + k := ⟨_, rfl⟩;rw [← hN] at O7 hlt hB hk' HOO ⊢;have HNN := hJ hN;clear hg1 ho hg hB hN;have hlt2 : (N : Int) < 4092 := by omega
   go_wp2_with (at_builtin; refine wpList_append_byt rfl _ _ rfl w.heap.size _ N (hd kd x n ++ (zs ++ List.replicate k 0)) rfl O7.out (some ⟨wr.heap.size, 0, none⟩) 1 1 [0] rfl HBL.out (by omega) G7.out.size ?_)
   intro v8 w8 h8 g8;have hg8 := grown_own HGG.out HOO.out (Nat.le_refl _) g8
   have h8' : w8.ownsRow w.heap.size 5 1 v8 (N + 1) ((hd kd x n ++ (zs ++ List.replicate (k + 1) 0)).map (Value.int .u8)) := by
    rw [List.replicate_succ', List.map_append, List.map_append, List.map_append, List.map_replicate];exact h8
   have O8 := hJ h8';have G8 := hJ hg8;obtain ⟨ao8, c8, hv8, _⟩ := owns_any h8';subst hv8;clear h8 h8' g8 hg8 O7 G7 HBL;go_wp2;go_roundw
   case rel =>
    refine ⟨k + 1, by have := HNN.out; omega, ?_, G8.out⟩;rw [← Nat.add_assoc, ← HNN.out];exact O8.out
   case measure => simp; omega
  ·have hkk : k = 4085 - m := by omega
   have hN : 7 + m + k = 4092 := by omega
   rw [hN] at hB;rw [hN];subst hkk;have HBB := hJ hB;have HGG := hJ hg;clear hB ho hg hk' hN hlt;go_wp2;go_ret;exact ⟨_, _, rfl, HBB.out, HGG.out⟩
theorem body_at (X : Int) (kd x n : Nat) (ro : Option Addr) (m rc : Nat) (zs : List Int) (w : World) (hX : X = (x : Int)) (hb : Byt w ro m rc zs) (hm : m ≤ 4085) (hk : kd < 256) :
  Calls Tryz.prog 98 #[.int .i64 kd, .int .i64 X, .int .i64 n, .slice ro m rc] w fun e w' => ∃ ao c, e = .returned (.slice ao 4092 c) ∧ Byt w' ao 4092 c (hd kd x n ++ (zs ++ List.replicate (4085 - m) 0)) ∧ w.grownBy w' none := by
 subst hX;exact body_any kd x n ro m rc zs w hb hm hk
theorem refEncodeData_any (x : Int) (ao : Option Addr) (n cap : Nat) (zs : List Int) (w : World) (hb : Byt w ao n cap zs) (hn : n ≤ 9223372036854775807) :
  Calls Tryz.prog 58 #[.int .i64 x, .slice ao n cap] w fun en w' => ∃ bo m c, en = .returned (.tuple #[.slice bo m c, .int .i64 (eD x n)]) ∧ Byt w' bo m c (oD x zs) ∧ w.grownBy w' none := by
 have hl := hb.len;have HB := hJ hb;clear hb;cases hk : nOk x with
 | false =>
  have e : Hid (eD x n = 51) := by show _ = _; unfold eD; rw [if_pos hk]
  have e2 : Hid (oD x zs = []) := oD_no (by rw [hl, e.out]; decide);clear hl;go_enter Tryz.func58, Tryz.ntmps58
  go_wp2_with fail
  refine (refKid6_any x _).mono ?_;rintro en w ⟨rfl, rfl⟩;rw [hk];go_wp2
  go_ret2
  rw [e.out, e2.out];exact ⟨none, 0, 0, rfl, Byt.empty _, World.grownBy.refl _ _⟩
 | true =>
  cases hc : (decide (n = 0) || cnt x n 4085) with
  | true =>
   have e : Hid (eD x n = 62) := by show _ = _; unfold eD; rw [if_neg (by rw [hk]; decide), if_pos hc]
   have e2 : Hid (oD x zs = []) := oD_no (by rw [hl, e.out]; decide);clear hl;simp only [cnt, Bool.or_eq_true, decide_eq_true_eq, Bool.and_eq_true] at hc
   by_cases h1 : n < 1
   ·go_enter Tryz.func58, Tryz.ntmps58
    go_wp2_with fail
    refine (refKid6_any x _).mono ?_;rintro en w ⟨rfl, rfl⟩;rw [hk];have h1' : (n : Int) < 1 := by omega
    clear hc;go_wp2
    go_ret2
    rw [e.out, e2.out];exact ⟨none, 0, 0, rfl, Byt.empty _, World.grownBy.refl _ _⟩
   ·by_cases h2 : 4085 < n
    ·go_enter Tryz.func58, Tryz.ntmps58
     go_wp2_with fail
     refine (refKid6_any x _).mono ?_;rintro en w ⟨rfl, rfl⟩;rw [hk];have h1' : ¬ (n : Int) < 1 := by omega
     have h2' : (4085 : Int) < (n : Int) := by omega
     clear hc;go_wp2
     go_ret2
     rw [e.out, e2.out];exact ⟨none, 0, 0, rfl, Byt.empty _, World.grownBy.refl _ _⟩
    ·have h3 : x ≠ 0 := by omega
     have h4 : n < 4085 := by omega
     have h3a : (x != 0) = true := by simp [h3]
     have h3b : (x == 0) = false := by simp [h3]
     have h1' : ¬ (n : Int) < 1 := by omega
     have h2' : ¬ (4085 : Int) < (n : Int) := by omega
     have h4' : ((n : Int) != 4085) = true := by simp; omega
     have h4b : ((n : Int) == 4085) = false := by simp; omega
     clear hc;go_enter Tryz.func58, Tryz.ntmps58
     go_wp2_with fail
     refine (refKid6_any x _).mono ?_;rintro en w ⟨rfl, rfl⟩;rw [hk];go_wp2
     go_ret2
     rw [e.out, e2.out];exact ⟨none, 0, 0, rfl, Byt.empty _, World.grownBy.refl _ _⟩
  | false =>
   have e : Hid (eD x n = 0) := by show _ = _; unfold eD; rw [if_neg (by rw [hk]; decide), if_neg (by rw [hc]; simp)]
   have e2 : Hid (oD x zs = dB x.toNat zs) := oD_yes (by rw [hl, e.out]);obtain ⟨_, h0, hm, _⟩ := eD_zero e.out;obtain ⟨y, hy, hy2⟩ := nOk_nat hk;subst hy;have e2 : Hid (oD y zs = dB y zs) := e2;have HD : Hid (dB y zs = hd 3 y n ++ (zs ++ List.replicate (4085 - n) 0)) := by show _ = _; unfold dB; rw [hl]
   simp only [cnt, Bool.or_eq_false_iff, decide_eq_false_iff_not, Bool.and_eq_false_iff, Decidable.not_not] at hc;have h1' : ¬ (n : Int) < 1 := by omega
   have h2' : ¬ (4085 : Int) < (n : Int) := by omega
   by_cases h3 : y = 0
   ·subst h3
    clear hc hl;go_enter Tryz.func58, Tryz.ntmps58
    go_wp2_with fail
    refine (refKid6_any _ _).mono ?_;rintro en w ⟨rfl, rfl⟩;rw [show nOk 0 = true from rfl]
    go_wp2_with fail
    refine (body_any 3 0 n ao n cap zs _ HB.out (by omega) (by omega)).mono ?_;rintro en w2 ⟨bo, c, rfl, hb2, hg2⟩;have B2 := hJ hb2;have G2 := hJ hg2;clear hb2 hg2;go_wp2
    go_ret2
    rw [e.out, e2.out, HD.out];exact ⟨_, _, _, rfl, B2.out, G2.out⟩
   ·have h4 : n = 4085 := by omega
    have h3a : ((y : Int) != 0) = true := by simp [h3]
    have h3b : ((y : Int) == 0) = false := by simp [h3]
    have h4' : ((n : Int) != 4085) = false := by simp; omega
    have h4b : ((n : Int) == 4085) = true := by simp; omega
    have H4 := hJ h4;clear hc hl h4;go_enter Tryz.func58, Tryz.ntmps58
    go_wp2_with fail
    refine (refKid6_any _ _).mono ?_;rintro en w ⟨rfl, rfl⟩;rw [hk]
    go_wp2_with fail
    refine (body_any 3 y n ao n cap zs _ HB.out (by omega) (by omega)).mono ?_;rintro en w2 ⟨bo, c, rfl, hb2, hg2⟩;have B2 := hJ hb2;have G2 := hJ hg2;clear hb2 hg2;go_wp2
    go_ret2
    rw [e.out, e2.out, HD.out];exact ⟨_, _, _, rfl, B2.out, G2.out⟩
theorem refDecodeData_any (ao : Option Addr) (n cap : Nat) (zs : List Int) (w : World) (hb : Byt w ao n cap zs) (hbt : Bt zs) (hcap : n ≤ cap ∧ cap ≤ 9223372036854775807) :
  Calls Tryz.prog 43 #[.slice ao n cap] w fun en w' => ∃ bo m c, en = .returned (.tuple #[.int .i64 (vN zs), .slice bo m c, .int .i64 (vE zs)]) ∧ Byt w' bo m c (vD zs) ∧ w.grownBy w' none := by
 have hl := hb.len;have HB := hJ hb
 by_cases h0 : n = 4092
 ·subst h0
  obtain ⟨b, off, hao, _, _⟩ := hb.at (by omega);subst hao;clear hb;have HRB := hJ (rD_bt hbt);have HIF := hJ (dD_iff hl);obtain ⟨x, hx⟩ : ∃ x, x = rN zs := ⟨_, rfl⟩;obtain ⟨c, hc⟩ : ∃ c, c = rC zs := ⟨_, rfl⟩;have HX := hJ hx;have HC := hJ hc;have hc2 : c < 65536 := by rw [hc]; exact rC_lt hbt
  clear hx hc;go_enter Tryz.func43, Tryz.ntmps43
  go_wp2_with fail
  refine (read_any _ 4092 cap 1 4 1 zs _ HB.out hbt (by omega) (by omega) (by omega) rfl).mono ?_;rintro en w ⟨rfl, rfl⟩;have hx : (le 4 (zs.drop 1) : Nat) = x := HX.out.symm;rw [hx];clear hx
  go_wp2_with fail
  refine (read_any _ 4092 cap 5 2 5 zs _ HB.out hbt (by omega) (by omega) (by omega) rfl).mono ?_;rintro en w ⟨rfl, rfl⟩;have hc : (le 2 (zs.drop 5) : Nat) = c := HC.out.symm;rw [hc];clear hc
  by_cases hbig : 4085 < c
  ·have HT : Hid (dD zs = false) := by
    cases hh : dD zs with
    | false => rfl
    | true =>
     have := (eD_zero (HIF.out.1 hh).1).2.1;unfold rD at this;rw [if_neg (by rw [← HC.out]; omega)] at this;simp at this
   have hbig' : (4085 : Int) < (c : Int) := by omega
   go_wp2
   go_ret3
   rw [(v_no HT.out).1, (v_no HT.out).2.1, (v_no HT.out).2.2];exact ⟨none, 0, 0, rfl, Byt.empty _, World.grownBy.refl _ _⟩
  ·have hbig' : ¬ (4085 : Int) < (c : Int) := by omega
   have HBB : Hid (Byt w (some ⟨b, off + 7, none⟩) c (cap - 7) (rD zs)) := by
    have := (HB.out.drop 7 (cap - 7) (by omega)).take c (cap - 7) (by omega) (fun e => by cases e);unfold rD;rw [if_pos (by rw [← HC.out]; omega), ← HC.out];exact this
   go_wp2_with fail
   refine (refBytes_any _ c (cap - 7) (rD zs) _ HBB.out (by omega)).mono ?_;rintro en w1 ⟨rfl, ho1, hg1, _⟩;have D1 := hJ (Byt.of_owns ho1);have B1 := hJ (HB.out.keptN hg1);have G1 := hJ hg1;have hk := (Byt.of_owns ho1).len;clear ho1 hg1 HB HBB
   go_wp2_with fail
   refine (refEncodeData_any (x : Int) _ c c (rD zs) _ D1.out (by omega)).mono ?_;rintro en w4 ⟨so, m, sc, rfl, hb4, hg4⟩;have B4 := hJ (B1.out.keptN hg4);have G4 := hJ (gQ G1.out hg4);have D4 := hJ (D1.out.keptN hg4);have S4 := hJ hb4;obtain ⟨er, her⟩ : ∃ er, er = eD (x : Int) c := ⟨_, rfl⟩;rw [← her];rw [← hk] at her;have HER := hJ her;clear hg4 G1 B1 D1 hb4 her hk
   by_cases hq : oD (x : Int) (rD zs) = zs
   ·have HQ := hJ hq
    clear hq
    go_wp2_with fail
    refine (same_yes so _ m 4092 sc cap _ _ _ S4.out B4.out HQ.out).mono ?_;rintro en w5 ⟨rfl, rfl⟩
    by_cases he : er = 0
    ·subst he
     have HT : Hid (dD zs = true) := HIF.out.2 ⟨by rw [← HX.out]; exact HER.out.symm, by rw [← HX.out]; exact HQ.out⟩;go_wp2
     go_ret3
     rw [(v_yes HT.out).1, (v_yes HT.out).2.1, (v_yes HT.out).2.2, ← HX.out];exact ⟨_, _, _, rfl, D4.out, G4.out⟩
    ·have HT : Hid (dD zs = false) := by
      cases hh : dD zs with
      | false => rfl
      | true => exact absurd (by rw [HER.out, HX.out]; exact (HIF.out.1 hh).1) he
     have he2 : (er == 0) = false := by simp [he]
     have he3 : (er != 0) = true := by simp [he]
     go_wp2
     go_ret3
     rw [(v_no HT.out).1, (v_no HT.out).2.1, (v_no HT.out).2.2];exact ⟨none, 0, 0, rfl, Byt.empty _, G4.out⟩
   ·have HT : Hid (dD zs = false) := by
     cases hh : dD zs with
     | false => rfl
     | true => exact absurd (by rw [HX.out]; exact (HIF.out.1 hh).2) hq
    have HQ := hJ hq;clear hq
    go_wp2_with fail
    refine (same_no so _ m 4092 sc cap _ _ _ S4.out B4.out (oD_bt HRB.out) hbt HQ.out).mono ?_;rintro en w5 ⟨rfl, rfl⟩
    by_cases he : er = 0
    ·subst he
     go_wp2
     go_ret3
     rw [(v_no HT.out).1, (v_no HT.out).2.1, (v_no HT.out).2.2];exact ⟨none, 0, 0, rfl, Byt.empty _, G4.out⟩
    ·have he2 : (er == 0) = false := by simp [he]
     have he3 : (er != 0) = true := by simp [he]
     go_wp2
     go_ret3
     rw [(v_no HT.out).1, (v_no HT.out).2.1, (v_no HT.out).2.2];exact ⟨none, 0, 0, rfl, Byt.empty _, G4.out⟩
 ·have HT : Hid (dD zs = false) := by show _ = _; simp [dD, hl, h0]
  have h0' : ¬ (n : Int) = 4092 := by omega
  clear hb;go_enter Tryz.func43, Tryz.ntmps43;go_wp2
  go_ret3
  rw [(v_no HT.out).1, (v_no HT.out).2.1, (v_no HT.out).2.2];exact ⟨none, 0, 0, rfl, Byt.empty _, World.grownBy.refl _ _⟩
def gd (xs : List Int) (i : Nat) : Prop := ∀ j, j < i → inR (xs.getD j 0) = true ∧ (0 < j → xs.getD (j - 1) 0 < xs.getD j 0)
theorem inR_lo {x : Int} (h : x < 2) : inR x = false := by unfold inR; rw [decide_eq_false (by omega)]; rfl
theorem inR_hi {x : Int} (h : 524286 < x) : inR x = false := by unfold inR; rw [decide_eq_false (p := x ≤ 524286) (by omega), Bool.and_false]
theorem inR_in {x : Int} (h1 : ¬ x < 2) (h2 : ¬ 524286 < x) : inR x = true := inR_iff.2 ⟨by omega, by omega⟩
theorem gd_all {xs : List Int} (h : gd xs xs.length) : xs.all inR = true ∧ ris xs = true := by
 refine ⟨List.all_eq_true.2 fun x hx => ?_, ris_true fun j hj => ?_⟩
 ·obtain ⟨j, hj, rfl⟩ := List.getElem_of_mem hx
  have := (h j hj).1;simpa [List.getD, List.getElem?_eq_getElem hj] using this
 ·exact (h (j + 1) hj).2 (by omega)
theorem gd_next {xs : List Int} {i : Nat} (h : gd xs i) (h1 : inR (xs.getD i 0) = true) (h2 : 0 < i → xs.getD (i - 1) 0 < xs.getD i 0) : gd xs (i + 1) := by
 intro j hj
 by_cases e : j = i
 ·subst e; exact ⟨h1, h2⟩
 ·exact h j (by omega)
theorem refEncodeList_any (x : Int) (ao : Option Addr) (n cap : Nat) (xs : List Int) (w : World) (hb : Nt w ao xs) (hl : xs.length = n) (hn : n ≤ 9223372036854775806) :
  Calls Tryz.prog 59 #[.int .i64 x, .slice ao n cap] w fun en w' => ∃ bo m c, en = .returned (.tuple #[.slice bo m c, .int .i64 (eL x xs)]) ∧ Byt w' bo m c (oL x xs) ∧ w.grownBy w' none := by
 have HB := hJ hb;clear hb;cases hk : nOk x with
 | false =>
  have e : Hid (eL x xs = 51) := by show _ = _; unfold eL; rw [if_pos hk]
  have e2 : Hid (oL x xs = []) := oL_no (by rw [e.out]; decide);clear hl;go_enter Tryz.func59, Tryz.ntmps59
  go_wp2_with fail
  refine (refKid6_any x _).mono ?_;rintro en w ⟨rfl, rfl⟩;rw [hk];go_wp2
  go_ret2
  rw [e.out, e2.out];exact ⟨none, 0, 0, rfl, Byt.empty _, World.grownBy.refl _ _⟩
 | true =>
  have HBD : Hid (badL x xs = (cnt x n 1021 || (!(xs.all inR) || !(ris xs)))) := by show _ = _; rw [← hl]; rfl
  have EB : Hid (badL x xs = true → eL x xs = 63) := fun h => by unfold eL; rw [if_neg (by rw [hk]; decide), if_pos h]
  have EO : Hid (badL x xs = true → oL x xs = []) := fun h => oL_no (by rw [EB.out h]; decide)
  cases hc : cnt x n 1021 with
  | true =>
   have e : Hid (eL x xs = 63) := EB.out (by rw [HBD.out, hc]; rfl);have e2 : Hid (oL x xs = []) := EO.out (by rw [HBD.out, hc]; rfl);simp only [cnt, Bool.or_eq_true, decide_eq_true_eq, Bool.and_eq_true] at hc
   by_cases h2 : 1021 < n
   ·have h2' : (1021 : Int) < (n : Int) := by omega
    clear hc hl HBD EB EO;go_enter Tryz.func59, Tryz.ntmps59
    go_wp2_with fail
    refine (refKid6_any x _).mono ?_;rintro en w ⟨rfl, rfl⟩;rw [hk];go_wp2
    go_ret2
    rw [e.out, e2.out];exact ⟨none, 0, 0, rfl, Byt.empty _, World.grownBy.refl _ _⟩
   ·have h3 : x ≠ 0 := by omega
    have h3a : (x != 0) = true := by simp [h3]
    have h3b : (x == 0) = false := by simp [h3]
    have h2' : ¬ (1021 : Int) < (n : Int) := by omega
    have h4' : ((n : Int) != 1021) = true := by simp; omega
    have h4b : ((n : Int) == 1021) = false := by simp; omega
    clear hc hl HBD EB EO;go_enter Tryz.func59, Tryz.ntmps59
    go_wp2_with fail
    refine (refKid6_any x _).mono ?_;rintro en w ⟨rfl, rfl⟩;rw [hk];go_wp2
    go_ret2
    rw [e.out, e2.out];exact ⟨none, 0, 0, rfl, Byt.empty _, World.grownBy.refl _ _⟩
  | false =>
   have hm : n ≤ 1021 := by simp only [cnt, Bool.or_eq_false_iff, decide_eq_false_iff_not] at hc; omega
   have hx1021 : x = 0 ∨ n = 1021 := by
    simp only [cnt, Bool.or_eq_false_iff, decide_eq_false_iff_not, Bool.and_eq_false_iff, Decidable.not_not] at hc;omega
   have h2' : ¬ (1021 : Int) < (n : Int) := by omega
   have HBAD : Hid (xs.all inR = false ∨ ris xs = false → badL x xs = true) := by
    rintro (h | h)
    ·rw [HBD.out, hc, h]; rfl
    ·rw [HBD.out, hc, h]; simp
   have HGOOD : Hid (gd xs n → eL x xs = 0) := fun h => by
    rw [← hl] at h;have := gd_all h;unfold eL;rw [if_neg (by rw [hk]; decide), if_neg (by rw [HBD.out, hc, this.1, this.2]; decide)]
   clear HBD hc
   have hdec : ((x == 0) = true ∧ (x != 0) = false) ∨ ((x == 0) = false ∧ (x != 0) = true ∧ ((n : Int) == 1021) = true ∧ ((n : Int) != 1021) = false) := by
    by_cases h3 : x = 0
    ·left; simp [h3]
    ·right; have : n = 1021 := by omega
     simp [h3, this]
   clear hx1021;obtain ⟨y, hy, hy2⟩ := nOk_nat hk;have HY := hJ hy;clear hy;rcases hdec with ⟨f1, f2⟩ | ⟨f1, f2, f3, f4⟩
   all_goals
    go_enter Tryz.func59, Tryz.ntmps59
    go_wp2_with fail
    refine (refKid6_any x _).mono ?_;rintro en w ⟨rfl, rfl⟩;rw [hk];go_wp2;go_loopw [7, 8] (fun out si wr => ∃ i : Nat, i ≤ n ∧ si = .int .i64 i ∧ wr.ownsRow w.heap.size 5 1 out (4 * i) ((fl (xs.take i)).map (Value.int .u8)) ∧ gd xs i ∧ w.grownBy wr none) (fun _ si _ => n - (intOf si).toNat)
    case atStart => exact ⟨0, Nat.zero_le _, rfl, World.ownsRow_nil _ _ _ _, fun j hj => by omega, World.grownBy.refl _ _⟩
    case round =>
     obtain ⟨i, hi, rfl, ho, hgd, hg⟩ := hrel;have O1 := hJ ho;have GD := hJ hgd;have G1 := hJ hg;clear hgd hg
     by_cases hlt : i < n
     ·obtain ⟨b, off, rfl, c0⟩ := (HB.out.keptN G1.out).row i (by omega)
      obtain ⟨sb, sc, hv0, _⟩ := owns_any ho;subst hv0;clear ho;have HN0 := hJ (nall_no (xs := xs) (i := i) (by omega));have HNX := hJ (gd_next GD.out);have HTK := hJ (ntake (xs := xs) (i := i) (by omega))
      by_cases h1 : xs.getD i 0 < 2
      ·have hbad := HBAD.out (.inl (HN0.out (inR_lo h1)))
       have E1 := hJ (EB.out hbad);have E2 := hJ (EO.out hbad);clear hbad HN0 HNX HTK;generalize xs.getD i 0 = v at *;have d1 : decide (v < 2) = true := decide_eq_true h1;go_wp2
       go_quiet (fail)
       go_wp2
       go_ret2
       rw [E1.out, E2.out];exact ⟨none, 0, 0, rfl, Byt.empty _, gQ G1.out ((Qt.drewN _ _).grown none)⟩
      ·by_cases h2 : 524286 < xs.getD i 0
       ·have hbad := HBAD.out (.inl (HN0.out (inR_hi h2)))
        have E1 := hJ (EB.out hbad);have E2 := hJ (EO.out hbad);clear hbad HN0 HNX HTK;generalize xs.getD i 0 = v at *;have d1 : decide (v < 2) = false := decide_eq_false h1;have d2 : decide (524286 < v) = true := decide_eq_true h2;go_wp2
        go_quiet (fail)
        go_wp2
        go_ret2
        rw [E1.out, E2.out];exact ⟨none, 0, 0, rfl, Byt.empty _, gQ G1.out ((Qt.drewN _ _).grown none)⟩
       ·have HIN := hJ (inR_in h1 h2)
        obtain ⟨vn, hvn⟩ : ∃ vn : Nat, xs.getD i 0 = (vn : Int) := ⟨(xs.getD i 0).toNat, by omega⟩;have HVN := hJ hvn;clear hvn;have d1 : decide (xs.getD i 0 < 2) = false := decide_eq_false h1;have d2 : decide (524286 < xs.getD i 0) = false := decide_eq_false h2
        by_cases h3 : 0 < i
        ·obtain ⟨u, hu⟩ : ∃ u, u = xs.getD (i - 1) 0 := ⟨_, rfl⟩
         have q1 := (HB.out.keptN G1.out).at (i - 1) (by omega);rw [← hu] at q1;have d3 : decide ((0 : Int) < (i : Int)) = true := decide_eq_true (by omega);have d3' : decide (0 < i) = true := decide_eq_true h3;have ix : (i : Int) - 1 = ((i - 1 : Nat) : Int) := by omega
         by_cases h4 : xs.getD i 0 ≤ u
         ·have hbad := HBAD.out (.inr (ris_false (j := i - 1) (by omega) (by rw [show i - 1 + 1 = i by omega, ← hu]; omega)))
          have E1 := hJ (EB.out hbad);have E2 := hJ (EO.out hbad);clear hbad HN0 HNX HTK HIN HVN hu;generalize xs.getD i 0 = v at *;have d4 : decide (v ≤ u) = true := decide_eq_true h4;go_wp2
          go_quiet (fail)
          go_wp2
          go_ret2
          rw [E1.out, E2.out];exact ⟨none, 0, 0, rfl, Byt.empty _, gQ G1.out ((Qt.drewN _ _).grown none)⟩
         ·have NX := hJ (HNX.out HIN.out (fun _ => by rw [← hu]; omega))
          clear HN0 HNX HIN hu;generalize xs.getD i 0 = v at *;have d4 : decide (v ≤ u) = false := decide_eq_false h4;go_wp2
          go_quiet (fail)
          go_wp2_with fail
          refine (number_at _ vn 4 _ HVN.out (by omega)).mono ?_;rintro en w2 ⟨a2, c2, rfl, hb2, hg2⟩;have GD2 := hJ (gQ ((Qt.drewN _ _).grown none) hg2);have O2 := hJ (own_kept6 O1.out GD2.out);have G2 := hJ (gQ G1.out GD2.out);have B2 := hJ hb2;clear hb2 hg2 O1 G1
          go_wp2_with (at_builtin; refine wpList_append_byt rfl _ _ rfl w.heap.size _ (4 * i) (fl (xs.take i)) rfl O2.out a2 4 c2 (lb 4 vn) rfl B2.out (by omega) G2.out.size ?_)
          intro v3 w3 h3 g3;have G3 := hJ (grown_own6 G2.out g3 O2.out (Nat.le_refl _))
          have h3' : w3.ownsRow w.heap.size 5 1 v3 (4 * (i + 1)) ((fl (xs.take (i + 1))).map (Value.int .u8)) := by
           rw [HTK.out, fl_app, fl_cons, fl_nil, List.append_nil, HVN.out, Int.toNat_natCast, List.map_append];exact h3
          have O3 := hJ h3';obtain ⟨ao3, c3, hv3, _⟩ := owns_any h3';subst hv3;clear h3 h3' g3 O2 G2 B2;go_wp2;go_roundw
          case rel => exact ⟨i + 1, by omega, by go_num, O3.out, NX.out, G3.out⟩
          case measure => simp [intOf]; omega
        ·have NX := hJ (HNX.out HIN.out (fun h => absurd h h3))
         clear HN0 HNX HIN;have d3 : decide ((0 : Int) < (i : Int)) = false := decide_eq_false (by omega);have d3' : decide (0 < i) = false := decide_eq_false h3;generalize xs.getD i 0 = v at *;go_wp2
         go_quiet (fail)
         go_wp2_with fail
         refine (number_at _ vn 4 _ HVN.out (by omega)).mono ?_;rintro en w2 ⟨a2, c2, rfl, hb2, hg2⟩;have GD2 := hJ (gQ ((Qt.drewN _ _).grown none) hg2);have O2 := hJ (own_kept6 O1.out GD2.out);have G2 := hJ (gQ G1.out GD2.out);have B2 := hJ hb2;clear hb2 hg2 O1 G1
         go_wp2_with (at_builtin; refine wpList_append_byt rfl _ _ rfl w.heap.size _ (4 * i) (fl (xs.take i)) rfl O2.out a2 4 c2 (lb 4 vn) rfl B2.out (by omega) G2.out.size ?_)
         intro v3 w3 h3 g3;have G3 := hJ (grown_own6 G2.out g3 O2.out (Nat.le_refl _))
         have h3' : w3.ownsRow w.heap.size 5 1 v3 (4 * (i + 1)) ((fl (xs.take (i + 1))).map (Value.int .u8)) := by
          rw [HTK.out, fl_app, fl_cons, fl_nil, List.append_nil, HVN.out, Int.toNat_natCast, List.map_append];exact h3
         have O3 := hJ h3';obtain ⟨ao3, c3, hv3, _⟩ := owns_any h3';subst hv3;clear h3 h3' g3 O2 G2 B2;go_wp2;go_roundw
         case rel => exact ⟨i + 1, by omega, by go_num, O3.out, NX.out, G3.out⟩
         case measure => simp [intOf]; omega
     ·have hin : i = n := by omega
      obtain ⟨sb, sc, hv0, hB⟩ := owns_any ho;subst hv0;clear ho O1;subst hin;have E1 := hJ (HGOOD.out GD.out)
      have hB' : Byt wr sb (4 * i) sc (fl xs) := by
       have := hB;rw [← hl, List.take_length] at this;rw [← hl];exact this
      have B1 := hJ hB'
      have E2 : Hid (oL x xs = hd 4 y i ++ (fl xs ++ List.replicate (4085 - 4 * i) 0)) := by
       show _ = _
       rw [oL_yes E1.out, HY.out, Int.toNat_natCast];unfold lB;rw [hl]
      clear hB hB' HGOOD EB EO HBAD
      go_wp2_with fail
      refine (body_at x 4 y i sb (4 * i) sc (fl xs) _ HY.out B1.out (by omega) (by omega)).mono ?_;rintro en w2 ⟨bo, c, rfl, hb2, hg2⟩;have B2 := hJ hb2;have G2 := hJ (gQ G1.out hg2);clear hb2 hg2;go_wp2
      go_ret2
      rw [E1.out, E2.out];exact ⟨_, _, _, rfl, B2.out, G2.out⟩
theorem cell_one6 (w : World) (t : TypeId) (v : Value) : ∀ j u, [v][j]? = some u → (w.alloc (.cells #[v] t)).cell? ((⟨w.heap.size, 0, none⟩ : Addr).add j) = some u := by
 intro j u hu;cases j with
 | zero =>
  simp only [List.getElem?_cons_zero, Option.some.injEq] at hu;subst hu;rw [Addr.add_lit];have := cell_of_row (w.alloc (.cells #[v] t)) w.heap.size 0 _ t (0, 0) (heap_alloc_new w _);rw [this]; rfl
 | succ j => simp at hu
theorem owns_nt {w : World} {base n : Nat} {v : Value} {xs : List Int} (h : w.ownsRow base 3 1 v n (xs.map (Value.int .i64))) :
  ∃ ao cap, v = .slice ao n cap ∧ Nt w ao xs ∧ xs.length = n := by
 have hl : xs.length = n := by have := h.1; simpa using this
 rcases h.2 with ⟨rfl, rfl⟩ | ⟨g, cap, cur, rfl, _⟩
 ·obtain rfl : xs = [] := List.length_eq_zero_iff.1 hl
  exact ⟨none, 0, rfl, Nt.zero _ _, rfl⟩
 ·refine ⟨_, cap, rfl, ⟨fun i hi => ⟨g, 0, rfl, ?_⟩⟩, hl⟩
  rw [Nat.zero_add, h.cellAt i (by omega)];simp [List.getD, List.getElem?_eq_getElem hi]
theorem refDecodeList_new (ao : Option Addr) (n cap : Nat) (zs : List Int) (w : World) (hb : Byt w ao n cap zs) (hbt : Bt zs) :
  Calls Tryz.prog 44 #[.slice ao n cap] w fun en w' => ∃ bo m c, en = .returned (.tuple #[.int .i64 (uN zs), .slice bo m c, .int .i64 (uE zs)]) ∧ Nt w' bo (uL zs) ∧ (uL zs).length = m ∧ Nw w w' 3 bo m ∧ w.grownBy w' none := by
 obtain ⟨i1, hi1, hj0, hj1, hj2⟩ := info_parts info_int6;have hl := hb.len;have HB := hJ hb;clear hb
 by_cases h0 : n = 4092
 ·subst h0
  have HIF := hJ (dL_iff hl);have HPA := hJ (fun h => (dL_parts (bs := zs) h).2.1);obtain ⟨x, hx⟩ : ∃ x, x = rN zs := ⟨_, rfl⟩;obtain ⟨c, hc⟩ : ∃ c, c = rC zs := ⟨_, rfl⟩;have HX := hJ hx;have HC := hJ hc;have hc2 : c < 65536 := by rw [hc]; exact rC_lt hbt
  rw [← hc] at HIF HPA;clear hx hc;go_enter Tryz.func44, Tryz.ntmps44
  go_wp2_with fail
  refine (read_any _ 4092 cap 1 4 1 zs _ HB.out hbt (by omega) (by omega) (by omega) rfl).mono ?_;rintro en w ⟨rfl, rfl⟩;have hx : (le 4 (zs.drop 1) : Nat) = x := HX.out.symm;rw [hx];clear hx
  go_wp2_with fail
  refine (read_any _ 4092 cap 5 2 5 zs _ HB.out hbt (by omega) (by omega) (by omega) rfl).mono ?_;rintro en w ⟨rfl, rfl⟩;have hc : (le 2 (zs.drop 5) : Nat) = c := HC.out.symm;rw [hc];clear hc
  by_cases hbig : 1021 < c
  ·have HT : Hid (dL zs = false) := by
    cases hh : dL zs with
    | false => rfl
    | true => have := HPA.out hh; omega
   have hbig' : (1021 : Int) < (c : Int) := by omega
   go_wp2
   go_ret3
   rw [(u_no HT.out).1, (u_no HT.out).2.1, (u_no HT.out).2.2];exact ⟨none, 0, 0, rfl, Nt.zero _ _, rfl, Nw.zero _ _ _ _, World.grownBy.refl _ _⟩
  ·have hbig' : ¬ (1021 : Int) < (c : Int) := by omega
   rw [Nat.min_eq_left (show c ≤ 1021 by omega)] at HIF;clear HPA;go_wp2;go_loopw [7, 8, 9] (fun out si _ wr => ∃ i : Nat, i ≤ c ∧ si = .int .i64 i ∧ wr.ownsRow w.heap.size 3 1 out i ((rL zs i).map (Value.int .i64)) ∧ w.grownBy wr none) (fun _ si _ _ => c - (intOf si).toNat)
   case atStart => exact ⟨0, Nat.zero_le _, rfl, World.ownsRow_nil _ _ _ _, World.grownBy.refl _ _⟩
   case round =>
    obtain ⟨i, hi, rfl, ho, hg⟩ := hrel;have O1 := hJ ho;have G1 := hJ hg;clear hg;obtain ⟨ro, rc, hv0, hnt, hln⟩ := owns_nt ho;subst hv0;clear ho
    by_cases hlt : i < c
    ·clear hnt hln
     have B1 := hJ (HB.out.keptN G1.out)
     go_wp2_with fail
     refine (read_any _ 4092 cap (7 + 4 * i) 4 _ zs _ B1.out hbt (by omega) (by omega) (by omega) (by omega)).mono ?_;rintro en wr ⟨rfl, rfl⟩;have HS := hJ (rL_snoc zs i);generalize le 4 (zs.drop (7 + 4 * i)) = v at *
     go_wp2_with (at_builtin; refine wpList_append_own _ rfl _ _ 26 rfl w.heap.size 3 i1 (.int .i64 0) 1 8 Tryz.underlying26 hi1 hj0 hj1 hj2 rfl (by decide) _ i ((rL zs i).map (Value.int .i64)) rfl (O1.out.alloc _) ⟨wr.heap.size, 0, none⟩ 1 1 [.int .i64 (v : Nat)] rfl rfl (cell_one6 _ _ _) (by intro u hu; simp at hu; subst hu; rfl) (by unfold maxLen; omega) (by omega) (by have := G1.out.size; simp; omega) ?_)
     intro v3 w3 h3 g3 _
     have h3' : w3.ownsRow w.heap.size 3 1 v3 (i + 1) ((rL zs (i + 1)).map (Value.int .i64)) := by
      rw [HS.out, List.map_append];exact h3
     have O3 := hJ h3';have G3 := hJ (grown_ownN (gQ G1.out (World.grownBy_alloc wr _ none)) g3 (fun g hg => own_lt6 O1.out g hg));clear h3 g3 h3' O1 G1 B1;go_wp2;go_roundw
     case rel => exact ⟨i + 1, by omega, by go_num, O3.out, G3.out⟩
     case measure => simp [intOf]; omega
    ·have hin : i = c := by omega
     subst hin;have NT := hJ hnt;have W1 : Hid (Nw w wr 3 ro i) := Nw.of_owns O1.out (Nat.le_refl _);have B1 := hJ (HB.out.keptN G1.out);clear hnt O1 HB
     go_wp2_with fail
     refine (refEncodeList_any (x : Int) _ i rc (rL zs i) _ NT.out hln (by omega)).mono ?_;rintro en w5 ⟨so, k, sc, rfl, hb5, hg5⟩;have B5 := hJ (B1.out.keptN hg5);have G5 := hJ (gQ G1.out hg5);have NT5 := hJ (NT.out.keptN hg5);have W5 := hJ (W1.out.keptN hg5);have S5 := hJ hb5;obtain ⟨er, her⟩ : ∃ er, er = eL (x : Int) (rL zs i) := ⟨_, rfl⟩;rw [← her];have HER := hJ her;clear hg5 G1 B1 NT hb5 her
     by_cases hq : oL (x : Int) (rL zs i) = zs
     ·have HQ := hJ hq
      clear hq
      go_wp2_with fail
      refine (same_yes so _ k 4092 sc cap _ _ _ S5.out B5.out HQ.out).mono ?_;rintro en w6 ⟨rfl, rfl⟩
      by_cases he : er = 0
      ·subst he
       have HT : Hid (dL zs = true) := HIF.out.2 ⟨by rw [← HX.out]; exact HER.out.symm, by rw [← HX.out]; exact HQ.out⟩;go_wp2
       go_ret3
       rw [(u_yes HT.out).1, (u_yes HT.out).2.1, (u_yes HT.out).2.2, ← HX.out, ← HC.out];exact ⟨_, _, _, rfl, NT5.out, hln, W5.out, G5.out⟩
      ·have HT : Hid (dL zs = false) := by
        cases hh : dL zs with
        | false => rfl
        | true => exact absurd (by rw [HER.out, HX.out]; exact (HIF.out.1 hh).1) he
       have he2 : (er == 0) = false := by simp [he]
       have he3 : (er != 0) = true := by simp [he]
       go_wp2
       go_ret3
       rw [(u_no HT.out).1, (u_no HT.out).2.1, (u_no HT.out).2.2];exact ⟨none, 0, 0, rfl, Nt.zero _ _, rfl, Nw.zero _ _ _ _, G5.out⟩
     ·have HT : Hid (dL zs = false) := by
       cases hh : dL zs with
       | false => rfl
       | true => exact absurd (by rw [HX.out]; exact (HIF.out.1 hh).2) hq
      have HQ := hJ hq;clear hq
      go_wp2_with fail
      refine (same_no so _ k 4092 sc cap _ _ _ S5.out B5.out (oL_bt _ _) hbt HQ.out).mono ?_;rintro en w6 ⟨rfl, rfl⟩
      by_cases he : er = 0
      ·subst he
       go_wp2
       go_ret3
       rw [(u_no HT.out).1, (u_no HT.out).2.1, (u_no HT.out).2.2];exact ⟨none, 0, 0, rfl, Nt.zero _ _, rfl, Nw.zero _ _ _ _, G5.out⟩
      ·have he2 : (er == 0) = false := by simp [he]
       have he3 : (er != 0) = true := by simp [he]
       go_wp2
       go_ret3
       rw [(u_no HT.out).1, (u_no HT.out).2.1, (u_no HT.out).2.2];exact ⟨none, 0, 0, rfl, Nt.zero _ _, rfl, Nw.zero _ _ _ _, G5.out⟩
 ·have HT : Hid (dL zs = false) := by show _ = _; simp [dL, hl, h0]
  have h0' : ¬ (n : Int) = 4092 := by omega
  go_enter Tryz.func44, Tryz.ntmps44;go_wp2
  go_ret3
  rw [(u_no HT.out).1, (u_no HT.out).2.1, (u_no HT.out).2.2];exact ⟨none, 0, 0, rfl, Nt.zero _ _, rfl, Nw.zero _ _ _ _, World.grownBy.refl _ _⟩
end Go.Proofs.YtkiopabcnemgnaaGreatDoor
