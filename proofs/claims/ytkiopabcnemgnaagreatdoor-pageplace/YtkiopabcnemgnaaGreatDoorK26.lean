import Derived.Test.YtkiopabcnemgnaaGreatDoorK24
import Derived.Deep.RegionHeld3
import Derived.Deep.DrawnRows
set_option maxRecDepth 100000
set_option maxHeartbeats 4000000
namespace Go.Proofs.YtkiopabcnemgnaaGreatDoor
open Go.RowKit
attribute [local go_sem ↓] Go.wp_at_zero Go.wp_at_succ
theorem byt_part5 {w : World} {b off n cap : Nat} {zs : List Int} (h : Byt w (some ⟨b, off, none⟩) n cap zs) (q m c : Nat) (hq : q + m ≤ n) : Byt w (some ⟨b, off + q, none⟩) m c ((zs.drop q).take m) :=
 (h.drop q (n - q) (by omega)).take m c (by omega) (fun e => by cases e)
structure Rn5 (w wr : World) (base i j : Nat) (M : List (List Int)) (K : List Kd) (v v2 : Value) (xs : List Value) : Prop where
 own : wr.ownsRow base 25 1 v i xs
 own2 : wr.ownsRow base 67 2 v2 j (kc K)
 sx : Sx wr xs M
 gr : w.grownBy wr none
 far : w.heap.size ≤ base ∧ base ≤ wr.heap.size
 len : 0 < j
theorem Rn5.keptN {w wr w' : World} {base i j : Nat} {M : List (List Int)} {K : List Kd} {v v2 : Value} {xs : List Value} (h : Rn5 w wr base i j M K v v2 xs) (hg : wr.grownBy w' none) : Rn5 w w' base i j M K v v2 xs :=
 ⟨own_kept5 h.own hg, own_kept5 h.own2 hg, h.sx.keptN hg, gQ h.gr hg, ⟨h.far.1, Nat.le_trans h.far.2 hg.size⟩, h.len⟩
theorem Rn5.addSep {w wr w' : World} {base i j : Nat} {M : List (List Int)} {K : List Kd} {v v' v2 : Value} {xs : List Value} (h : Rn5 w wr base i j M K v v2 xs) {b n : Nat} {u : Value} {x : List Int} (hx : wr.ownsRow b 5 1 u n (x.map (Value.int .u8))) (hn : x.length = n)
  (ho : w'.ownsRow base 25 1 v' (i + 1) (xs ++ [u])) (hg : wr.grownBy w' v.ownBlock) : Rn5 w w' base (i + 1) j (M ++ [x]) K v' v2 (xs ++ [u]) := by
 have h2 : v2.ownBlock ≠ v.ownBlock := own_two h.own h.own2 (by decide) h.len |> fun q e => q e.symm
 exact ⟨ho, h.own2.kept hg (.inr h2), (h.sx.snoc hx hn).kept hg h.own, grown_ownN h.gr hg (fun g e => by have := (h.own.lt g e).1; have := h.far.1; omega), ⟨h.far.1, Nat.le_trans h.far.2 hg.size⟩, h.len⟩
theorem Sx.kept2 {w w' : World} {xs : List Value} {M : List (List Int)} {base sz n : Nat} {vl : Value} {ys : List Value} (h : Sx w xs M) (hg : w.grownBy w' vl.ownBlock) (ho : w.ownsRow base 67 sz vl n ys) : Sx w' xs M := by
 refine ⟨h.len, fun j hj => ?_⟩;obtain ⟨b, v, h1, h2⟩ := h.el j hj;refine ⟨b, v, h1, h2.kept hg ?_⟩;rcases h2.2 with ⟨rfl, _⟩ | ⟨g, cap, cur', rfl, _, hgg, _⟩
 ·exact .inl rfl
 ·exact .inr (own_ne ho hgg (by decide))
theorem Rn5.addKid {w wr w' : World} {base i j : Nat} {M : List (List Int)} {K : List Kd} {v v2 v2' : Value} {xs : List Value} (h : Rn5 w wr base i j M K v v2 xs) (k : Kd)
  (ho : w'.ownsRow base 67 2 v2' (j + 1) (kc K ++ [.int .i64 k.no, .int .i64 k.keys])) (hg : wr.grownBy w' v2.ownBlock) : Rn5 w w' base i (j + 1) M (K ++ [k]) v v2' xs := by
 have h2 : v.ownBlock ≠ v2.ownBlock := own_two h.own h.own2 (by decide) h.len;exact ⟨h.own.kept hg (.inr h2), by rw [kc_snoc]; exact ho, h.sx.kept2 hg h.own2, grown_ownN h.gr hg (fun g e => by have := (h.own2.lt g e).1; have := h.far.1; omega), ⟨h.far.1, Nat.le_trans h.far.2 hg.size⟩, Nat.succ_pos _⟩
structure RdOut (zs : List Int) (w : World) (en : Ending) (w' : World) : Prop where
 out : (rread zs = none ∧ en = .returned (.tuple #[.int .i64 0, .slice none 0 0, .slice none 0 0, .bool false])) ∨
  ∃ k M a n cap b cap2, rread zs = some (k, M) ∧ en = .returned (.tuple #[.int .i64 ((by8 zs 1 : Nat) : Int), .slice a n cap, .slice b (n + 1) cap2, .bool true]) ∧ Lz w' a (seps M) ∧ Lb (seps M) ∧ Kl w' b (kids k M) ∧ M.length = n ∧ n ≤ 2047 ∧ Nw w w' 25 a n ∧ Nw w w' 67 b (n + 1)
 gr : w.grownBy w' none
theorem least5_four (ao : Option Addr) (n c : Nat) (zs : List Int) (w : World) (hb : Byt w ao n c zs) (hbt : Bt zs) (hn : n ≤ 100000) :
  Calls Tryz.prog 101 #[.slice ao n c, .int .i64 4] w fun en w' => en = .returned (.tuple #[.int .i64 (lout (rl zs 4)).1, .int .i64 (lout (rl zs 4)).2]) ∧ w.grownBy w' none := least5_any ao n c zs 4 w hb hbt (by omega) hn
theorem rread_any (ao : Option Addr) (c : Nat) (zs : List Int) (w : World) (hb : Byt w ao 4092 c zs) (hbt : Bt zs) (hcc : 4092 ≤ c) (hcm : c ≤ 9223372036854775807) :
  Calls Tryz.prog 66 #[.slice ao 4092 c] w fun en w' => RdOut zs w en w' := by
 obtain ⟨i0, hi, hz0, hz1, hz2⟩ := info_parts info_bytesS;obtain ⟨i1, hi1, hy0, hy1, hy2⟩ := info_parts info_kid;obtain ⟨b, off, rfl, hlt, hc⟩ := byt_by8 hb hbt (by omega);have hl := hb.len;have c1 := hc 1 (by omega);have b1 := (by8_int hbt 1).2;have c2 := hc 2 (by omega);have c3 := hc 3 (by omega);have b2 := (by8_int hbt 2).2;have b3 := (by8_int hbt 3).2
 have HRR : Hid (rread zs = match rl zs 4 with
  | none => none
  | some (p, q) => if rcount zs = 0 ∨ zs.length < q + p + 2 * (rcount zs - 1) + 8 then none else
   match rLp zs ((zs.drop q).take p) (rcount zs - 1) (q + p + 2 * (rcount zs - 1) + 8) [] with
   | none => none
   | some M => some (rkid zs (q + p + 2 * (rcount zs - 1)), M)) := rfl
 have hN : (by8 zs 2 : Int) + 256 * (by8 zs 3 : Int) = (rcount zs : Int) := by unfold rcount; omega
 have HR4 := hJ (fun (x n : Nat) (h : rl zs 4 = some (x, n)) => rl_bd h);have HB := hJ hb;have H4 := hJ (fun (W : World) (hW : Byt W (some ⟨b, off, none⟩) 4092 c zs) => least5_four (some ⟨b, off, none⟩) 4092 c zs W hW hbt (by omega));clear hc hb;rw [hl] at HRR;have hNb : rcount zs ≤ 65535 := by omega
 generalize rcount zs = N at *;generalize by8 zs 2 = y2 at *;generalize by8 zs 3 = y3 at *;have HLV : Hid (by8 zs 1 = by8 zs 1) := rfl;obtain ⟨lv, hlv⟩ : ∃ lv, by8 zs 1 = lv := ⟨_, rfl⟩;rw [hlv] at c1 b1;have HLV2 := hJ hlv;clear hlv HLV;go_enter Tryz.func66, Tryz.ntmps66;go_wp2
 go_quiet (fail)
 go_wp2_with fail
 have HB1 := hJ (HB.out.heap (w' := w.drewN nq) rfl);refine (H4.out _ HB1.out).mono ?_;rintro en w1 ⟨rfl, hg1⟩;have G1 := hJ (gQ ((Qt.drewN w nq).grown none) hg1);clear hg1 H4 HB1 c1 c2 c3 hN b2 b3;cases hr4 : rl zs 4 with
 | none =>
  have HR : Hid (rread zs = none) := by have := HRR.out; rw [hr4] at this; exact this
  clear HRR HR4;simp only [lout];go_wp2
  (try simp only [Exit.inBlock, Exit.then]); refine bodyPost_ret (results_tmp4 rfl _ _ _) rfl ?_
  exact ⟨.inl ⟨HR.out, rfl⟩, G1.out⟩
 | some pq =>
  obtain ⟨p, q⟩ := pq;have hbd := HR4.out p q hr4
  have HRR1 : Hid (rread zs = if N = 0 ∨ 4092 < q + p + 2 * (N - 1) + 8 then none else
   match rLp zs ((zs.drop q).take p) (N - 1) (q + p + 2 * (N - 1) + 8) [] with
   | none => none
   | some M => some (rkid zs (q + p + 2 * (N - 1)), M)) := by have := HRR.out; rw [hr4] at this; exact this
  clear HRR HR4 hr4;simp only [lout];have q0 : ¬ (q : Int) < 0 := by omega
  by_cases hN0 : N = 0
  ·have HR : Hid (rread zs = none) := HRR1.out.trans (if_pos (.inl hN0))
   have hN1 : (N : Int) = 0 := by omega
   clear HRR1;go_wp2
   (try simp only [Exit.inBlock, Exit.then]); refine bodyPost_ret (results_tmp4 rfl _ _ _) rfl ?_
   exact ⟨.inl ⟨HR.out, rfl⟩, G1.out⟩
  ·have hN1 : ¬ (N : Int) = 0 := by omega
   by_cases hbig : 4092 < q + p + 2 * (N - 1) + 8
   ·have HR : Hid (rread zs = none) := HRR1.out.trans (if_pos (.inr hbig))
    have hb1 : (4092 : Int) < (q : Int) + (p : Int) + 2 * ((N : Int) - 1) + 8 := by omega
    clear HRR1;go_wp2
    (try simp only [Exit.inBlock, Exit.then]); refine bodyPost_ret (results_tmp4 rfl _ _ _) rfl ?_
    exact ⟨.inl ⟨HR.out, rfl⟩, G1.out⟩
   ·have HRR2 := hJ (HRR1.out.trans (if_neg (by omega)))
    have hb1 : ¬ (4092 : Int) < (q : Int) + (p : Int) + 2 * ((N : Int) - 1) + 8 := by omega
    obtain ⟨t, ht⟩ : ∃ t, q + p + 2 * (N - 1) = t := ⟨_, rfl⟩;rw [ht] at HRR2;have ht1 : (q : Int) + (p : Int) + 2 * ((N : Int) - 1) = (t : Int) := by omega
    have ht2 : t + 8 ≤ 4092 := by omega
    have HP := hJ (byt_part5 HB.out q p (c - q) (by omega));have HPB : Hid (Bt ((zs.drop q).take p)) := (hbt.drop q).take p;have HPL : Hid (((zs.drop q).take p).length = p) := by show _ = _; rw [List.length_take, List.length_drop, hl]; omega
    have HNK : Hid (rkid zs t = ⟨nm zs t, nm zs (t + 4)⟩) := rfl;have g1 : (q : Int) + (p : Int) ≤ (c : Int) := by omega
    have g2 : (q : Int) ≤ (q : Int) + (p : Int) := by omega
    have hNq : N ≤ 2047 := by omega
    have hp5 : p ≤ 5000 := by omega
    have hb2 : ¬ (4092 : Int) < (t : Int) + 8 := by omega
    have hN2 : ((N : Int) == 0) = false := by simp; omega
    have hb3 : decide ((4092 : Int) < (t : Int) + 8) = false := decide_eq_false hb2;clear hb1;clear HRR1 ht hbig;have hb4 : (t : Int) + 4 = ((t + 4 : Nat) : Int) := by omega
    obtain ⟨t4, ht4⟩ : ∃ t4, t + 4 = t4 := ⟨_, rfl⟩;rw [ht4] at hb4 HNK;have hb5 : t4 + 4 ≤ 4092 := by omega
    have hb6 : t4 ≤ 4092 := by omega
    clear ht4;have HB1 := hJ (HB.out.keptN G1.out)
    go_wp2_with fail
    refine (number5_any _ 4092 c zs t _ HB1.out hbt (by omega) (by omega)).mono ?_;rintro en w2 ⟨rfl, hq2⟩;have G2 := hJ (gQ G1.out (hq2.grown none));have HB2 := hJ (HB1.out.keptN (hq2.grown none));clear hq2 HB1 G1
    go_wp2_with fail
    refine (number5_any _ 4092 c zs t4 _ HB2.out hbt (by omega) (by omega)).mono ?_;rintro en w3 ⟨rfl, hq3⟩;have G3 := hJ (gQ G2.out (hq3.grown none));clear hq3 HB2 G2;obtain ⟨k, hk⟩ : ∃ k, rkid zs t = k := ⟨_, rfl⟩;rw [hk] at HNK HRR2;clear hk;generalize nm zs t = no at *;generalize nm zs t4 = ks at *;have HKC : Hid (kc [k] = [.int .i64 (no : Int), .int .i64 (ks : Int)]) := by show _ = _; rw [HNK.out]; rfl
    have ga := World.grownBy_alloc w3 (.cells #[.int .i64 (no : Int), .int .i64 (ks : Int)] 67) none
    have HS0 : Hid (Rn5 w (w3.alloc (.cells #[.int .i64 (no : Int), .int .i64 (ks : Int)] 67)) w3.heap.size 0 1 [] [k] (.slice none 0 0) (.slice (some ⟨w3.heap.size, 0, none⟩) 1 1) []) :=
     ⟨⟨rfl, .inl ⟨rfl, rfl⟩⟩, by rw [HKC.out]; exact owns_kid_new w3 w3.heap.size _ _ (Nat.le_refl _), Sx.nil _, gQ G3.out ga, ⟨G3.out.size, by simp⟩, by omega⟩
    clear ga G3;have HOK : Hid (∀ M, rLp zs ((zs.drop q).take p) (N - 1) (t + 8) [] = some M → ∀ x ∈ M, Bt x.sep) := fun M h => (rLp_ok hbt HPB.out (N - 1) (t + 8) [] (fun x hx => by cases hx) h).1
    have HB0 := hJ HB.out;generalize (zs.drop q).take p = P at *;obtain ⟨R, hR⟩ : ∃ R, rLp zs P (N - 1) (t + 8) [] = R := ⟨_, rfl⟩;rw [hR] at HRR2 HOK;have HR0 := hJ hR;clear hR HB HKC HNK HPB;go_wp2;generalize w3.alloc (.cells #[.int .i64 (no : Int), .int .i64 (ks : Int)] 67) = w4 at *;obtain ⟨base, hbase⟩ : ∃ base, w3.heap.size = base := ⟨_, rfl⟩;rw [hbase] at HS0;rw [hbase];clear hbase;obtain ⟨qp, hqp⟩ : ∃ qp : Int, (q : Int) + (p : Int) = qp := ⟨_, rfl⟩;obtain ⟨N1, hN9⟩ : ∃ N1 : Int, (N : Int) - 1 = N1 := ⟨_, rfl⟩;obtain ⟨t8, ht8⟩ : ∃ t8, t + 8 = t8 := ⟨_, rfl⟩;have ht9 : (t : Int) + 8 = (t8 : Int) := by omega
    rw [ht8] at HR0;have ht7 : t8 ≤ 4092 := by omega
    clear ht8 hb2 hb3 hb4 hb5;simp only [ht9, hqp, hN9];have HQP := hJ hqp;clear ht9 hqp hN9 ht1 g1 g2;go_loopw [9, 11, 12, 13, 14, 15, 16] (fun sq ss sk si _ _ _ wr => ∃ (i j z : Nat) (M : List Sk) (xs : List Value), i ≤ N ∧ si = .int .i64 i ∧ sq = .int .i64 z ∧ rLp zs P (N - i) z M = R ∧ M.length = j ∧ j + 1 = i ∧ z ≤ 4092 ∧ Rn5 w wr base j i (seps M) (kids k M) ss sk xs) (fun _ _ _ si _ _ _ _ => N - (intOf si).toNat)
    case atStart => exact ⟨1, 0, t8, [], [], by omega, rfl, rfl, HR0.out, rfl, rfl, ht7, HS0.out⟩
    case round =>
     obtain ⟨i, j, z, M, xs, hi', rfl, rfl, hRL, hml, hji, hz4, hrn⟩ := hrel;have HRL := hJ hRL;have HML := hJ hml;have HRN := hJ hrn;have HJI := hJ hji;have hjb : j < 2047 := by omega
     have hib : 1 ≤ i := by omega
     clear hRL hml hrn HS0 HR0 hji
     by_cases hlt2 : i < N
     ·have HST : Hid (R = match rl zs z with
       | none => none
       | some (s, nx) => if 4092 < nx + s + 8 then none else rLp zs P (N - (i + 1)) (nx + s + 8) (M ++ [⟨P ++ (zs.drop nx).take s, rkid zs (nx + s)⟩])) := by
       show _ = _
       rw [← HRL.out, show N - i = (N - (i + 1)) + 1 by omega, rLp, hl];cases rl zs z with
       | none => rfl
       | some sn => rfl
      clear HRL;have k1 : (i : Int) < (N : Int) := by omega
      go_wp2_with fail
      refine (least5_any _ 4092 c zs z _ (HB0.out.keptN HRN.out.gr) hbt (by omega) (by omega)).mono ?_;rintro en w5 ⟨rfl, hg5⟩;have N5 := hJ (HRN.out.keptN hg5);clear hg5 HRN;cases hrz : rl zs z with
      | none =>
       have HR : Hid (rread zs = none) := by
        have h1 := HST.out;rw [hrz] at h1;have h2 := HRR2.out;rw [h1] at h2;exact h2
       clear HST hrz;simp only [lout];go_wp2
       (try simp only [Exit.inBlock, Exit.then]); refine bodyPost_ret (results_tmp4 rfl _ _ _) rfl ?_
       exact ⟨.inl ⟨HR.out, rfl⟩, N5.out.gr⟩
      | some sn =>
       obtain ⟨s, nx⟩ := sn;have hbz := rl_bd hrz;have HST1 : Hid (R = if 4092 < nx + s + 8 then none else rLp zs P (N - (i + 1)) (nx + s + 8) (M ++ [⟨P ++ (zs.drop nx).take s, rkid zs (nx + s)⟩])) := by have := HST.out; rw [hrz] at this; exact this
       clear HST hrz;simp only [lout];have k2 : ¬ (nx : Int) < 0 := by omega
       by_cases hbig : 4092 < nx + s + 8
       ·have HR : Hid (rread zs = none) := by
         have h1 := HST1.out.trans (if_pos hbig);have h2 := HRR2.out;rw [h1] at h2;exact h2
        have k3 : (4092 : Int) < (nx : Int) + (s : Int) + 8 := by omega
        clear HST1;go_wp2
        (try simp only [Exit.inBlock, Exit.then]); refine bodyPost_ret (results_tmp4 rfl _ _ _) rfl ?_
        exact ⟨.inl ⟨HR.out, rfl⟩, N5.out.gr⟩
       ·have HST2 := hJ (HST1.out.trans (if_neg hbig))
        have k3 : ¬ (4092 : Int) < (nx : Int) + (s : Int) + 8 := by omega
        have HXB := hJ (byt_part5 HB0.out nx s (c - nx) (by omega));have HKD : Hid (rkid zs (nx + s) = ⟨nm zs (nx + s), nm zs (nx + s + 4)⟩) := rfl;have HXL : Hid (((zs.drop nx).take s).length = s) := by show _ = _; rw [List.length_take, List.length_drop, hl]; omega
        have g1 : (nx : Int) + (s : Int) ≤ (c : Int) := by omega
        have hcn : ¬ c = nx := by omega
        have g2 : (nx : Int) ≤ (nx : Int) + (s : Int) := by omega
        have g3 : (0 : Int) ≤ (nx : Int) := by omega
        have g4 : (0 : Int) ≤ (nx : Int) + (s : Int) := by omega
        have hw1 : IntKind.i64.wrap ((nx : Int) + (s : Int)) = (nx : Int) + (s : Int) := by simp [IntKind.wrap, IntKind.bits, IntKind.signed]; omega
        clear HST1;generalize (zs.drop nx).take s = X at *
        go_wp2_with fail
        go_region_held3 (fun _ => True) (trivial)
         ((first
          | (go_simp; go_at_call 19; refine (refBytes_any (some ⟨b, off + q, none⟩) p (c - q) P _ (by exact HP.out.keptN (gQ N5.out.gr ((Qt.refl _).drew.grown none))) (by omega)).mono ?_; rintro en w2 ⟨rfl, hown2, hg2, hs2⟩; have hown2' : w2.ownsRow w5.heap.size 5 1 (.slice (some ⟨w5.heap.size, 0, none⟩) p p) p (P.map (Value.int .u8)) := hown2; have hs2' : w5.heap.size < w2.heap.size := hs2; have HR2 := hJ (gQ ((Qt.refl w5).drew.grown none) hg2); have HG2 := hJ (gQ N5.out.gr HR2.out))
          | (refine step_append_byt5 rfl (.tmp 102) (.tmp 108) (by rfl) w5.heap.size _ p P (by rfl) (by exact hown2') (some ⟨b, off + nx, none⟩) s (c - nx) X (by simp [Act.eval]; omega) (by exact HXB.out.keptN HG2.out) (by omega) (by omega) ?_; intro v6 w6 ho6 hg6; have hg56 : w5.grownBy w6 none := grown_ownN HR2.out hg6 (fun g e => by have := (hown2'.lt g e).1; omega); obtain ⟨a6, c6, rfl, hb6⟩ := owns_any ho6)))
        have N6 := hJ (N5.out.keptN hg56);have HO6 := hJ ho6;clear hg6 hg56 hb6 ho6 hown2 hown2' hs2 hs2' HR2 HG2 N5 hg2
        go_wp2_with (at_builtin; refine wpList_append_own _ rfl _ _ 23 rfl base 25 i0 (.slice none 0 0) 1 24 Tryz.underlying23 hi hz0 hz1 hz2 rfl (by decide) _ j xs rfl (N6.out.own.alloc _) ⟨w6.heap.size, 0, none⟩ 1 1 [.slice a6 (p + s) c6] rfl rfl (cell_one_new _ _ _) (by intro u hu; simp at hu; subst hu; rfl) (by unfold maxLen; omega) (by omega) (by have := N6.out.far.2; simp; omega) ?_)
        intro v7 w7 ho7 hg7 _;have N7 := hJ ((N6.out.keptN (World.grownBy_alloc w6 _ none)).addSep (own_kept5 HO6.out (World.grownBy_alloc w6 _ none)) (by rw [List.length_append, HPL.out, HXL.out]) ho7 hg7);clear ho7 hg7 N6 HO6;obtain ⟨e, he⟩ : ∃ e, nx + s = e := ⟨_, rfl⟩;have he1 : (nx : Int) + (s : Int) = (e : Int) := by omega
        have he2 : e + 8 ≤ 4092 := by omega
        rw [he] at HKD HST2;obtain ⟨e4, he4⟩ : ∃ e4, e + 4 = e4 := ⟨_, rfl⟩;have he5 : (e : Int) + 4 = (e4 : Int) := by omega
        have he6 : e4 + 4 ≤ 4092 := by omega
        rw [he4] at HKD;have HB7 := hJ (HB0.out.keptN N7.out.gr);clear he he4
        go_wp2_with fail
        refine (number5_any _ 4092 c zs e _ HB7.out hbt (by omega) (by omega)).mono ?_;rintro en w8 ⟨rfl, hq8⟩;have N8 := hJ (N7.out.keptN (hq8.grown none));have HB8 := hJ (HB7.out.keptN (hq8.grown none));clear hq8 N7 HB7
        go_wp2_with fail
        refine (number5_any _ 4092 c zs e4 _ HB8.out hbt (by omega) (by omega)).mono ?_;rintro en w9 ⟨rfl, hq9⟩;have N9 := hJ (N8.out.keptN (hq9.grown none));clear hq9 N8 HB8;obtain ⟨k', hk'⟩ : ∃ k', rkid zs e = k' := ⟨_, rfl⟩;rw [hk'] at HKD HST2;clear hk';generalize nm zs e = no' at *;generalize nm zs e4 = ks' at *;have HKN : Hid (k'.no = (no' : Int) ∧ k'.keys = (ks' : Int)) := by rw [HKD.out]; exact ⟨rfl, rfl⟩
        clear HKD
        go_wp2_with (at_builtin; refine wpList_append_own _ rfl _ _ 24 rfl base 67 i1 (.agg #[.int .i64 0, .int .i64 0]) 2 16 Tryz.underlying24 hi1 hy0 hy1 hy2 rfl (by decide) _ i (kc (kids k M)) rfl (N9.out.own2.alloc _) ⟨w9.heap.size, 0, none⟩ 1 1 [.int .i64 (no' : Int), .int .i64 (ks' : Int)] rfl rfl (cell_two_new _ _ _ _) (by intro u hu; simp at hu; rcases hu with rfl | rfl <;> rfl) (by unfold maxLen; omega) (by omega) (by have := N9.out.far.2; simp; omega) ?_)
        intro v10 w10 ho10 hg10 _;have N10 := hJ ((N9.out.keptN (World.grownBy_alloc w9 _ none)).addKid k' (by rw [HKN.out.1, HKN.out.2]; exact ho10) hg10);clear ho10 hg10 N9;have HE1 : Hid (seps M ++ [P ++ X] = seps (M ++ [⟨P ++ X, k'⟩])) := by show _ = _; unfold seps; simp
        have HE2 : Hid (kids k M ++ [k'] = kids k (M ++ [⟨P ++ X, k'⟩])) := by show _ = _; unfold kids; simp
        rw [HE1.out, HE2.out] at N10;go_wp2;go_roundw
        case rel => exact ⟨i + 1, j + 1, e + 8, _, _, by omega, by go_num, by go_num, HST2.out.symm, by simp [HML.out], by have := HJI.out; omega, by omega, N10.out⟩
        case measure => simp [intOf]; omega
     ·have hin : i = N := by omega
      subst hin;have k1 : ¬ (i : Int) < (i : Int) := by omega
      have HR1 : Hid (R = some M) := by
       have := HRL.out;rw [Nat.sub_self] at this;exact this.symm
      have HR : Hid (rread zs = some (k, M)) := by
       have h2 := HRR2.out;rw [HR1.out] at h2;exact h2
      have HLB : Hid (Lb (seps M)) := by
       intro x hx;obtain ⟨y, hy, rfl⟩ := List.mem_map.1 hx;exact HOK.out M HR1.out y hy
      obtain ⟨a, cap, e1, e2, e3, e4, e5⟩ := HRN.out.sx.lz HRN.out.own;obtain ⟨b', cap2, f1, f2, f3, f4, f5⟩ := kc_kl HRN.out.own2;have GR := hJ HRN.out.gr;subst e1 f1;have HNA0 := hJ (Nw.of_owns HRN.out.own HRN.out.far.1);have HNB0 := hJ (Nw.of_owns HRN.out.own2 HRN.out.far.1);have HE := hJ e2;have HF := hJ f2;obtain rfl := HJI.out;clear e2 f2 e3 f3 HRN HRL HR1;go_wp2
      (try simp only [Exit.inBlock, Exit.then]); refine bodyPost_ret (results_tmp4 rfl _ _ _) rfl ?_
      exact ⟨.inr ⟨k, M, a, j, cap, b', cap2, HR.out, by rw [HLV2.out]; rfl, HE.out, HLB.out, HF.out, HML.out, by omega, HNA0.out, HNB0.out⟩, GR.out⟩
theorem Bdec.uniq {zs : List Int} {lv lv' : Int} {L L' : List (List Int)} {K K' : List Kd} {e e' : Int} (h : Bdec zs lv L K e) (g : Bdec zs lv' L' K' e') : lv = lv' ∧ L = L' ∧ K = K' ∧ e = e' := by
 by_cases h0 : e = 0
 ·obtain ⟨_, k, M, hL, hK, hG⟩ := h.good h0
  by_cases g0 : e' = 0
  ·obtain ⟨_, k', M', hL', hK', hG'⟩ := g.good g0
   obtain ⟨e1, e2, e3⟩ := bgood_one hG hG';subst e1 e2 e3;exact ⟨rfl, hL.trans hL'.symm, hK.trans hK'.symm, h0.trans g0.symm⟩
  ·exact absurd hG ((g.bad g0).2.2.2 _ _ _)
 ·by_cases g0 : e' = 0
  ·obtain ⟨_, k', M', _, _, hG'⟩ := g.good g0
   exact absurd hG' ((h.bad h0).2.2.2 _ _ _)
  ·obtain ⟨a1, a2, a3, _⟩ := h.bad h0
   obtain ⟨b1, b2, b3, _⟩ := g.bad g0;have c1 := h.code;have c2 := g.code;exact ⟨a1.trans b1.symm, a2.trans b2.symm, a3.trans b3.symm, by omega⟩
structure DecOut (zs : List Int) (w : World) (en : Ending) (w' : World) : Prop where
 out : ∃ lv a n cap b m cap2 e L K, en = .returned (.tuple #[.int .i64 lv, .slice a n cap, .slice b m cap2, .int .i64 e]) ∧ Bdec zs lv L K e ∧ Lz w' a L ∧ Lb L ∧ L.length = n ∧ Kl w' b K ∧ K.length = m ∧ Nw w w' 25 a n ∧ Nw w w' 67 b m
 gr : w.grownBy w' none
theorem DecOut.bad {zs : List Int} {w w' : World} (h : ∀ lv k M, ¬ BGood zs lv k M) (hg : w.grownBy w' none) : DecOut zs w (.returned (.tuple #[.int .i64 0, .slice none 0 0, .slice none 0 0, .int .i64 50])) w' :=
 ⟨⟨0, none, 0, 0, none, 0, 0, 50, [], [], rfl, ⟨.inr rfl, (fun h => by cases h), fun _ => ⟨rfl, rfl, rfl, h⟩⟩, Lz.zero _ _, (fun s hs => by cases hs), rfl, Kl.zero _ _, rfl, Nw.zero _ _ _ _, Nw.zero _ _ _ _⟩, hg⟩
theorem refDecode5_any (ao : Option Addr) (n c : Nat) (zs : List Int) (w : World) (hb : Byt w ao n c zs) (hbt : Bt zs) (hcc : n ≤ c) (hcm : c ≤ 9223372036854775807) :
  Calls Tryz.prog 42 #[.slice ao n c] w fun en w' => DecOut zs w en w' := by
 have hl := hb.len
 by_cases hn : n = 4092
 ·subst hn
  have HRB : Hid (∀ lv k M, BGood zs lv k M → ((by8 zs 1 : Nat) : Int) = lv ∧ rread zs = some (k, M)) := fun lv k M h => rread_body h
  have HB := hJ hb;clear hb;go_enter Tryz.func42, Tryz.ntmps42
  go_wp2_with fail
  refine (rread_any ao c zs _ HB.out hbt hcc hcm).mono ?_;rintro en w1 ⟨ho, hg1⟩;have G1 := hJ hg1;clear hg1;rcases ho with ⟨hr, rfl⟩ | ⟨k, M, a, j, cap, b, cap2, hr, rfl, hlz, hlb, hkl, hml, hj, hna, hnb⟩
  ·have HN : Hid (∀ lv k M, ¬ BGood zs lv k M) := fun lv k M h => by have := (HRB.out lv k M h).2; rw [hr] at this; cases this
   clear hr;go_wp2
   (try simp only [Exit.inBlock, Exit.then]); refine bodyPost_ret (results_tmp4 rfl _ _ _) rfl ?_
   exact DecOut.bad HN.out G1.out
  ·have HU : Hid (∀ lv' k' M', BGood zs lv' k' M' → ((by8 zs 1 : Nat) : Int) = lv' ∧ k = k' ∧ M = M') := fun lv' k' M' h => by
    obtain ⟨h1, h2⟩ := HRB.out lv' k' M' h;rw [hr] at h2;simp only [Option.some.injEq, Prod.mk.injEq] at h2;exact ⟨h1, h2.1, h2.2⟩
   generalize by8 zs 1 = lv at *;have HLZ := hJ hlz;have HLB := hJ hlb;have HKL := hJ hkl;have HNA := hJ hna;have HNB := hJ hnb;clear hr hlz hlb hkl HRB hna hnb
   go_wp2_with fail
   refine (refEncode5_any (lv : Int) a j cap (seps M) b (j + 1) cap2 (kids k M) _ HLZ.out HLB.out (by rw [seps_len]; exact hml) (by omega) HKL.out (by rw [kids_len, hml]) (by omega)).mono ?_;rintro en w2 ⟨⟨bo, q, qc, e, ys, rfl, hb2, hbe, hq1, hq2, hq3⟩, hg2⟩;have B2 := hJ hb2;have Z2 := hJ ((HB.out.keptN G1.out).keptN hg2);have L2 := hJ (HLZ.out.keptN hg2);have K2 := hJ (HKL.out.keptN hg2);have A2 := hJ (HNA.out.keptN hg2);have C2 := hJ (HNB.out.keptN hg2);have G2 := hJ (gQ G1.out hg2);have HYB := hJ (hbe.bt HLB.out);have HBE := hJ hbe;clear hb2 hg2 hbe G1 HLZ HKL
   have HN2 : Hid (∀ lv' k' M', BGood zs lv' k' M' → e = 0 ∧ ys = zs) := by
    intro lv' k' M' h;obtain ⟨rfl, rfl, rfl⟩ := HU.out lv' k' M' h;have he : e = 0 := HBE.out.code.trans h.1;obtain ⟨k2, M2, h1, h2, h3⟩ := HBE.out.good he;obtain ⟨rfl, rfl⟩ := branch_inj h1 h2;exact ⟨he, h3.2.symm.trans h.2⟩
   by_cases he : e = 0
   ·by_cases hy : ys = zs
    ·have HGD : Hid (Bdec zs (lv : Int) (seps M) (kids k M) 0) := ⟨.inl rfl, fun _ => ⟨hl, k, M, rfl, rfl, by
      obtain ⟨k2, M2, h1, h2, h3⟩ := HBE.out.good he;obtain ⟨rfl, rfl⟩ := branch_inj h1 h2;rw [← hy]; exact h3⟩, fun h => absurd rfl h⟩
     subst he;clear HBE HN2
     go_wp2_with fail
     refine (same_yes _ _ _ _ _ _ _ _ _ B2.out Z2.out hy).mono ?_;rintro en w5 ⟨rfl, rfl⟩;clear hy;go_wp2
     (try simp only [Exit.inBlock, Exit.then]); refine bodyPost_ret (results_tmp4 rfl _ _ _) rfl ?_
     exact ⟨⟨_, a, j, cap, b, j + 1, cap2, 0, seps M, kids k M, rfl, HGD.out, L2.out, HLB.out, by rw [seps_len]; exact hml, K2.out, by rw [kids_len, hml], A2.out, C2.out⟩, G2.out⟩
    ·have HN : Hid (∀ lv k M, ¬ BGood zs lv k M) := fun lv' k' M' h => hy (HN2.out lv' k' M' h).2
     subst he;clear HBE HN2
     go_wp2_with fail
     refine (same_no _ _ _ _ _ _ _ _ _ B2.out Z2.out HYB.out hbt hy).mono ?_;rintro en w5 ⟨rfl, rfl⟩;clear hy;go_wp2
     (try simp only [Exit.inBlock, Exit.then]); refine bodyPost_ret (results_tmp4 rfl _ _ _) rfl ?_
     exact DecOut.bad HN.out G2.out
   ·have HN : Hid (∀ lv k M, ¬ BGood zs lv k M) := fun lv' k' M' h => he (HN2.out lv' k' M' h).1
    have he2 : (e == 0) = false := beq_eq_false_iff_ne.2 he;clear HBE HN2;go_wp2
    (try simp only [Exit.inBlock, Exit.then]); refine bodyPost_ret (results_tmp4 rfl _ _ _) rfl ?_
    exact DecOut.bad HN.out G2.out
 ·have HN : Hid (∀ lv k M, ¬ BGood zs lv k M) := fun lv k M h => hn (by rw [← hl]; exact h.len)
  clear hb;go_enter Tryz.func42, Tryz.ntmps42;go_wp2
  (try simp only [Exit.inBlock, Exit.then]); refine bodyPost_ret (results_tmp4 rfl _ _ _) rfl ?_
  exact DecOut.bad HN.out (World.grownBy.refl _ _)
end Go.Proofs.YtkiopabcnemgnaaGreatDoor
