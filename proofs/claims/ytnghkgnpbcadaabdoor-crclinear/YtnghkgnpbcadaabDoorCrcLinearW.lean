import Derived.Test.YtnghkgnpbcadaabDoorCrc8
import Derived.Laws.Cover1
import Derived.Deep.RegionHeld3
namespace Go.Proofs.YtnghkgnpbcadaabDoor
open Go.RowKit

theorem xor3_len : ∀ (a b c : List Int) (n : Nat), a.length = n → b.length = n → c.length = n → (xor3 a b c).length = n
  | [], [], [], n, h, _, _ => by rw [← h]; rfl
  | a :: a', b :: b', c :: c', n, h1, h2, h3 => by
    rw [xor3, List.length_cons, xor3_len a' b' c' (n - 1) (by simp at h1; omega) (by simp at h2; omega) (by simp at h3; omega)]
    simp at h1; omega
theorem xor3_at : ∀ (a b c : List Int) (n i : Nat), a.length = n → b.length = n → c.length = n → i < n →
    (xor3 a b c).getD i 0 = (((a.getD i 0).toNat ^^^ (b.getD i 0).toNat ^^^ (c.getD i 0).toNat : Nat) : Int)
  | [], _, _, n, i, h, _, _, hi => by simp at h; omega
  | _ :: _, [], _, n, i, _, h, _, hi => by simp at h; omega
  | _ :: _, _ :: _, [], n, i, _, _, h, hi => by simp at h; omega
  | a :: a', b :: b', c :: c', n, 0, _, _, _, _ => by rw [xor3]; rfl
  | a :: a', b :: b', c :: c', n, i + 1, h1, h2, h3, hi => by
    rw [xor3, List.getD_cons_succ, List.getD_cons_succ, List.getD_cons_succ, List.getD_cons_succ]
    exact xor3_at a' b' c' (n - 1) i (by simp at h1; omega) (by simp at h2; omega) (by simp at h3; omega) (by omega)
theorem xor3_bt {a b c : List Int} {n : Nat} (h1 : a.length = n) (h2 : b.length = n) (h3 : c.length = n) (ba : Bt a) (bb : Bt b) (bc : Bt c) : Bt (xor3 a b c) := by
  intro z hz
  obtain ⟨i, hi, rfl⟩ := List.getElem_of_mem hz
  have hin : i < n := by rw [xor3_len a b c n h1 h2 h3] at hi; exact hi
  have e := xor3_at a b c n i h1 h2 h3 hin
  have e2 : (xor3 a b c).getD i 0 = (xor3 a b c)[i] := by simp [List.getD, List.getElem?_eq_getElem hi]
  rw [← e2, e]
  have ha := ba.getD i
  have hb := bb.getD i
  have hc := bc.getD i
  have k1 := @Nat.xor_lt_two_pow (a.getD i 0).toNat (b.getD i 0).toNat 8 (show (a.getD i 0).toNat < 256 by omega) (show (b.getD i 0).toNat < 256 by omega)
  have k2 := @Nat.xor_lt_two_pow ((a.getD i 0).toNat ^^^ (b.getD i 0).toNat) (c.getD i 0).toNat 8 k1 (show (c.getD i 0).toNat < 256 by omega)
  have k3 : (a.getD i 0).toNat ^^^ (b.getD i 0).toNat ^^^ (c.getD i 0).toNat < 256 := k2
  omega
theorem take_set {ls X : List Int} {i n : Nat} (h1 : ls.length = n) (h2 : X.length = n) (h : ls.take i = X.take i) (hi : i < n) : (ls.set i (X.getD i 0)).take (i + 1) = X.take (i + 1) := by
  rw [take_snoc _ i (by rw [List.length_set]; omega), take_snoc X i (by omega), List.take_set_of_le (Nat.le_refl _), h]
  simp [List.getD, h1, hi]
theorem RwL.set {w : World} {g : Nat} {zs : List Int} (h : Rw w g zs) (j : Nat) (z : Int) : Rw (w.setCell ⟨g, j, none⟩ (.int .u8 z)) g (zs.set j z) := by
  unfold Rw
  rw [heap_setCell_same w g j _ _ _ h]
  simp [List.map_set]
theorem grown_setL (w : World) (g j : Nat) (v : Value) : w.grownBy (w.setCell ⟨g, j, none⟩ v) (some g) :=
  ⟨rfl, rfl, rfl, by simp, fun k _ hk => heap_setCell_other w ⟨g, j, none⟩ k _ (fun e => hk (by simp [e]))⟩
theorem RwL.free {w : World} {g : Nat} {zs : List Int} (h : Rw w g zs) (i : Nat) : w.frozen? ⟨g, i, none⟩ = false := frozen_of_row w g i _ _ h

set_option maxHeartbeats 4000000 in
theorem linear_calls (ao bo co : Option Addr) (n m k ca cb cc : Nat) (za zb zc : List Int) (w : World) (ha : Byt w ao n ca za) (hb : Byt w bo m cb zb) (hc : Byt w co k cc zc)
    (ba : Bt za) (bb : Bt zb) (bc : Bt zc) (hca : n ≤ ca) (hcb : m ≤ cb) (hcc : k ≤ cc) (ht : Tab w) :
    Calls Tryd.prog 6 #[.slice ao n ca, .slice bo m cb, .slice co k cc] w fun e w' => e = .returned (.bool true) ∧ w.grownBy w' none := by
  obtain ⟨i0, hi, hz0, hz1, hz2⟩ := info_parts info_u8
  have HA := hid_intro ha
  have HB := hid_intro hb
  have HC := hid_intro hc
  have HT := hid_intro ht
  clear ha hb hc ht
  go_enter Tryd.func6, Tryd.ntmps6
  go_wp2_with fail
  refine (first2_any w HT.out).mono ?_
  rintro e w1 ⟨rfl, hg1⟩
  have G1 := hid_intro hg1
  clear hg1
  obtain ⟨N, hN, hNa, hNb, hNc⟩ : ∃ N : Nat, (if (k : Int) < (if (m : Int) < (n : Int) then (m : Int) else (n : Int)) then (k : Int) else (if (m : Int) < (n : Int) then (m : Int) else (n : Int))) = (N : Int) ∧ N ≤ n ∧ N ≤ m ∧ N ≤ k := by
    by_cases h1 : m < n
    · rw [if_pos (show (m : Int) < (n : Int) by omega)]
      by_cases h2 : k < m
      · exact ⟨k, if_pos (by omega), by omega, by omega, by omega⟩
      · exact ⟨m, if_neg (by omega), by omega, by omega, by omega⟩
    · rw [if_neg (show ¬ (m : Int) < (n : Int) by omega)]
      by_cases h2 : k < n
      · exact ⟨k, if_pos (by omega), by omega, by omega, by omega⟩
      · exact ⟨n, if_neg (by omega), by omega, by omega, by omega⟩
  have hmin : ∀ (ts : Array TypeId) (t : TypeId) (W : World), (Builtin.min_ ts t #[.int .i64 n, .int .i64 m, .int .i64 k]).run Tryd.prog W = .ok (.int .i64 N) W := fun ts t W => by rw [run_min_int3, hN]
  clear hN
  by_cases hn : N ≤ 65536
  case neg =>
    have hn1 : (65536 : Int) < (N : Int) := by omega
    go_wp2
    go_ret
    exact ⟨rfl, G1.out⟩
  have hn1 : ¬ (65536 : Int) < (N : Int) := by omega
  go_wp2_with (at_make; refine wpList_make_full _ rfl _ _ 22 rfl w1.heap.size 5 i0 (.int .u8 0) 1 Tryd.underlying22 hi hz0 hz1 _ _ _ _ N rfl rfl rfl rfl (by rw [hz2]; omega) (by unfold maxLen; omega) (Nat.le_refl _) ?_)
  intro w2 hown2 hg2
  have R2 : Hid (Rw w2 w1.heap.size (List.replicate N 0)) := by
    have h1 : w2.ownsRow w1.heap.size 5 1 (.slice (some ⟨w1.heap.size, 0, none⟩) N N) N ((List.replicate N (0 : Int)).map (Value.int .u8)) := by rw [← made]; simpa using hown2
    exact Rw.of_owns h1
  have G2 := hid_intro hg2
  have TA := hid_intro ((HA.out.keptN G1.out).take N ca hNa (by intro e; have := (HA.out.nil e).2; omega))
  have TB := hid_intro ((HB.out.keptN G1.out).take N cb hNb (by intro e; have := (HB.out.nil e).2; omega))
  have TC := hid_intro ((HC.out.keptN G1.out).take N cc hNc (by intro e; have := (HC.out.nil e).2; omega))
  have ba' : Bt (za.take N) := ba.take N
  have bb' : Bt (zb.take N) := bb.take N
  have bc' : Bt (zc.take N) := bc.take N
  clear hown2 hg2 HA HB HC hmin
  generalize za.take N = xa at *
  generalize zb.take N = xb at *
  generalize zc.take N = xc at *
  have la : xa.length = N := TA.out.len
  have lb : xb.length = N := TB.out.len
  have lc : xc.length = N := TC.out.len
  have hlin := linear (bts ba') (bts bb') (bts bc') (la.trans lb.symm) (lb.trans lc.symm)
  have lX := xor3_len xa xb xc N la lb lc
  have bX := xor3_bt la lb lc ba' bb' bc'
  have aX := hid_intro (fun i hi => xor3_at xa xb xc N i la lb lc hi)
  have HLIN := hid_intro hlin
  clear hlin
  generalize xor3 xa xb xc = X at *
  go_wp2
  go_loopw [10] (fun si wr => ∃ (i : Nat) (ls : List Int), i ≤ N ∧ si = .int .i64 i ∧ Rw wr w1.heap.size ls ∧ ls.length = N ∧ ls.take i = X.take i ∧ w1.grownBy wr none) (fun si _ => N - (intOf si).toNat)
  case atStart => exact ⟨0, List.replicate N 0, by omega, rfl, R2.out, List.length_replicate, by rw [List.take_zero, List.take_zero], G2.out⟩
  case round =>
    obtain ⟨i, ls, hiN, rfl, hr, hl, htk, hg⟩ := hrel
    have R := hid_intro hr
    have G := hid_intro hg
    have HTK := hid_intro htk
    clear hr hg htk R2 G2
    by_cases hlt : i < N
    · obtain ⟨b1, o1, rfl, hb1, hc1⟩ := TA.out.at (by omega)
      obtain ⟨b2, o2, rfl, hb2, hc2⟩ := TB.out.at (by omega)
      obtain ⟨b3, o3, rfl, hb3, hc3⟩ := TC.out.at (by omega)
      have k1 := G.out.cell (hc1 i hlt) (by simp)
      have k2 := G.out.cell (hc2 i hlt) (by simp)
      have k3 := G.out.cell (hc3 i hlt) (by simp)
      have k4 := R.out.cell i (by omega)
      have k5 := RwL.free R.out i
      have z1 := ba'.getD i
      have z2 := bb'.getD i
      have z3 := bc'.getD i
      have hX := aX.out i hlt
      have TS := hid_intro (take_set hl lX HTK.out hlt)
      obtain ⟨x1, e1⟩ : ∃ x : Nat, xa.getD i 0 = (x : Int) := ⟨(xa.getD i 0).toNat, by omega⟩
      obtain ⟨x2, e2⟩ : ∃ x : Nat, xb.getD i 0 = (x : Int) := ⟨(xb.getD i 0).toNat, by omega⟩
      obtain ⟨x3, e3⟩ : ∃ x : Nat, xc.getD i 0 = (x : Int) := ⟨(xc.getD i 0).toNat, by omega⟩
      rw [e1, e2, e3, Int.toNat_natCast, Int.toNat_natCast, Int.toNat_natCast] at hX
      rw [e1] at k1 z1
      rw [e2] at k2 z2
      rw [e3] at k3 z3
      have hy1 := u8_xor_nat x1 x2 (by omega) (by omega)
      have hy0 := @Nat.xor_lt_two_pow x1 x2 8 (show x1 < 256 by omega) (show x2 < 256 by omega)
      have hy2 := u8_xor_nat (x1 ^^^ x2) x3 hy0 (by omega)
      rw [← hX] at hy2
      have hy0' : x1 ^^^ x2 < 256 := hy0
      clear hy0 e1 e2 e3 hc1 hc2 hc3
      generalize ls.getD i 0 = y0 at *
      obtain ⟨y, hy⟩ : ∃ y, X.getD i 0 = y := ⟨_, rfl⟩
      rw [hy] at hy2 hX TS
      have HY := hid_intro hX
      clear hX hy aX HLIN HTK
      generalize x1 ^^^ x2 = x12 at *
      have p0 : (0 : Int) ≤ (i : Int) := by omega
      have p1 : (i : Int) < (n : Int) := by omega
      have p2 : (i : Int) < (m : Int) := by omega
      have p3 : (i : Int) < (k : Int) := by omega
      have p4 : (i : Int) < (N : Int) := by omega
      have s1 : ∀ v, (wr.setCell ⟨w1.heap.size, i, none⟩ v).cell? ⟨b1, o1 + i, none⟩ = some (.int .u8 x1) := fun v => (World.cell?_of_block (heap_setCell_other wr _ _ v (show b1 ≠ w1.heap.size by omega))).trans k1
      have s2 : ∀ v, (wr.setCell ⟨w1.heap.size, i, none⟩ v).cell? ⟨b2, o2 + i, none⟩ = some (.int .u8 x2) := fun v => (World.cell?_of_block (heap_setCell_other wr _ _ v (show b2 ≠ w1.heap.size by omega))).trans k2
      have s3 : ∀ v, (wr.setCell ⟨w1.heap.size, i, none⟩ v).cell? ⟨b3, o3 + i, none⟩ = some (.int .u8 x3) := fun v => (World.cell?_of_block (heap_setCell_other wr _ _ v (show b3 ≠ w1.heap.size by omega))).trans k3
      have n1 : b1 ≠ w1.heap.size := by omega
      have n2 : b2 ≠ w1.heap.size := by omega
      have n3 : b3 ≠ w1.heap.size := by omega
      go_wp2_with fail
      go_region_held3 (fun w' => w'.cell? ⟨b1, o1 + i, none⟩ = some (.int .u8 x1) ∧ w'.cell? ⟨b2, o2 + i, none⟩ = some (.int .u8 x2) ∧ w'.cell? ⟨b3, o3 + i, none⟩ = some (.int .u8 x3)) (go_keep) (fail)
      go_wp2
      go_roundw
      case rel =>
        refine ⟨i + 1, ls.set i y, by omega, by go_num, ?_, by rw [List.length_set]; exact hl, TS.out, ?_⟩
        · exact RwL.set R.out i y
        · exact grown_trans (grown_new G.out (grown_setL wr w1.heap.size i _) (Nat.le_refl _)) ((Qt.refl _).drew.grown none)
      case measure => simp [intOf]; omega
    · have hin : i = N := by omega
      subst hin
      have hls : ls = X := by have := HTK.out; rwa [List.take_of_length_le (by omega), List.take_of_length_le (by omega)] at this
      subst hls
      have BX := hid_intro (R.out.all i i hl.symm)
      have TA2 := hid_intro (TA.out.keptN G.out)
      have TB2 := hid_intro (TB.out.keptN G.out)
      have TC2 := hid_intro (TC.out.keptN G.out)
      have GG := hid_intro (grown_trans G1.out G.out)
      have T2 := hid_intro (HT.out.keptN GG.out)
      have u1 := upd_lt 0 xa
      have u2 := upd_lt 0 xb
      have u3 := upd_lt 0 xc
      have hx1 := u32_xor_nat (upd 0 xa) (upd 0 xb) u1 u2
      have hx2 := u32_xor_nat (upd 0 xa ^^^ upd 0 xb) (upd 0 xc) (xor_lt u1 u2) u3
      rw [← HLIN.out] at hx2
      have i0 : (0 : Int) ≤ (i : Int) := by omega
      have i1 : (i : Int) ≤ (ca : Int) := by omega
      have i2 : (i : Int) ≤ (cb : Int) := by omega
      have i3 : (i : Int) ≤ (cc : Int) := by omega
      clear aX HLIN HTK R G TA TB TC
      go_wp2_with fail
      go_quiet ((first
        | (go_at_call_of 11 (Value.slice (some ⟨w1.heap.size, 0, none⟩) i i); exact Calls.quiet_of_same (sum_any _ i i ls _ (by exact BX.out.heap rfl) bX (by exact T2.out) (by omega)))
        | (go_at_call_of 11 (Value.slice ao i ca); exact Calls.quiet_of_same (sum_any ao i ca xa _ (by exact TA2.out.heap rfl) ba' (by exact T2.out) (by omega)))
        | (go_at_call_of 11 (Value.slice bo i cb); exact Calls.quiet_of_same (sum_any bo i cb xb _ (by exact TB2.out.heap rfl) bb' (by exact T2.out) (by omega)))
        | (go_at_call_of 11 (Value.slice co i cc); exact Calls.quiet_of_same (sum_any co i cc xc _ (by exact TC2.out.heap rfl) bc' (by exact T2.out) (by omega)))))
      go_wp2
      go_ret
      exact ⟨rfl, grown_trans GG.out ((Qt.drewN _ _).grown none)⟩
end Go.Proofs.YtnghkgnpbcadaabDoor
