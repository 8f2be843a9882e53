import Derived.Test.YtmbbflfknldaoaaGreatDoorQ41
import Derived.Test.YtmbbflfknldaoaaGreatDoorQ39
import Derived.Test.YtmbbflfknldaoaaGreatDoorQ14
import Derived.Test.YtmbbflfknldaoaaGreatDoorQ13
import Derived.Test.YtmbbflfknldaoaaGreatDoorQ42
import Derived.LaidMore
import Derived.Stop.Joined
import Derived.SevenTiedAt
import Derived.WalkKit
import Derived.ProofKit
import Derived.OpenShut
import Derived.ShutString
import Derived.ChangeOld
import Derived.Below
import Derived.SizedLaws
import Derived.Deep.Slices
import Derived.Test.YtmbbflfknldaoaaGreatDoorRows
import Derived.Test.YtmbbflfknldaoaaGreatDoorCards
import Derived.Test.YtmbbflfknldaoaaGreatDoorTie
namespace Go.Proofs.YtmbbflfknldaoaaGreatDoor
open Go.RowKit
theorem xor_byte6 {z x : Int} (hz : 0 ≤ z ∧ z ≤ 255) (hx : 0 ≤ x ∧ x ≤ 255) : 0 ≤ bits .xor .u8 z x ∧ bits .xor .u8 z x ≤ 255 := by
 have e := u8_xor z x hz.1 (by omega) hx.1 (by omega)
 have hlt := Nat.xor_lt_two_pow (x := z.toNat) (y := x.toNat) (n := 8) (by omega) (by omega)
 rw [e]
 omega
theorem bt_set6 {zs : List Int} {i : Nat} {v : Int} (h : Bt zs) (hv : 0 ≤ v ∧ v ≤ 255) : Bt (zs.set i v) := fun z hz => by
 rcases List.mem_or_eq_of_mem_set hz with h1 | h1
 ·exact h z h1
 ·subst h1; omega
theorem cell_two6 (w : World) (a b : Value) (t : TypeId) : ∀ j u, [a, b][j]? = some u → (w.alloc (.cells #[a, b] t)).cell? ((⟨w.heap.size, 0, none⟩ : Addr).add j) = some u := by
 intro j u hu
 rw [Addr.add_lit, Nat.zero_add, cell_of_row _ w.heap.size j _ _ (0, 0) (heap_alloc_new w _)]
 match j with
 | 0 => simpa using hu
 | 1 => simpa using hu
 | j + 2 => simp at hu
theorem map79 (xs : List Int) : xs.map (Value.int .i64) ++ [.int .i64 7, .int .i64 9] = (xs ++ [7, 9]).map (Value.int .i64) := by simp
set_option maxHeartbeats 16000000 in
set_option maxRecDepth 100000 in
theorem chainOwn_walk (ao : Option Addr) (n cap : Nat) (zs : List Int) (a1 : Option Addr) (n1 cap1 : Nat) (xs : List Int) (w : World) (hb : Byt w ao n cap zs) (hbt : Bt zs) (hx : Nt w a1 xs) (hl1 : xs.length = n1) (htz : Tz w) :
  Calls Tryz.prog 3 #[.slice ao n cap, .slice a1 n1 cap1] w fun en w' => en = .returned (.bool true) ∧ w.grownBy w' none := by
 obtain ⟨i1, hi1, hy0, hy1, hy2⟩ := info_parts info_intC
 have HB := hid_intro hb
 have HX := hid_intro hx
 have HTZ := hid_intro htz
 have HBT := hid_intro hbt
 have hl := hb.len
 clear hb hx htz hbt
 go_enter Tryz.func3, Tryz.ntmps3
 go_wp2_with fail
 refine (first6_any _).mono ?_
 rintro en w1 ⟨rfl, hg1⟩
 have G1 := hid_intro hg1
 clear hg1
 by_cases hbig : 20000 < n
 ·have hbig' : (20000 : Int) < (n : Int) := by omega
  go_wp2
  go_ret
  exact ⟨rfl, G1.out⟩
 have hbig' : ¬ (20000 : Int) < (n : Int) := by omega
 by_cases hbig1 : 1021 < n1
 ·have hbig1' : (1021 : Int) < (n1 : Int) := by omega
  go_wp2
  go_ret
  exact ⟨rfl, G1.out⟩
 have hbig1' : ¬ (1021 : Int) < (n1 : Int) := by omega
 have K2 := hid_intro (kbx_new w1)
 have G2 := hid_intro (grown_trans G1.out (World.grownBy_alloc w1 (.cells kbookZ 40 (0, 0)) none))
 have hB0 := G1.out.size
 go_wp2_with (refine wpList_build_kbook rfl rfl ?_)
 obtain ⟨w2, hw2⟩ : ∃ w2, w1.alloc (.cells kbookZ 40 (0, 0)) = w2 := ⟨_, rfl⟩
 rw [hw2] at K2 G2 ⊢
 obtain ⟨B, hB⟩ : ∃ B, w1.heap.size = B := ⟨_, rfl⟩
 have hs2 : w2.heap.size = B + 1 := by rw [← hw2, ← hB]; simp
 rw [hB] at K2 hB0 ⊢
 clear hw2 hB G1
 refine (roomy6_any ao n cap zs _ (HB.out.keptN G2.out) (by omega)).mono ?_
 rintro en w3 ⟨V, cV, rfl, hV, hVn, hg3⟩
 have G3 := hid_intro (grown_trans G2.out hg3)
 have K3 := hid_intro (K2.out.kept hg3 (by simp))
 have O3 := hid_intro hV
 have hcV : n + 40 ≤ cV := by have := hV.le; rw [List.length_append, marks_len] at this; omega
 have hcm := hV.max
 have hVl := hV.lt
 have hs3 := hg3.size
 clear hg3 G2 K2 hV
 go_wp2_with fail
 refine (refInts_own a1 n1 cap1 xs _ (HX.out.keptN G3.out) hl1 (by omega)).mono ?_
 rintro en w4 ⟨⟨v4, rfl, ho4⟩, hg4, hs4, _⟩
 obtain ⟨bo4, cb4, rfl⟩ := own_sl ho4
 have G4 := hid_intro (grown_trans G3.out hg4)
 have K4 := hid_intro (K3.out.kept hg4 (by simp))
 have O4 := hid_intro (O3.out.keptN hg4)
 have I4 := hid_intro ho4
 clear hg4 ho4 G3 K3 O3
 go_wp2_with (at_builtin; refine wpList_append_own _ rfl _ _ 23 rfl w3.heap.size 3 i1 (.int .i64 0) 1 8 Tryz.underlying23 hi1 hy0 hy1 hy2 rfl (by decide) _ n1 (xs.map (Value.int .i64)) rfl (I4.out.alloc _) ⟨w4.heap.size, 0, none⟩ 2 2 [.int .i64 7, .int .i64 9] rfl rfl (cell_two6 _ _ _ _) (by intro u hu; simp at hu; rcases hu with rfl | rfl <;> rfl) (by unfold maxLen; omega) (by omega) (by simp; omega) ?_)
 intro v5 w5 ho5 hg5 _
 have hown5 := ho5.lt
 have G5 := hid_intro (grown_appC G4.out I4.out (by omega) hg5)
 have HGA := World.grownBy_alloc w4 (.cells #[.int .i64 7, .int .i64 9] 3) none
 have hsl4 : ∀ i, (Value.slice bo4 n1 cb4).ownBlock = some i → w3.heap.size ≤ i := fun i e => (I4.out.lt i e).1
 have K5 := hid_intro ((K4.out.kept HGA (by simp)).kept hg5 (fun e => by have := hsl4 B e.symm; omega))
 have O5 := hid_intro ((O4.out.keptN HGA).kept hg5 (fun e => by have := hsl4 V e.symm; omega))
 have hs5 : w4.heap.size ≤ w5.heap.size := by have := hg5.size; simp at this; omega
 rw [map79] at ho5
 obtain ⟨J, cJ, rfl, _, _⟩ := ho5.form (by omega)
 obtain ⟨h6, _, hJ1, hJ2⟩ := Oi.of_owns ho5
 have I5 := hid_intro h6
 have hcJ : n1 + 2 ≤ cJ := by have := h6.le; rw [List.length_append] at this; simp at this; omega
 have hcJm := h6.max
 clear hg5 HGA h6 ho5 G4 K4 O4 I4 hown5 hsl4
 have HCC : Hid (Cc w B w5.heap.size V J) := ⟨⟨hB0, by omega⟩, ⟨by omega, by omega, by omega⟩, ⟨by omega, by omega, by omega, by omega⟩⟩
 obtain ⟨base, hbase⟩ : ∃ base, base = w5.heap.size := ⟨_, rfl⟩
 have HC0 : Hid (Cs w B base V cV J cJ zs xs w5 kcs0 (fun _ => []) base) := ⟨⟨_, kst_new kds_ok K5.out (by omega) (by omega)⟩, O5.out, I5.out, G5.out, fun i t ht => by simp at ht, fun _ _ _ _ => rfl⟩
 rw [← hbase] at HCC
 clear K5 O5 I5 G5 hbase
 go_wp2
 go_loopw [11, 12, 13, 14, 15, 16, 17, 18, 19, 20, 21, 22, 23, 24, 25, 26, 27, 28, 29, 30, 31, 32, 33, 34, 35, 36, 37, 38] (fun si _ _ _ _ _ _ _ _ _ _ _ _ _ _ _ _ _ _ _ _ _ _ _ _ _ _ _ wr => ∃ i : Nat, i ≤ 2 ∧ si = .int .i64 i ∧ ∃ (cs : Nat → Value) (L : Nat → List Lst) (zs' xs' : List Int), Cs w B base V cV J cJ zs' xs' wr cs L wr.heap.size ∧ zs'.length = n ∧ Bt zs' ∧ xs'.length = n1 ∧ (L 0).length ≤ 100 * i ∧ (L 1).length ≤ 10 * i ∧ (L 3).length ≤ 10 * i) (fun si _ _ _ _ _ _ _ _ _ _ _ _ _ _ _ _ _ _ _ _ _ _ _ _ _ _ _ _ => 2 - (intOf si).toNat)
 case atStart => exact ⟨0, by omega, rfl, kcs0, fun _ => [], zs, xs, HC0.out.top, hl, HBT.out, hl1, by simp, by simp, by simp⟩
 case round =>
  obtain ⟨i, hi2, rfl, cs, L, zs', xs', hC, hzl, hzb, hxl, hl0, hlI, hl3⟩ := hrel
  have HC := hid_intro hC
  have HZB := hid_intro hzb
  clear hC hzb HC0 HBT
  by_cases hlt : i < 2
  ·have hbw := HC.out.base
   have HFR : Hid (∀ d, wr.heap.size ≤ d → Fre base cs d) := fun d hd => HC.out.new hd
   have HBY := hid_intro (HC.out.v.part.byt n hzl.symm)
   obtain ⟨N, hN⟩ : ∃ N, N = pg n := ⟨_, rfl⟩
   have hN65 : N ≤ 65 := by rw [hN]; exact pg_le n
   have HN := hid_intro hN
   clear hN
   go_wp2_with fail
   refine (pieces_own (some ⟨V, 0, none⟩) n cV zs' _ HBY.out ⟨by omega, hcm⟩).mono ?_
   rw [← HN.out]
   rintro en w6 ⟨rfl, hp6, hg6⟩
   have C6 := hid_intro (HC.out.n hg6)
   have P6 := hid_intro hp6
   have BY6 := hid_intro (HBY.out.keptN hg6)
   have hs6 := hg6.size
   clear hp6 hg6 HBY HC
   generalize wr.heap.size = H0 at *
   go_wp2_with fail
   refine (refPieces_any (some ⟨V, 0, none⟩) n cV zs' _ BY6.out ⟨by omega, hcm⟩).mono ?_
   rw [← HN.out]
   rintro en w7 ⟨a7, c7, rfl, hlz7, hg7⟩
   have C7 := hid_intro (C6.out.n hg7)
   have P7 := hid_intro (P6.out.keptN hg7)
   have L7 := hid_intro hlz7
   have hs7 := hg7.size
   clear hlz7 hg7 C6 P6 BY6 HN
   have HLB : Hid (Lb (pcs zs' N)) := fun s hs => by
    unfold pcs at hs
    obtain ⟨j, _, rfl⟩ := List.mem_map.1 hs
    exact pc_bt HZB.out j
   go_wp2_with fail
   refine (sameLists_any (some ⟨H0, 0, none⟩) N N (pcs zs' N) a7 N c7 (pcs zs' N) _ P7.out.pr.lz HLB.out (pcs_len _ _) L7.out HLB.out (pcs_len _ _) (by omega)).mono ?_
   rintro en w8 ⟨⟨b8, rfl, hb8⟩, hq8⟩
   obtain rfl : b8 = true := hb8.2 rfl
   have C8 := hid_intro (C7.out.n (hq8.grown none))
   have P8 := hid_intro (P7.out.keptN (hq8.grown none))
   have hs8 := (hq8.grown none : w7.grownBy w8 none).size
   clear hb8 hq8 C7 P7 L7 HLB
   go_wp2_with fail
   refine (keep_p HCC.out C8.out HZB.out P8.out (Nat.le_refl _) (fun d h1 _ => HFR.out d h1) hN65 (by omega) (by omega)).mono ?_
   rintro en w9 ⟨rfl, cs9, D, s9, hD, hc9, hf9⟩
   have hs9 := hf9.size
   have C9 := hid_intro (hc9.more hs9)
   have HL9 : Hid (((lsn (lsn L 0 D) 3 [s9]) 0).length ≤ (L 0).length + 65 ∧ ((lsn (lsn L 0 D) 3 [s9]) 1).length = (L 1).length ∧ ((lsn (lsn L 0 D) 3 [s9]) 3).length = (L 3).length + 1) := by
    refine ⟨?_, ?_, ?_⟩
    ·rw [lsn_far _ _ (by omega), lsn_same, List.length_append]; omega
    ·rw [lsn_far _ _ (by omega), lsn_far _ _ (by omega)]
    ·rw [lsn_same, lsn_far _ _ (by omega), List.length_append]; rfl
   generalize lsn (lsn L 0 D) 3 [s9] = L9 at *
   have hL90 := HL9.out.1
   have hL91 := HL9.out.2.1
   have hL93 := HL9.out.2.2
   clear hc9 hf9 C8 P8 hD HL9 HFR
   obtain ⟨k, hk⟩ : ∃ k, k = min n 4085 := ⟨_, rfl⟩
   have hkn : k ≤ n := by omega
   have hk4 : k ≤ 4085 := by omega
   have hk0 : 0 < n → 0 < k := by omega
   have hmin : ∀ (ts : Array TypeId) (ty : TypeId) (W : World), (Builtin.min_ ts ty #[.int .i64 (n : Int), .int .i64 4085]).run Tryz.prog W = .ok (.int .i64 (k : Int)) W := by
    intro ts ty W
    rw [run_min_int2, hk]
    congr 2
    split <;> omega
   clear hk
   have HFR9 : Hid (∀ d, w9.heap.size ≤ d → Fre base cs9 d) := fun d hd => C9.out.new hd
   have HT9 := hid_intro (C9.out.take k (by omega))
   go_wp2_with fail
   refine (encodeData_any 0 (some ⟨V, 0, none⟩) k cV (zs'.take k) _ HT9.out (by omega)).mono ?_
   rintro en w10 ⟨bo10, m10, rfl, hb10, hn10, hg10⟩
   obtain ⟨T, hT⟩ := pe_rw (cs := cs9) hb10 hn10 HFR9.out
   have T10 := hid_intro T
   have E10 := hid_intro hT
   have C10 := hid_intro (C9.out.n hg10)
   have BA : Hid (Bt (oD 0 (zs'.take k))) := oD_bt (fun z hz => HZB.out z (List.mem_of_mem_take hz))
   have hm10 : m10 ≤ 4092 := by have h1 := hb10.len; have h2 := oD_le 0 (zs'.take k) (by rw [List.length_take]; omega); omega
   have HT10 := hid_intro (HT9.out.keptN hg10)
   have hs10 := hg10.size
   clear hb10 hn10 hg10 T hT HT9 C9 HFR9
   go_wp2_with fail
   refine (refEncodeData_any 0 (some ⟨V, 0, none⟩) k cV (zs'.take k) _ HT10.out (by omega)).mono ?_
   rintro en w11 ⟨bo11, m11, c11, rfl, hb11, hg11⟩
   have T11 := hid_intro (T10.out.n hg11)
   have E11 := hid_intro (E10.out.n hg11)
   have C11 := hid_intro (C10.out.n hg11)
   have B11 := hid_intro hb11
   have hs11 := hg11.size
   clear hb11 hg11 T10 E10 C10 HT10
   generalize oD 0 (zs'.take k) = A at *
   generalize eD 0 k = ea at *
   go_wp2_with fail
   refine (same_yes bo10 bo11 m10 m11 m10 c11 A A _ T11.out.by' B11.out rfl).mono ?_
   rintro en w12 ⟨rfl, hw12⟩
   subst hw12
   clear B11
   have HFR11 : Hid (∀ d, w12.heap.size ≤ d → Fre base cs9 d) := fun d hd => C11.out.new hd
   have HJ11 := hid_intro C11.out.j.part.nt
   go_wp2_with fail
   refine (encodeList_any 0 (some ⟨J, 0, none⟩) n1 cJ xs' _ HJ11.out hxl (by omega)).mono ?_
   rintro en w13 ⟨bo13, m13, rfl, hb13, hn13, hg13⟩
   obtain ⟨T, hT⟩ := pe_rw (cs := cs9) hb13 hn13 HFR11.out
   have T13 := hid_intro T
   have E13 := hid_intro hT
   have T13a := hid_intro (T11.out.n hg13)
   have E13a := hid_intro (E11.out.n hg13)
   have C13 := hid_intro (C11.out.n hg13)
   have BC : Hid (Bt (oL 0 xs')) := oL_bt _ _
   have hm13 : m13 ≤ 4092 := by have h1 := hb13.len; have h2 := oL_le 0 xs' (by omega); omega
   have HJ13 := hid_intro (HJ11.out.keptN hg13)
   have hs13 := hg13.size
   clear hb13 hn13 hg13 T hT T11 E11 C11 HJ11 HFR11
   go_wp2_with fail
   refine (refEncodeList_any 0 (some ⟨J, 0, none⟩) n1 cJ xs' _ HJ13.out hxl (by omega)).mono ?_
   rintro en w14 ⟨bo14, m14, c14, rfl, hb14, hg14⟩
   have T14 := hid_intro (T13.out.n hg14)
   have E14 := hid_intro (E13.out.n hg14)
   have T14a := hid_intro (T13a.out.n hg14)
   have E14a := hid_intro (E13a.out.n hg14)
   have C14 := hid_intro (C13.out.n hg14)
   have B14 := hid_intro hb14
   have hs14 := hg14.size
   clear hb14 hg14 T13 E13 T13a E13a C13 HJ13
   generalize oL 0 xs' = Cb at *
   generalize eL 0 xs' = ec at *
   go_wp2_with fail
   refine (same_yes bo13 bo14 m13 m14 m13 c14 Cb Cb _ T14.out.by' B14.out rfl).mono ?_
   rintro en w15 ⟨rfl, hw15⟩
   subst hw15
   clear B14
   have hea : (ea != ea) = false := by simp
   have hec : (ec != ec) = false := by simp
   go_wp2_with fail
   refine (num6_any ea _).mono ?_
   rintro en w16 ⟨rfl, hw16⟩
   subst hw16
   go_wp2_with fail
   refine (num6_any ec _).mono ?_
   rintro en w17 ⟨rfl, hw17⟩
   subst hw17
   go_wp2_with fail
   refine (keep_b HCC.out C14.out bo10 m10 A T14a.out E14a.out (by omega) hs10 (by omega)).mono ?_
   rintro en w18 ⟨rfl, cs18, s18, hc18, hf18⟩
   have hs18 := hf18.size
   have C18 := hid_intro (hc18.more hs11)
   have T18 := hid_intro (T14.out.kee hf18.toKee)
   have E18 := hid_intro (E14.out.kee hf18.toKee)
   have T18a := hid_intro (T14a.out.kee hf18.toKee)
   have HL18 : Hid ((lsn L9 0 [s18] 0).length = (L9 0).length + 1 ∧ (lsn L9 0 [s18] 1).length = (L9 1).length ∧ (lsn L9 0 [s18] 3).length = (L9 3).length) := by
    refine ⟨?_, ?_, ?_⟩
    ·rw [lsn_same, List.length_append]; rfl
    ·rw [lsn_far _ _ (by omega)]
    ·rw [lsn_far _ _ (by omega)]
   generalize lsn L9 0 [s18] = L18 at *
   have hL180 := HL18.out.1
   have hL181 := HL18.out.2.1
   have hL183 := HL18.out.2.2
   clear hc18 hf18 C14 T14 E14 T14a E14a HL18
   go_wp2_with fail
   refine (keep_b HCC.out C18.out bo13 m13 Cb T18.out E18.out (by omega) hs13 (by omega)).mono ?_
   rintro en w19 ⟨rfl, cs19, s19, hc19, hf19⟩
   have hs19 := hf19.size
   have C19 := hid_intro (hc19.more (show _ ≤ w19.heap.size by omega))
   have T19 := hid_intro (T18.out.kee hf19.toKee)
   have T19a := hid_intro (T18a.out.kee hf19.toKee)
   have HL19 : Hid ((lsn L18 0 [s19] 0).length = (L18 0).length + 1 ∧ (lsn L18 0 [s19] 1).length = (L18 1).length ∧ (lsn L18 0 [s19] 3).length = (L18 3).length) := by
    refine ⟨?_, ?_, ?_⟩
    ·rw [lsn_same, List.length_append]; rfl
    ·rw [lsn_far _ _ (by omega)]
    ·rw [lsn_far _ _ (by omega)]
   generalize lsn L18 0 [s19] = L19 at *
   have hL190 := HL19.out.1
   have hL191 := HL19.out.2.1
   have hL193 := HL19.out.2.2
   clear hc19 hf19 C18 T18 E18 T18a HL19
   go_wp2_with fail
   refine (roomy6_any bo10 m10 m10 A _ T19a.out.by' (by omega)).mono ?_
   rintro en w20 ⟨X, cX, rfl, hX, hXn, hg20⟩
   have C20 := hid_intro (C19.out.n hg20)
   have T20 := hid_intro (T19.out.n hg20)
   have T20a := hid_intro (T19a.out.n hg20)
   have X20 : Hid (Wx w20 base cs19 X cX (A ++ marks)) := ⟨hX, C19.out.new hXn⟩
   have hcX : m10 + 40 ≤ cX := by have h1 := hX.le; have h2 := T19a.out.by'.len; rw [List.length_append, marks_len] at h1; omega
   have hcXm := hX.max
   have hs20 := hg20.size
   clear hX hg20 C19 T19 T19a
   go_wp2_with fail
   refine (roomy6_any bo13 m13 m13 Cb _ T20.out.by' (by omega)).mono ?_
   rintro en w21 ⟨Y, cY, rfl, hY, hYn, hg21⟩
   have C21 := hid_intro (C20.out.n hg21)
   have T21 := hid_intro (T20.out.n hg21)
   have T21a := hid_intro (T20a.out.n hg21)
   have X21 := hid_intro (X20.out.n hg21)
   have Y21 : Hid (Wx w21 base cs19 Y cY (Cb ++ marks)) := ⟨hY, C20.out.new hYn⟩
   have hcY : m13 + 40 ≤ cY := by have h1 := hY.le; have h2 := T20.out.by'.len; rw [List.length_append, marks_len] at h1; omega
   have hcYm := hY.max
   have hs21 := hg21.size
   have HlA : Hid (A.length = m10) := T20a.out.by'.len
   have HlC : Hid (Cb.length = m13) := T20.out.by'.len
   clear hY hg21 C20 T20 T20a X20
   have HFR21 : Hid (∀ d, w21.heap.size ≤ d → Fre base cs19 d) := fun d hd => C21.out.new hd
   go_wp2_with fail
   refine (decodeData_own (some ⟨X, 0, none⟩) m10 cX A _ (X21.out.o.part.byt m10 HlA.out.symm) BA.out).mono ?_
   rintro en w22 ⟨bo22, m22, rfl, hb22, hn22, hg22⟩
   obtain ⟨T, hT⟩ := pe_data (cs := cs19) hb22 hn22 HFR21.out
   have T22 := hid_intro T
   have E22 := hid_intro hT
   have C22 := hid_intro (C21.out.n hg22)
   have X22 := hid_intro (X21.out.n hg22)
   have Y22 := hid_intro (Y21.out.n hg22)
   have T22c := hid_intro (T21.out.n hg22)
   have T22a := hid_intro (T21a.out.n hg22)
   have hm22 : m22 ≤ 100000 := by
    have h1 := hb22.len
    have h2 : (vD A).length ≤ 65536 := by
     unfold vD rD
     split
     ·split
      ·rw [List.length_take]; omega
      ·simp
     ·simp
    omega
   have hs22 := hg22.size
   clear hb22 hn22 hg22 T hT C21 X21 Y21 T21 T21a HFR21
   have HFR22 : Hid (∀ d, w22.heap.size ≤ d → Fre base cs19 d) := fun d hd => C22.out.new hd
   go_wp2_with fail
   refine (decodeList_any (some ⟨Y, 0, none⟩) m13 cY Cb _ (Y22.out.o.part.byt m13 HlC.out.symm) BC.out).mono ?_
   rintro en w23 ⟨bo23, m23, rfl, hb23, hl23, hn23, hg23⟩
   obtain ⟨T, hT⟩ := pe_ints (cs := cs19) hb23 hl23 hn23 HFR22.out
   have T23 := hid_intro T
   have E23 := hid_intro hT
   have C23 := hid_intro (C22.out.n hg23)
   have X23 := hid_intro (X22.out.n hg23)
   have Y23 := hid_intro (Y22.out.n hg23)
   have T23c := hid_intro (T22c.out.n hg23)
   have T23a := hid_intro (T22a.out.n hg23)
   have T23q := hid_intro (T22.out.n hg23)
   have E23q := hid_intro (E22.out.n hg23)
   have hm23 : m23 ≤ 1021 := by
    rw [← hl23]
    unfold uL
    split
    ·rename_i h; rw [rL_len]; exact (dL_parts h).2.1
    ·simp
   have HL23 := hid_intro hl23
   have hs23 := hg23.size
   clear hb23 hl23 hn23 hg23 T hT C22 X22 Y22 T22 E22 T22c T22a HFR22
   have HFR23 : Hid (∀ d, w23.heap.size ≤ d → Fre base cs19 d) := fun d hd => C23.out.new hd
   go_wp2_with fail
   refine (decodeList_any (some ⟨Y, 0, none⟩) m13 cY Cb _ (Y23.out.o.part.byt m13 HlC.out.symm) BC.out).mono ?_
   rintro en w24 ⟨bo24, m24, rfl, hb24, hl24, hn24, hg24⟩
   obtain ⟨T, hT⟩ := pe_ints (cs := cs19) hb24 hl24 hn24 HFR23.out
   have T24s := hid_intro T
   have E24s := hid_intro hT
   have C24 := hid_intro (C23.out.n hg24)
   have X24 := hid_intro (X23.out.n hg24)
   have Y24 := hid_intro (Y23.out.n hg24)
   have T24c := hid_intro (T23c.out.n hg24)
   have T24a := hid_intro (T23a.out.n hg24)
   have T24q := hid_intro (T23q.out.n hg24)
   have E24q := hid_intro (E23q.out.n hg24)
   have T24r := hid_intro (T23.out.n hg24)
   have E24r := hid_intro (E23.out.n hg24)
   have hm24 : m24 ≤ 1021 := by have := HL23.out; omega
   have HL24 := hid_intro hl24
   have hs24 := hg24.size
   clear hb24 hl24 hn24 hg24 T hT C23 X23 Y23 T23 E23 T23c T23a T23q E23q HFR23
   have C24 := hid_intro (C24.out.more (show w19.heap.size ≤ w21.heap.size by omega))
   generalize vD A = vda at *
   generalize uL Cb = ulc at *
   generalize vN A = vna at *
   generalize vE A = vea at *
   generalize uN Cb = unc at *
   generalize uE Cb = uec at *
   go_wp2_with fail
   refine (keep_b HCC.out C24.out bo22 m22 vda T24q.out E24q.out hm22 hs22 (by omega)).mono ?_
   rintro en w25 ⟨rfl, cs25, s25, hc25, hf25⟩
   have hs25 := hf25.size
   have C25 := hid_intro hc25
   have T25c := hid_intro (T24c.out.kee hf25.toKee)
   have T25a := hid_intro (T24a.out.kee hf25.toKee)
   have T25r := hid_intro (T24r.out.kee hf25.toKee)
   have E25r := hid_intro (E24r.out.kee hf25.toKee)
   have T25s := hid_intro (T24s.out.kee hf25.toKee)
   have E25s := hid_intro (E24s.out.kee hf25.toKee)
   have X25 := hid_intro (X24.out.kee hf25.toKee)
   have Y25 := hid_intro (Y24.out.kee hf25.toKee)
   have HL25 : Hid ((lsn L19 0 [s25] 0).length = (L19 0).length + 1 ∧ (lsn L19 0 [s25] 1).length = (L19 1).length ∧ (lsn L19 0 [s25] 3).length = (L19 3).length) := by
    refine ⟨?_, ?_, ?_⟩
    ·rw [lsn_same, List.length_append]; rfl
    ·rw [lsn_far _ _ (by omega)]
    ·rw [lsn_far _ _ (by omega)]
   generalize lsn L19 0 [s25] = L25 at *
   have hL250 := HL25.out.1
   have hL251 := HL25.out.2.1
   have hL253 := HL25.out.2.2
   clear hc25 hf25 C24 T24q E24q T24c T24a T24r E24r T24s E24s X24 Y24 HL25
   go_wp2_with fail
   refine (keep_i HCC.out C25.out bo23 m23 ulc T25r.out HL23.out E25r.out (by omega) hs23 (by omega)).mono ?_
   rintro en w26 ⟨rfl, cs26, s26, hc26, hf26⟩
   have hs26 := hf26.size
   have C26 := hid_intro hc26
   have T26c := hid_intro (T25c.out.kee hf26.toKee)
   have T26a := hid_intro (T25a.out.kee hf26.toKee)
   have T26s := hid_intro (T25s.out.kee hf26.toKee)
   have E26s := hid_intro (E25s.out.kee hf26.toKee)
   have X26 := hid_intro (X25.out.kee hf26.toKee)
   have Y26 := hid_intro (Y25.out.kee hf26.toKee)
   have HL26 : Hid ((lsn L25 1 [s26] 0).length = (L25 0).length ∧ (lsn L25 1 [s26] 1).length = (L25 1).length + 1 ∧ (lsn L25 1 [s26] 3).length = (L25 3).length) := by
    refine ⟨?_, ?_, ?_⟩
    ·rw [lsn_far _ _ (by omega)]
    ·rw [lsn_same, List.length_append]; rfl
    ·rw [lsn_far _ _ (by omega)]
   generalize lsn L25 1 [s26] = L26 at *
   have hL260 := HL26.out.1
   have hL261 := HL26.out.2.1
   have hL263 := HL26.out.2.2
   clear hc26 hf26 C25 T25r E25r T25c T25a T25s E25s X25 Y25 HL26
   go_wp2_with fail
   refine (keep_i HCC.out C26.out bo24 m24 ulc T26s.out HL24.out E26s.out (by omega) hs24 (by omega)).mono ?_
   rintro en w27 ⟨rfl, cs27, s27, hc27, hf27⟩
   have hs27 := hf27.size
   have C27 := hid_intro hc27.top
   have T27c := hid_intro (T26c.out.kee hf27.toKee)
   have T27a := hid_intro (T26a.out.kee hf27.toKee)
   have X27 := hid_intro (X26.out.kee hf27.toKee)
   have Y27 := hid_intro (Y26.out.kee hf27.toKee)
   have HL27 : Hid ((lsn L26 1 [s27] 0).length = (L26 0).length ∧ (lsn L26 1 [s27] 1).length = (L26 1).length + 1 ∧ (lsn L26 1 [s27] 3).length = (L26 3).length) := by
    refine ⟨?_, ?_, ?_⟩
    ·rw [lsn_far _ _ (by omega)]
    ·rw [lsn_same, List.length_append]; rfl
    ·rw [lsn_far _ _ (by omega)]
   generalize lsn L26 1 [s27] = L27 at *
   have hL270 := HL27.out.1
   have hL271 := HL27.out.2.1
   have hL273 := HL27.out.2.2
   clear hc27 hf27 C26 T26c T26a T26s E26s X26 Y26 HL27
   go_wp2_with fail
   refine (roomy6_any bo10 m10 m10 A _ T27a.out.by' (by omega)).mono ?_
   rintro en w28 ⟨X', cX', rfl, hX', hXn', hg28⟩
   have C28 := hid_intro (C27.out.n hg28)
   have T28c := hid_intro (T27c.out.n hg28)
   have X28 := hid_intro (X27.out.n hg28)
   have Y28 := hid_intro (Y27.out.n hg28)
   have XX := hid_intro (hX'.byt (m10 + 40) (by rw [List.length_append, marks_len, HlA.out]))
   have hs28 := hg28.size
   clear hX' hg28 C27 T27c T27a X27 Y27
   go_wp2_with fail
   refine (same_yes _ _ _ _ _ _ (A ++ marks) (A ++ marks) _ (X28.out.o.byt (m10 + 40) (by rw [List.length_append, marks_len, HlA.out])) XX.out rfl).mono ?_
   rintro en w29 ⟨rfl, hw29⟩
   subst hw29
   clear XX
   go_wp2_with fail
   refine (roomy6_any bo13 m13 m13 Cb _ T28c.out.by' (by omega)).mono ?_
   rintro en w30 ⟨Y', cY', rfl, hY', hYn', hg30⟩
   have C30 := hid_intro (C28.out.n hg30)
   have Y30 := hid_intro (Y28.out.n hg30)
   have YY := hid_intro (hY'.byt (m13 + 40) (by rw [List.length_append, marks_len, HlC.out]))
   have hs30 := hg30.size
   clear hY' hg30 C28 T28c X28 Y28
   go_wp2_with fail
   refine (same_yes _ _ _ _ _ _ (Cb ++ marks) (Cb ++ marks) _ (Y30.out.o.byt (m13 + 40) (by rw [List.length_append, marks_len, HlC.out])) YY.out rfl).mono ?_
   rintro en w31 ⟨rfl, hw31⟩
   subst hw31
   clear YY Y30
   have HV31 := hid_intro (C30.out.v.part.byt n hzl.symm)
   go_wp2_with fail
   refine (roomy6_any (some ⟨V, 0, none⟩) n cV zs' _ HV31.out (by omega)).mono ?_
   rintro en w32 ⟨Z', cZ', rfl, hZ', hZn', hg32⟩
   have C32 := hid_intro (C30.out.n hg32)
   have ZZ := hid_intro (hZ'.byt (n + 40) (by rw [List.length_append, marks_len, hzl]))
   have hs32 := hg32.size
   clear hZ' hg32 C30 HV31
   go_wp2_with fail
   refine (same_yes _ _ _ _ _ _ (zs' ++ marks) (zs' ++ marks) _ (C32.out.v.byt (n + 40) (by rw [List.length_append, marks_len, hzl])) ZZ.out rfl).mono ?_
   rintro en w33 ⟨rfl, hw33⟩
   subst hw33
   clear ZZ
   have j7 : w33.cell? ⟨J, n1, none⟩ = some (.int .i64 7) := by
    have := C32.out.j.cell (j := n1) (by rw [List.length_append]; simp; omega)
    rw [this]
    simp [List.getD, ← hxl]
   have j9 : w33.cell? ⟨J, n1 + 1, none⟩ = some (.int .i64 9) := by
    have := C32.out.j.cell (j := n1 + 1) (by rw [List.length_append]; simp; omega)
    rw [this]
    simp [List.getD, ← hxl]
   have C33 := hid_intro C32.out.top
   clear C32
   have HBOTH : Hid (∀ (zz xx : List Int) (W : World), Cs w B base V cV J cJ zz xx W cs27 L27 w33.heap.size → W.heap.size = w33.heap.size → zz.length = n → Bt zz → xx.length = n1 → ∃ (cs : Nat → Value) (L : Nat → List Lst) (zs' xs' : List Int), Cs w B base V cV J cJ zs' xs' W cs L W.heap.size ∧ zs'.length = n ∧ Bt zs' ∧ xs'.length = n1 ∧ (L 0).length ≤ 100 * (i + 1) ∧ (L 1).length ≤ 10 * (i + 1) ∧ (L 3).length ≤ 10 * (i + 1)) := fun zz xx W h1 h2 h3 h4 h5 => ⟨cs27, L27, zz, xx, by rw [h2]; exact h1, h3, h4, h5, by omega, by omega, by omega⟩
   have hk1 : (k : Int) - 1 = ((k - 1 : Nat) : Int) ∨ k = 0 := by omega
   by_cases hn0 : 0 < n
   ·have hn0' : (0 : Int) < (n : Int) := by omega
    have k0 := hk0 hn0
    obtain ⟨z, hz⟩ : ∃ z, z = zs'.getD (k - 1) 0 := ⟨_, rfl⟩
    have ck : w33.cell? ⟨V, k - 1, none⟩ = some (.int .u8 z) := by
     rw [C33.out.v.cell (by rw [List.length_append]; omega), hz]
     simp [List.getD, List.getElem?_append_left (show k - 1 < zs'.length by omega)]
    have fk := C33.out.v.frozen (k - 1)
    have hzr : 0 ≤ z ∧ z ≤ 255 := by
     rw [hz]
     have hm : zs'.getD (k - 1) 0 ∈ zs' := by simp [List.getD, List.getElem?_eq_getElem (show k - 1 < zs'.length by omega)]
     have := HZB.out _ hm
     omega
    have hxz := xor_byte6 hzr (show (0 : Int) ≤ 1 ∧ (1 : Int) ≤ 255 by omega)
    have C34 := hid_intro (C33.out.setV HCC.out (k - 1) (bits .xor .u8 z 1) (by omega))
    have HZ34 : Hid (Bt (zs'.set (k - 1) (bits .xor .u8 z 1))) := bt_set6 HZB.out hxz
    have hz34 : (zs'.set (k - 1) (bits .xor .u8 z 1)).length = n := by rw [List.length_set]; exact hzl
    clear hz hzr hxz
    by_cases hn1 : 0 < n1
    ·have hn1' : (0 : Int) < (n1 : Int) := by omega
     obtain ⟨y, hy⟩ : ∃ y, y = xs'.getD (n1 - 1) 0 := ⟨_, rfl⟩
     have cj : (w33.setCell ⟨V, k - 1, none⟩ (.int .u8 (bits .xor .u8 z 1))).cell? ⟨J, n1 - 1, none⟩ = some (.int .i64 y) := by
      rw [C34.out.j.cell (by rw [List.length_append]; omega), hy]
      simp [List.getD, List.getElem?_append_left (show n1 - 1 < xs'.length by omega)]
     have fj := C34.out.j.frozen (n1 - 1)
     clear hy
     obtain ⟨y', hy'⟩ : ∃ y', IntKind.i64.wrap (y + 1) = y' := ⟨_, rfl⟩
     have C35 := hid_intro (C34.out.setJ HCC.out (n1 - 1) y' (by omega))
     go_wp2
     go_roundw
     case rel => exact ⟨i + 1, by omega, by go_num, HBOTH.out _ _ _ C35.out (by simp) hz34 HZ34.out (by rw [List.length_set]; exact hxl)⟩
     case measure => simp [intOf]; omega
    ·have hn1' : ¬ (0 : Int) < (n1 : Int) := by omega
     go_wp2
     go_roundw
     case rel => exact ⟨i + 1, by omega, by go_num, HBOTH.out _ _ _ C34.out (by simp) hz34 HZ34.out hxl⟩
     case measure => simp [intOf]; omega
   ·have hn0' : ¬ (0 : Int) < (n : Int) := by omega
    by_cases hn1 : 0 < n1
    ·have hn1' : (0 : Int) < (n1 : Int) := by omega
     obtain ⟨y, hy⟩ : ∃ y, y = xs'.getD (n1 - 1) 0 := ⟨_, rfl⟩
     have cj : w33.cell? ⟨J, n1 - 1, none⟩ = some (.int .i64 y) := by
      rw [C33.out.j.cell (by rw [List.length_append]; omega), hy]
      simp [List.getD, List.getElem?_append_left (show n1 - 1 < xs'.length by omega)]
     have fj := C33.out.j.frozen (n1 - 1)
     clear hy
     obtain ⟨y', hy'⟩ : ∃ y', IntKind.i64.wrap (y + 1) = y' := ⟨_, rfl⟩
     have C35 := hid_intro (C33.out.setJ HCC.out (n1 - 1) y' (by omega))
     go_wp2
     go_roundw
     case rel => exact ⟨i + 1, by omega, by go_num, HBOTH.out _ _ _ C35.out (by simp) hzl HZB.out (by rw [List.length_set]; exact hxl)⟩
     case measure => simp [intOf]; omega
    ·have hn1' : ¬ (0 : Int) < (n1 : Int) := by omega
     go_wp2
     go_roundw
     case rel => exact ⟨i + 1, by omega, by go_num, HBOTH.out _ _ _ C33.out rfl hzl HZB.out hxl⟩
     case measure => simp [intOf]; omega
  ·obtain ⟨ys, hk⟩ := HC.out.k
   have HK := hid_intro hk
   have HG := hid_intro HC.out.g
   have HNO := hid_intro HC.out.no
   clear hk HC
   go_wp2_with fail
   refine (kst_finish HK.out (fun j _ h1 h2 h3 => HNO.out j h1 h2 h3) (by omega) HG.out HCC.out.b.1 HTZ.out).mono ?_
   rintro en w40 ⟨rfl, hg40⟩
   have HG40 := hid_intro hg40
   clear hg40
   go_wp2
   go_ret
   exact ⟨rfl, HG40.out⟩
end Go.Proofs.YtmbbflfknldaoaaGreatDoor
namespace Go.Proofs.YtmbbflfknldaoaaGreatDoor.chainOwn
open Go.ChangeShapes Go.WideShapes Go.ChangeAt Go.WideMaps Go.WideElems Go.RowKit Go.Deep
open Go.ChangeMaps (open_string shut_string)
theorem own : ownKnob Tryz.prog.godebug = none := by kernel_rfl
theorem laidOut : laidOutB Tryz.prog = true := by kernel_rfl
theorem bytes_u8 : Tryz.prog.bytesOf 5 = 1 := by kernel_rfl
theorem bytes_i64 : Tryz.prog.bytesOf 3 = 8 := by kernel_rfl
set_option linter.unusedVariables false
set_option maxRecDepth 100000 in
theorem lifted (os : Os) (started : os.Started) (H : Type) (enc : TypeId × Value → H) :
  ReturnsInHanded {} Tryz.checked os 3 .any (fun w args => (Rows.chainOwnSpec.pre enc Tryz.prog Tryz.f3 [] false w args ∧ laidMetH Tryz.prog [("math/bits.deBruijn32tab", Rows.laid_math_bits_deBruijn32tab), ("math/bits.deBruijn64tab", Rows.laid_math_bits_deBruijn64tab), ("internal/strconv.uint64pow10", Rows.laid_internal_strconv_uint64pow10)] w) ∧ sizedMet enc Tryz.prog Tryz.f3 (OpenSpec.ofChange Rows.chainOwnSpec) false w args) (Rows.chainOwnSpec.post enc Tryz.prog Tryz.f3 false true false false) := by
 refine returnsInHanded_of_change_and (C := Tryz.checked) (X := fun w _ => laidMetH Tryz.prog [("math/bits.deBruijn32tab", Rows.laid_math_bits_deBruijn32tab), ("math/bits.deBruijn64tab", Rows.laid_math_bits_deBruijn64tab), ("internal/strconv.uint64pow10", Rows.laid_internal_strconv_uint64pow10)] w) (fun _ _ _ hh h => h.of_heap hh) own started (by kernel_rfl) Tryz.func3
  (ChangeSpec.witness_shaped (enc := enc) (C := Tryz.checked) (os := os) (X := fun w _ => laidMetH Tryz.prog [("math/bits.deBruijn32tab", Rows.laid_math_bits_deBruijn32tab), ("math/bits.deBruijn64tab", Rows.laid_math_bits_deBruijn64tab), ("internal/strconv.uint64pow10", Rows.laid_internal_strconv_uint64pow10)] w) false (World.doorLaid Tryz.prog 400 os) #[.slice none 0 0, .slice none 0 0] 8 rfl (World.shaped_of_RefB (by kernel_rfl) (by kernel_rfl)) (by kernel_rfl) (by kernel_rfl) (by kernel_rfl) (door_met os _)) ?_
 intro W base args ds gs before hval0 hW _ _ hL _
 have hval : ∀ (j : Nat) t v, Tryz.f3.params[j]? = some t → args[j]? = some v → Value.okWide Tryz.prog W .any base t v := hval0
 have hW' := hW
 obtain ⟨p, q, hA0, hV, rfl, hfz, hnd⟩ := hW
 have hA : DataW.TrodAll enc Tryz.prog W 0 (fun _ => true) true Tryz.f3.params.toList args.toList ds p := hA0
 rw [Tryz.params3] at hA hval
 obtain ⟨v0, vs0, d0, ds0, p0, q0, hargs, rfl, rfl, h0, r0⟩ := trodAll_cons hA
 obtain ⟨v1, vs1, d1, ds1, p1, q1, rfl, rfl, rfl, h1, r1⟩ := trodAll_cons r0
 obtain ⟨rfl, rfl, rfl⟩ := trodAll_nil r1
 obtain rfl : args = #[v0, v1] := by cases args; simp_all
 obtain ⟨rfl, rfl⟩ := trodVars_none hV
 obtain ⟨a0, len0, cap0, rfl⟩ := okWide_slice Tryz.underlying22 (hval 0 22 v0 rfl rfl)
 have k0 := h0
 have lt0 : ∀ x ∈ p0, x.block < W.heap.size := by obtain ⟨m, hm⟩ := k0; exact DataW.trod_lt m _ _ _ hm
 obtain ⟨z0, b0, t0, l0, c0⟩ : ∃ zs, Byt W a0 len0 cap0 zs ∧ Bt zs ∧ len0 ≤ cap0 ∧ cap0 ≤ 9223372036854775807 := by
  obtain ⟨fuel, hf⟩ := h0
  rcases open_ints Tryz.underlying22 Tryz.underlying5 (by kernel_rfl) hf with ⟨hcs, _⟩ | ⟨x, l, c, zs, hcs, _, hl, hm, hz, hx, hcell, hwz⟩
  ·simp [Value.cells] at hcs
   obtain ⟨rfl, rfl, rfl⟩ := hcs
   exact ⟨[], Byt.empty W, Bt.nil, Nat.le_refl _, by omega⟩
  ·simp [Value.cells] at hcs
   obtain ⟨rfl, rfl, rfl⟩ := hcs
   have hz' : zs.length = cap0 := by simpa using hz
   obtain ⟨h1, h2, h3, h4⟩ := byt_of_row (zs := zs) (.inr ⟨_, rfl, hl, hm, hz', hcell, hwz⟩)
   exact ⟨_, h1, h2, hl, h4⟩
 obtain ⟨a1, len1, cap1, rfl⟩ := okWide_slice Tryz.underlying23 (hval 1 23 v1 rfl rfl)
 have k1 := h1
 have lt1 : ∀ x ∈ p1, x.block < W.heap.size := by obtain ⟨m, hm⟩ := k1; exact DataW.trod_lt m _ _ _ hm
 obtain ⟨z1, b1, e1, l1, c1⟩ : ∃ zs, Nt W a1 zs ∧ zs.length = len1 ∧ len1 ≤ cap1 ∧ cap1 ≤ 9223372036854775807 := by
  obtain ⟨fuel, hf⟩ := h1
  rcases open_ints Tryz.underlying23 Tryz.underlying3 (by kernel_rfl) hf with ⟨hcs, _⟩ | ⟨x, l, c, zs, hcs, _, hl, hm, hz, hx, hcell, hwz⟩
  ·simp [Value.cells] at hcs
   obtain ⟨rfl, rfl, rfl⟩ := hcs
   exact ⟨[], Nt.zero W _, rfl, Nat.le_refl _, by omega⟩
  ·simp [Value.cells] at hcs
   obtain ⟨rfl, rfl, rfl⟩ := hcs
   have hz' : zs.length = cap1 := by simpa using hz
   exact ⟨_, nt_of_row hl hz' hcell, by rw [List.length_take]; omega, hl, by unfold maxLen at hm; omega⟩
 clear hA0 hval0
 refine (chainOwn_walk a0 len0 cap0 z0 a1 len1 cap1 z1 W b0 t0 b1 e1 (of_laid hL)).mono fun e W' ⟨he, hg⟩ => ?_
 subst he
 have bel := below_of hg
 exact ⟨_, rfl, _, _, _, [], _, [], hW', trodAll_mk1 (shut_bool Tryz.underlying4 _), (trodAll_cons_mk (Below.trod laidOut (by kernel_rfl) (of_decide_eq_true (by kernel_rfl)) k0 bel lt0) (trodAll_cons_mk (Below.trod laidOut (by kernel_rfl) (of_decide_eq_true (by kernel_rfl)) k1 bel lt1) trodAll_mk0)), rfl, bel.frame _, fun h => by cases h⟩
theorem over : Rows.chainOwnRow.holds Tryz.pinned (OpenSpec.ofChange Rows.chainOwnSpec) :=
 OpenClaim.holds_of_wide 3 Tryz.f3 rfl rfl rfl rfl rfl rfl rfl ⟨rfl, rfl, rfl, rfl, rfl⟩ rfl rfl rfl rfl rfl (by kernel_rfl) Tryz.func3 (by kernel_rfl)
  (of_decide_eq_true (by kernel_rfl)) (by unfold Func.isWrapper; first | (rw [if_pos (by decide +kernel)]; kernel_rfl) | (rw [if_neg (by decide +kernel)]; exact ⟨rfl, rfl⟩))
  (fun os started H enc _ => lifted os started H enc)
end Go.Proofs.YtmbbflfknldaoaaGreatDoor.chainOwn
namespace Go.Proofs.YtmbbflfknldaoaaGreatDoor
open Go
theorem chainOwn_card : Rows.ChainOwnCardSaid :=
 Claim7.holds_tied_plain_at .later [] [.data, .data, .data] true (true, "86da002c0a9534632d962c2576c27fd2864f16caefe6bf16828e0ee94c071b53") false
  chainOwn.over (fun _ h => by cases h) (by kernel_rfl) (fun _ h => by cases h) chainOwn_row_tie rfl ⟨rfl, rfl⟩ (by kernel_rfl) rfl
  (fun f fn hf hfn => by
   obtain rfl : f = 3 := Option.some.inj ((show Tryz.prog.funcNamed "coppice/coppicelaw6.ChainOwn" = some 3 by kernel_rfl).symm.trans hf) |>.symm
   obtain rfl : fn = Tryz.f3 := (Option.some.inj (Tryz.func3.symm.trans hfn)).symm
   exact ⟨by kernel_rfl, fun j t ht => by
    rw [Tryz.params3] at ht
    have hm : t ∈ [22, 23] := by simpa using Array.mem_of_getElem? ht
    have hall : ([22, 23].all fun u => !Tryz.prog.wantsStandIn u) = true := by kernel_rfl
    exact (show Tryz.prog.wantsStandIn t = false by simpa using List.all_eq_true.1 hall t hm)⟩)
  (by kernel_rfl)
#print axioms chainOwn_card
end Go.Proofs.YtmbbflfknldaoaaGreatDoor
