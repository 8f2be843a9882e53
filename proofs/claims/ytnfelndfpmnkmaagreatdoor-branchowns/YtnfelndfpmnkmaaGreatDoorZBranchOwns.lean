import Derived.Test.YtnfelndfpmnkmaaGreatDoorQ19
import Derived.Test.YtnfelndfpmnkmaaGreatDoorQ20
import Derived.Test.YtnfelndfpmnkmaaGreatDoorQ44
import Derived.Test.YtnfelndfpmnkmaaGreatDoorQ45
import Derived.LaidMore
import Derived.Stop.Joined
import Derived.SevenTiedAt
import Derived.WalkKit
import Derived.ProofKit
import Derived.OpenShut
import Derived.ShutString
import Derived.ChangeOld
import Derived.Below
import Derived.SizedLaws
import Derived.Deep.Slices
import Derived.Test.YtnfelndfpmnkmaaGreatDoorRows
import Derived.Test.YtnfelndfpmnkmaaGreatDoorCards
import Derived.Test.YtnfelndfpmnkmaaGreatDoorTie
namespace Go.Proofs.YtnfelndfpmnkmaaGreatDoor
open Go.RowKit
set_option maxHeartbeats 16000000 in
set_option maxRecDepth 100000 in
theorem branchOwns_walk (lv : Int) (a : Option Addr) (n cap : Nat) (Ls : List (List Int)) (b : Option Addr) (m cap2 : Nat) (K : List Kd) (w : World) (hl : Lz w a Ls) (hlb : Lb Ls) (hn : Ls.length = n) (hk : Kl w b K) (hm : K.length = m) (htz : Tz w) :
  Calls Tryz.prog 3 #[.int .i64 lv, .slice a n cap, .slice b m cap2] w fun en w' => en = .returned (.bool true) ∧ w.grownBy w' none := by
 have HL := hid_intro hl
 have HK := hid_intro hk
 have HTZ := hid_intro htz
 have HLB := hid_intro hlb
 clear hl hk htz hlb
 go_enter Tryz.func3, Tryz.ntmps3
 go_wp2_with fail
 refine (first5_any _).mono ?_
 rintro en w1 ⟨rfl, hg1⟩
 have G1 := hid_intro hg1
 clear hg1
 by_cases h60 : 60 < n
 ·have h60' : (60 : Int) < (n : Int) := by omega
  go_wp2
  go_ret
  exact ⟨rfl, G1.out⟩
 have h60' : ¬ (60 : Int) < (n : Int) := by omega
 go_wp2_with fail
 refine (few_any a n cap Ls b m cap2 _ (HL.out.keptN G1.out) hn).mono ?_
 rintro en w2 ⟨rfl, hw2⟩
 subst hw2
 cases hfw : fw Ls m with
 | false =>
  clear hfw
  go_wp2
  go_ret
  exact ⟨rfl, G1.out⟩
 | true =>
  have hp := fw_parts hfw
  have HLN : Hid (∀ x ∈ Ls, x.length ≤ 1000000) := fun x hx => by have := hp.2.2 x hx; omega
  have hm2 : m ≤ 2000 := hp.2.1
  clear hfw hp
  go_wp2_with fail
  refine (refEncode5_any lv a n cap Ls b m cap2 K _ (HL.out.keptN G1.out) HLB.out hn (by omega) (HK.out.keptN G1.out) hm (by omega)).mono ?_
  rintro en w3 ⟨⟨ao3, j3, c3, e3, zs, rfl, hb3, hbe, hj3, hj4, hj5⟩, hg3⟩
  have G3 := hid_intro (grown_trans G1.out hg3)
  have B3 := hid_intro hb3
  have HBE := hid_intro hbe
  have HLZ := hid_intro hb3.len
  clear hb3 hg3 hbe G1
  by_cases he : e3 = 0
  ·subst he
   have HGD : Hid (∃ k M, Ls = seps M ∧ K = kids k M ∧ BGood zs lv k M) := HBE.out.good rfl
   have HZL : Hid (zs.length = 4092) := HBE.out.len rfl
   have HZB : Hid (Bt zs) := HBE.out.bt HLB.out
   have hj : j3 = 4092 := by have := HLZ.out; have := HZL.out; omega
   subst hj
   have hc3 : c3 = 4092 := by omega
   subst hc3
   have K4 := hid_intro (kbx_new w3)
   have G4 := hid_intro (grown_trans G3.out (World.grownBy_alloc w3 (.cells kbookZ 43 (0, 0)) none))
   have B4 := hid_intro (B3.out.keptN (World.grownBy_alloc w3 (.cells kbookZ 43 (0, 0)) none))
   have hB0 := G3.out.size
   have HBB : Hid (∀ ad, ao3 = some ad → ad.block < w3.heap.size) := fun ad e => byt_lt B3.out e (by omega)
   clear HBE HLZ hj3 hj4 hj5
   go_wp2_with (refine wpList_build_kbook rfl rfl ?_)
   obtain ⟨w4, hw4⟩ : ∃ w4, w3.alloc (.cells kbookZ 43 (0, 0)) = w4 := ⟨_, rfl⟩
   rw [hw4] at K4 G4 B4 ⊢
   obtain ⟨B, hB⟩ : ∃ B, w3.heap.size = B := ⟨_, rfl⟩
   have hs4 : w4.heap.size = B + 1 := by rw [← hw4, ← hB]; simp
   rw [hB] at K4 hB0 HBB ⊢
   clear hw4 hB G3 B3
   refine (lent_any a n cap Ls _ (HL.out.keptN G4.out) hn (by omega) HLN.out).mono ?_
   rintro en w5 ⟨⟨A5, c5, h5, gs5, xs5, rfl, hln⟩, hg5⟩
   have G5 := hid_intro (grown_trans G4.out hg5)
   have K5 := hid_intro (K4.out.kept hg5 (by simp))
   have B5 := hid_intro (B4.out.keptN hg5)
   have L5 := hid_intro hln
   have hs5 := hg5.size
   clear hln hg5 G4 K4 B4
   go_wp2_with fail
   refine (lentKids_any b m cap2 K _ (HK.out.keptN G5.out) hm (by omega)).mono ?_
   rintro en w6 ⟨⟨A6, c6, rfl, hlk⟩, hg6⟩
   have G6 := hid_intro (grown_trans G5.out hg6)
   have K6 := hid_intro (K5.out.kept hg6 (by simp))
   have B6 := hid_intro (B5.out.keptN hg6)
   have L6 := hid_intro (L5.out.keptN hg6)
   have M6 := hid_intro hlk
   have hs6 := hg6.size
   clear hlk hg6 G5 K5 B5 L5
   obtain ⟨base, hbase⟩ : ∃ base, w6.heap.size = base := ⟨_, rfl⟩
   have HCC : Hid (Cd w w6 B base) := ⟨⟨hB0, by omega⟩, hbase⟩
   have HC0 : Hid (Cb w w6 B base w6 kcs0 (fun _ => []) w6.heap.size) := ⟨⟨_, kst_new kds_ok K6.out (by omega) (by omega)⟩, G6.out, (Qt.refl _).grown (some B), fun i t ht => by simp at ht, fun _ _ _ _ => rfl⟩
   have hBl : B < w4.heap.size := by omega
   have hBl5 : B < w5.heap.size := by omega
   clear K6 hbase G6
   go_wp2
   go_loopw [13, 14, 15, 16, 17, 18, 19, 20, 21, 22] (fun si _ _ _ _ _ _ _ _ _ wr => ∃ i : Nat, i ≤ 2 ∧ si = .int .i64 i ∧ ∃ (cs : Nat → Value) (L : Nat → List Lst), Cb w w6 B base wr cs L wr.heap.size ∧ (L 0).length ≤ 100 * i ∧ (L 3).length ≤ 10 * i ∧ (L 7).length ≤ 10 * i) (fun si _ _ _ _ _ _ _ _ _ _ => 2 - (intOf si).toNat)
   case atStart => exact ⟨0, by omega, rfl, kcs0, fun _ => [], HC0.out, by simp, by simp, by simp⟩
   case round =>
    obtain ⟨i, hi2, rfl, cs, L, hC, hl0, hl3, hl7⟩ := hrel
    have HC := hid_intro hC
    clear hC HC0
    by_cases hlt : i < 2
    ·have HLn := hid_intro (L6.out.keptB HC.out.gl hBl)
     have HLk := hid_intro (M6.out.keptB HC.out.gl hBl5)
     have HBb := hid_intro (B6.out.kept HC.out.gl (fun ad e _ e2 => by have := HBB.out ad e; have := Option.some.inj e2; omega))
     obtain ⟨hcn1, hcn2⟩ := HLn.out.cap_le
     go_wp2_with fail
     refine (bencode_any lv (some ⟨A5, 0, none⟩) n c5 Ls (some ⟨A6, 0, none⟩) m c6 K _ HLn.out.lz HLB.out hn (by omega) (by omega) hcn2 HLk.out.kl hm (by omega)).mono ?_
     rintro en w7 ⟨⟨ao7, j7, c7, e7, zs7, rfl, hb7, hbe7, _, _, _, hg7'⟩, hg7⟩
     obtain ⟨rfl, rfl⟩ : e7 = 0 ∧ zs7 = zs := by
      obtain ⟨k, M, e1, e2, h3⟩ := HGD.out
      have he : e7 = 0 := by rw [hbe7.code, e1, e2]; exact h3.1
      obtain ⟨k2, M2, f1, f2, f3⟩ := hbe7.good he
      rw [e1] at f1
      rw [e2] at f2
      obtain ⟨rfl, rfl⟩ := branch_inj f1 f2
      exact ⟨he, f3.2.symm.trans h3.2⟩
     obtain ⟨G, rfl, hr7, hG, rfl, rfl⟩ := hg7' rfl
     have C7 := hid_intro (HC.out.n hg7)
     have R7 := hid_intro hr7
     have F7 := hid_intro (HC.out.new hG)
     have Bb7 := hid_intro (HBb.out.keptN hg7)
     have hs7 := hg7.size
     have hHG := hG
     clear hb7 hbe7 hg7' hr7 hg7 HC HLn HLk HBb hcn1 hcn2
     go_wp2_with fail
     refine (refBytes_any ao3 4092 4092 zs7 _ Bb7.out (by omega)).mono ?_
     rintro en w8 ⟨rfl, ho8, hg8, hs8⟩
     obtain ⟨KE, hC8⟩ := C7.out.stranger hg8 w7.heap.size (Nat.le_refl _) hs8
     have h41 : Hid ((kup cs 41 (.slice (some ⟨w7.heap.size, 0, none⟩) 0 0) 41).ownBlock = some w7.heap.size) := by show _ = _; rw [kup_same]; rfl
     have C8 := hid_intro hC8
     have F8 := hid_intro (KE.block G R7.out.lt F7.out).2
     have R8 := hid_intro (R7.out.keptN hg8)
     have Bb8 := hid_intro (Bb7.out.keptN hg8)
     have D8 := hid_intro (Rw.of_owns ho8)
     have hGD := R7.out.lt
     generalize kup cs 41 (.slice (some ⟨w7.heap.size, 0, none⟩) 0 0) = cs8 at *
     generalize w7.heap.size = D at *
     clear ho8 hg8 KE hC8 C7 F7 R7 Bb7
     go_wp2_with fail
     refine (bdecode_own (some ⟨D, 0, none⟩) 4092 4092 zs7 _ (D8.out.all 4092 4092 HZL.out.symm) HZB.out).mono ?_
     rintro en w9 ⟨⟨lv9, a9, n9, c9, b9, m9, d9, e9, L9, K9, rfl, hdec, hlz9, hlb9, hn9, _, _, hkl9, hm9, _, _, hbp9⟩, hg9⟩
     obtain ⟨rfl, rfl, rfl⟩ : e9 = 0 ∧ L9 = Ls ∧ K9 = K := by
      obtain ⟨k, M, e1, e2, h3⟩ := HGD.out
      by_cases he : e9 = 0
      ·obtain ⟨_, k9, M9, h1, h2, h4⟩ := hdec.good he
       obtain ⟨_, rfl, rfl⟩ := bgood_one h4 h3
       exact ⟨he, h1.trans e1.symm, h2.trans e2.symm⟩
      ·exact absurd h3 ((hdec.bad he).2.2.2 _ _ _)
     obtain ⟨lo, xs9, hlo, W1, W2, W3⟩ := hbp9.wait (fun d hd => C8.out.new hd)
     have WA := hid_intro W1
     have WB := hid_intro W2
     have WC := hid_intro W3
     have Z9 := hid_intro hlz9
     have K9' := hid_intro hkl9
     have C9 := hid_intro (C8.out.n hg9)
     have F9 := F8
     have R9 := hid_intro (R8.out.keptN hg9)
     have Bb9 := hid_intro (Bb8.out.keptN hg9)
     have D9 := hid_intro (D8.out.keptN hg9)
     have hs9 := hg9.size
     clear hdec hlz9 hlb9 hkl9 hbp9 W1 W2 W3 hg9 C8 F8 R8 Bb8 D8
     go_wp2_with fail
     refine (same_yes _ _ _ _ _ _ zs7 zs7 _ (R9.out.all 4092 4092 HZL.out.symm) Bb9.out rfl).mono ?_
     rintro en w10 ⟨rfl, hw10⟩
     subst hw10
     clear Bb9
     have HLs := hid_intro (HL.out.keptN C9.out.g)
     go_wp2_with fail
     refine (sameLists_any a9 n9 c9 L9 a n cap L9 _ Z9.out HLB.out hn9 HLs.out HLB.out hn (by omega)).mono ?_
     rintro en w11 ⟨⟨b11, rfl, hb11⟩, hq11⟩
     obtain rfl : b11 = true := hb11.2 rfl
     have hg11 := (hq11.grown none : w10.grownBy w11 none)
     have C11 := hid_intro (C9.out.n hg11)
     have WA1 := hid_intro (WA.out.n hg11)
     have WB1 := hid_intro (WB.out.n hg11)
     have WC1 := hid_intro (WC.out.n hg11)
     have K11 := hid_intro (K9'.out.keptN hg11)
     have R11 := hid_intro (R9.out.keptN hg11)
     have D11 := hid_intro (D9.out.keptN hg11)
     have hs11 := hg11.size
     clear hb11 hq11 hg11 C9 WA WB WC Z9 K9' R9 D9 HLs
     have HKs := hid_intro (HK.out.keptN C11.out.g)
     go_wp2_with fail
     refine (sameKids_any b9 m9 d9 K9 b m cap2 K9 _ K11.out hm9 HKs.out hm (by omega)).mono ?_
     rintro en w12 ⟨⟨b12, rfl, hb12⟩, hq12⟩
     obtain rfl : b12 = true := hb12.2 rfl
     have hg12 := (hq12.grown none : w11.grownBy w12 none)
     have C12 := hid_intro (C11.out.n hg12)
     have WA2 := hid_intro (WA1.out.n hg12)
     have WB2 := hid_intro (WB1.out.n hg12)
     have WC2 := hid_intro (WC1.out.n hg12)
     have R12 := hid_intro (R11.out.keptN hg12)
     have D12 := hid_intro (D11.out.keptN hg12)
     have hs12 := hg12.size
     clear hb12 hq12 hg12 C11 WA1 WB1 WC1 K11 R11 D11 HKs
     go_wp2_with fail
     refine (num5_any 0 _).mono ?_
     rintro en w13 ⟨rfl, hw13⟩
     subst hw13
     go_wp2_with fail
     refine (num5_any 0 _).mono ?_
     rintro en w14 ⟨rfl, hw14⟩
     subst hw14
     go_wp2_with fail
     refine (keep_c HCC.out C12.out R12.out F9.out hHG HZL.out (by omega)).mono ?_
     rintro en w15 ⟨rfl, cs15, s15, hc15, hf15⟩
     have hs15 := hf15.size
     have C15 := hid_intro hc15
     have WA3 := hid_intro (WA2.out.kee hf15.toKee)
     have WB3 := hid_intro (WB2.out.kee hf15.toKee)
     have WC3 := hid_intro (WC2.out.kee hf15.toKee)
     have h41b : Hid ((cs15 41).ownBlock = some D) := by show _ = _; rw [hf15.vir.1]; exact h41.out
     have D15 : Hid (Rw w15 D zs7) := (hf15.vir.2 D h41.out D12.out.lt).trans D12.out
     have HL15 : Hid ((lsn L 0 [s15] 0).length = (L 0).length + 1 ∧ (lsn L 0 [s15] 3).length = (L 3).length ∧ lsn L 0 [s15] 7 = L 7) := by
      refine ⟨?_, ?_, ?_⟩
      ·rw [lsn_same, List.length_append]; rfl
      ·rw [lsn_far _ _ (by omega)]
      ·rw [lsn_far _ _ (by omega)]
     have HL7 : Hid (∀ t ∈ L 7, t.C = 0 ∨ t.g < G + 1) := fun t ht => hc15.lim 7 t (by rw [HL15.out.2.2]; exact ht)
     generalize lsn L 0 [s15] = L15 at *
     have hL150 := HL15.out.1
     have hL153 := HL15.out.2.1
     have hGl := R12.out.lt
     clear hc15 hf15 C12 WA2 WB2 WC2 R12 D12 F9 h41
     go_wp2_with fail
     refine (keep_s HCC.out C15.out WA3.out WB3.out HLB.out (by omega) (by omega) (by omega) (by omega)).mono ?_
     rintro en w16 ⟨rfl, cs16, Dl, s16, hDl, hc16, hf16⟩
     have hs16 := hf16.size
     have C16 := hid_intro hc16
     have WC4 := hid_intro (WC3.out.kee hf16.toKee)
     have h41c : Hid ((cs16 41).ownBlock = some D) := by show _ = _; rw [hf16.vir.1]; exact h41b.out
     have D16 : Hid (Rw w16 D zs7) := (hf16.vir.2 D h41b.out D15.out.lt).trans D15.out
     have HL16 : Hid ((lsn (lsn L15 0 Dl) 3 [s16] 0).length = (L15 0).length + n9 ∧ (lsn (lsn L15 0 Dl) 3 [s16] 3).length = (L15 3).length + 1 ∧ lsn (lsn L15 0 Dl) 3 [s16] 7 = L 7) := by
      refine ⟨?_, ?_, ?_⟩
      ·rw [lsn_far _ _ (by omega), lsn_same, List.length_append]; omega
      ·rw [lsn_same, lsn_far _ _ (by omega), List.length_append]; rfl
      ·rw [lsn_far _ _ (by omega), lsn_far _ _ (by omega)]; exact HL15.out.2.2
     generalize lsn (lsn L15 0 Dl) 3 [s16] = L16 at *
     have hL160 := HL16.out.1
     have hL163 := HL16.out.2.1
     have hL167 := HL16.out.2.2
     clear hc16 hf16 C15 WA3 WB3 WC3 D15 h41b HL15 hDl
     go_wp2_with fail
     refine (keep_k (H7 := G + 1) HCC.out C16.out WC4.out (by rw [hL167]; exact HL7.out) (by omega) (by omega) (by rw [hL167]; omega)).mono ?_
     rintro en w17 ⟨rfl, cs17, s17, hc17, hf17⟩
     have C17 := hid_intro hc17
     have h41d : Hid ((cs17 41).ownBlock = some D) := by show _ = _; rw [hf17.vir.1]; exact h41c.out
     have D17 : Hid (Rw w17 D zs7) := (hf17.vir.2 D h41c.out D16.out.lt).trans D16.out
     have HL17 : Hid ((lsn L16 7 [s17] 0).length = (L16 0).length ∧ (lsn L16 7 [s17] 3).length = (L16 3).length ∧ (lsn L16 7 [s17] 7).length = (L 7).length + 1) := by
      refine ⟨?_, ?_, ?_⟩
      ·rw [lsn_far _ _ (by omega)]
      ·rw [lsn_far _ _ (by omega)]
      ·rw [lsn_same, List.length_append, hL167]; rfl
     generalize lsn L16 7 [s17] = L17 at *
     have hL170 := HL17.out.1
     have hL173 := HL17.out.2.1
     have hL177 := HL17.out.2.2
     clear hc17 hf17 C16 WC4 D16 h41c HL16 HL17 HL7
     have S0 : Hid (Cb w w6 B base w17 cs17 L17 w17.heap.size ∧ ∃ cur, w17.heap[D]? = some (.cells cur 5 (0, 0)) ∧ cur.size = 4092) := ⟨C17.out, _, D17.out, by simp [HZL.out]⟩
     clear C17 D17
     go_wp2
     go_loopw [22] (fun sj wx => ∃ j : Nat, j ≤ 4092 ∧ sj = .int .i64 j ∧ Cb w w6 B base wx cs17 L17 w17.heap.size ∧ wx.heap.size = w17.heap.size ∧ ∃ cur, wx.heap[D]? = some (.cells cur 5 (0, 0)) ∧ cur.size = 4092) (fun sj _ => 4092 - (intOf sj).toNat)
     case atStart => exact ⟨0, by omega, rfl, S0.out.1, rfl, S0.out.2⟩
     case round =>
      obtain ⟨j, hj, rfl, hcj, hsj, cur, hcu, hcs⟩ := hrel
      have CJ := hid_intro hcj
      have HCU := hid_intro hcu
      clear hcj S0
      by_cases hlj : j < 4092
      ·have cj : wr.cell? ⟨D, j, none⟩ = some (cur[j]'(by omega)) := (cell_of_row wr D j _ _ _ hcu).trans (Array.getElem?_eq_getElem (by omega))
       have fj : wr.frozen? ⟨D, j, none⟩ = false := frozen_of_row wr D j _ _ hcu
       clear hcu
       have CN := hid_intro (CJ.out.off HCC.out h41d.out (kset_grown wr D j (.int .u8 238)))
       have HCN : Hid ((wr.setCell ⟨D, j, none⟩ (.int .u8 238)).heap[D]? = some (.cells (cur.setIfInBounds j (.int .u8 238)) 5 (0, 0))) := heap_setCell_same wr D j cur _ _ HCU.out
       go_wp2
       go_roundw
       case rel => exact ⟨j + 1, by omega, by go_num, CN.out, by simpa using hsj, _, HCN.out, by simpa using hcs⟩
       case measure => simp [intOf]; omega
      ·have hj92 : j = 4092 := by omega
       subst hj92
       clear hcu
       go_wp2
       go_roundw
       case rel => exact ⟨i + 1, by omega, by go_num, cs17, L17, by rw [hsj]; exact CJ.out, by omega, by omega, by omega⟩
       case measure => simp [intOf]; omega
    ·obtain ⟨ys, hk⟩ := HC.out.k
     have HKS := hid_intro hk
     have HG := hid_intro HC.out.g
     have HGL := hid_intro HC.out.gl
     have HNO := hid_intro HC.out.no
     clear hk HC
     go_wp2_with fail
     refine (kst_finish2 HKS.out (fun j _ h1 h2 h3 => HNO.out j h1 h2 h3) (by omega) HG.out HCC.out.b.1 HGL.out (Nat.le_of_eq HCC.out.l) HTZ.out).mono ?_
     rintro en w40 ⟨rfl, hg40, hgl40⟩
     have HG40 := hid_intro hg40
     have HLn := hid_intro (L6.out.keptB hgl40 hBl)
     have HLk := hid_intro (M6.out.keptB hgl40 hBl5)
     clear hg40 hgl40 HKS HG HGL
     go_wp2_with fail
     refine (stays_any _ A5 c5 h5 gs5 xs5 a n cap Ls _ HLn.out (HL.out.keptN HG40.out) HLB.out hn (by omega)).mono ?_
     rintro en w41 ⟨rfl, hg41⟩
     have HG41 := hid_intro (grown_trans HG40.out hg41)
     have HLk1 := hid_intro (HLk.out.keptN hg41)
     clear hg41 HG40 HLn HLk
     go_wp2_with fail
     refine (stayKids_any _ A6 c6 b m cap2 K _ HLk1.out (HK.out.keptN HG41.out) hm (by omega)).mono ?_
     rintro en w42 ⟨rfl, hg42⟩
     have HG42 := hid_intro (grown_trans HG41.out hg42)
     clear hg42 HG41 HLk1
     go_wp2_with fail
     refine (first5_any _).mono ?_
     rintro en w43 ⟨rfl, hg43⟩
     have HG43 := hid_intro (grown_trans HG42.out hg43)
     clear hg43 HG42
     go_wp2
     go_ret
     exact ⟨rfl, HG43.out⟩
  ·have he' : (e3 != 0) = true := by simp [he]
   have he2 : (e3 == 0) = false := by simp [he]
   go_wp2
   go_ret
   exact ⟨rfl, G3.out⟩
end Go.Proofs.YtnfelndfpmnkmaaGreatDoor
namespace Go.Proofs.YtnfelndfpmnkmaaGreatDoor.branchOwns
open Go.ChangeShapes Go.WideShapes Go.ChangeAt Go.WideMaps Go.WideElems Go.RowKit Go.Deep
open Go.ChangeMaps (open_string shut_string)
theorem own : ownKnob Tryz.prog.godebug = none := by kernel_rfl
theorem laidOut : laidOutB Tryz.prog = true := by kernel_rfl
theorem bytes_u8 : Tryz.prog.bytesOf 5 = 1 := by kernel_rfl
theorem bytes_i64 : Tryz.prog.bytesOf 3 = 8 := by kernel_rfl
set_option linter.unusedVariables false
set_option maxRecDepth 100000 in
theorem lifted (os : Os) (started : os.Started) (H : Type) (enc : TypeId × Value → H) :
  ReturnsInHanded {} Tryz.checked os 3 .any (fun w args => (Rows.branchOwnsSpec.pre enc Tryz.prog Tryz.f3 [] false w args ∧ laidMetH Tryz.prog [("math/bits.deBruijn32tab", Rows.laid_math_bits_deBruijn32tab), ("math/bits.deBruijn64tab", Rows.laid_math_bits_deBruijn64tab), ("internal/strconv.uint64pow10", Rows.laid_internal_strconv_uint64pow10)] w) ∧ sizedMet enc Tryz.prog Tryz.f3 (OpenSpec.ofChange Rows.branchOwnsSpec) false w args) (Rows.branchOwnsSpec.post enc Tryz.prog Tryz.f3 false true false false) := by
 refine returnsInHanded_of_change_and (C := Tryz.checked) (X := fun w _ => laidMetH Tryz.prog [("math/bits.deBruijn32tab", Rows.laid_math_bits_deBruijn32tab), ("math/bits.deBruijn64tab", Rows.laid_math_bits_deBruijn64tab), ("internal/strconv.uint64pow10", Rows.laid_internal_strconv_uint64pow10)] w) (fun _ _ _ hh h => h.of_heap hh) own started (by kernel_rfl) Tryz.func3
  (ChangeSpec.witness_shaped (enc := enc) (C := Tryz.checked) (os := os) (X := fun w _ => laidMetH Tryz.prog [("math/bits.deBruijn32tab", Rows.laid_math_bits_deBruijn32tab), ("math/bits.deBruijn64tab", Rows.laid_math_bits_deBruijn64tab), ("internal/strconv.uint64pow10", Rows.laid_internal_strconv_uint64pow10)] w) false (World.doorLaid Tryz.prog 400 os) #[.int .i64 0, .slice none 0 0, .slice none 0 0] 8 rfl (World.shaped_of_RefB (by kernel_rfl) (by kernel_rfl)) (by kernel_rfl) (by kernel_rfl) (by kernel_rfl) (door_met os _)) ?_
 intro W base args ds gs before hval0 hW _ _ hL _
 have hval : ∀ (j : Nat) t v, Tryz.f3.params[j]? = some t → args[j]? = some v → Value.okWide Tryz.prog W .any base t v := hval0
 have hW' := hW
 obtain ⟨p, q, hA0, hV, rfl, hfz, hnd⟩ := hW
 have hA : DataW.TrodAll enc Tryz.prog W 0 (fun _ => true) true Tryz.f3.params.toList args.toList ds p := hA0
 rw [Tryz.params3] at hA hval
 obtain ⟨v0, vs0, d0, ds0, p0, q0, hargs, rfl, rfl, h0, r0⟩ := trodAll_cons hA
 obtain ⟨v1, vs1, d1, ds1, p1, q1, rfl, rfl, rfl, h1, r1⟩ := trodAll_cons r0
 obtain ⟨v2, vs2, d2, ds2, p2, q2, rfl, rfl, rfl, h2, r2⟩ := trodAll_cons r1
 obtain ⟨rfl, rfl, rfl⟩ := trodAll_nil r2
 obtain rfl : args = #[v0, v1, v2] := by cases args; simp_all
 obtain ⟨rfl, rfl⟩ := trodVars_none hV
 obtain ⟨a0, rfl, rfl, rfl, w0⟩ := open_int Tryz.underlying3 (hval 0 3 v0 rfl rfl) h0
 obtain ⟨a1, len1, cap1, rfl⟩ := okWide_slice Tryz.underlying22 (hval 1 22 v1 rfl rfl)
 have k1 := h1
 have lt1 : ∀ x ∈ p1, x.block < W.heap.size := by obtain ⟨m, hm⟩ := k1; exact DataW.trod_lt m _ _ _ hm
 obtain ⟨z1, b1, t1, e1, l1, c1⟩ : ∃ L, Lz W a1 L ∧ Lb L ∧ L.length = len1 ∧ len1 ≤ cap1 ∧ cap1 ≤ 9223372036854775807 := by
  obtain ⟨fuel, hf⟩ := h1
  exact rows_open5 (by simpa [Value.cells] using hf)
 obtain ⟨a2, len2, cap2, rfl⟩ := okWide_slice Tryz.underlying23 (hval 2 23 v2 rfl rfl)
 have k2 := h2
 have lt2 : ∀ x ∈ p2, x.block < W.heap.size := by obtain ⟨m, hm⟩ := k2; exact DataW.trod_lt m _ _ _ hm
 obtain ⟨z2, b2, t2, e2, l2, c2⟩ : ∃ L, Kl W a2 L ∧ Kb L ∧ L.length = len2 ∧ len2 ≤ cap2 ∧ cap2 ≤ 9223372036854775807 := by
  obtain ⟨fuel, hf⟩ := h2
  exact kids_open (by simpa [Value.cells] using hf)
 clear hA0 hval0
 refine (branchOwns_walk a0 a1 len1 cap1 z1 a2 len2 cap2 z2 W b1 t1 e1 b2 e2 (of_laid hL)).mono fun e W' ⟨he, hg⟩ => ?_
 subst he
 have bel := below_of hg
 exact ⟨_, rfl, _, _, _, [], _, [], hW', trodAll_mk1 (shut_bool Tryz.underlying4 _), (trodAll_cons_mk (shut_int Tryz.underlying3 w0) (trodAll_cons_mk (Below.trod laidOut (by kernel_rfl) (of_decide_eq_true (by kernel_rfl)) k1 bel lt1) (trodAll_cons_mk (Below.trod laidOut (by kernel_rfl) (of_decide_eq_true (by kernel_rfl)) k2 bel lt2) trodAll_mk0))), rfl, bel.frame _, fun h => by cases h⟩
theorem over : Rows.branchOwnsRow.holds Tryz.pinned (OpenSpec.ofChange Rows.branchOwnsSpec) :=
 OpenClaim.holds_of_wide 3 Tryz.f3 rfl rfl rfl rfl rfl rfl rfl ⟨rfl, rfl, rfl, rfl, rfl⟩ rfl rfl rfl rfl rfl (by kernel_rfl) Tryz.func3 (by kernel_rfl)
  (of_decide_eq_true (by kernel_rfl)) (by unfold Func.isWrapper; first | (rw [if_pos (by decide +kernel)]; kernel_rfl) | (rw [if_neg (by decide +kernel)]; exact ⟨rfl, rfl⟩))
  (fun os started H enc _ => lifted os started H enc)
end Go.Proofs.YtnfelndfpmnkmaaGreatDoor.branchOwns
namespace Go.Proofs.YtnfelndfpmnkmaaGreatDoor
open Go
theorem branchOwns_card : Rows.BranchOwnsCardSaid :=
 Claim7.holds_tied_plain_at .later [] [.data, .data, .data] true (true, "41f27bd637ba91156a7fd5b7d62297dde96e1e5386ce39f69ad44cdbed91b04b") false
  branchOwns.over (fun _ h => by cases h) (by kernel_rfl) (fun _ h => by cases h) branchOwns_row_tie rfl ⟨rfl, rfl⟩ (by kernel_rfl) rfl
  (fun f fn hf hfn => by
   obtain rfl : f = 3 := Option.some.inj ((show Tryz.prog.funcNamed "coppice/coppicelaw5.BranchOwns" = some 3 by kernel_rfl).symm.trans hf) |>.symm
   obtain rfl : fn = Tryz.f3 := (Option.some.inj (Tryz.func3.symm.trans hfn)).symm
   exact ⟨by kernel_rfl, fun j t ht => by
    rw [Tryz.params3] at ht
    have hm : t ∈ [3, 22, 23] := by simpa using Array.mem_of_getElem? ht
    have hall : ([3, 22, 23].all fun u => !Tryz.prog.wantsStandIn u) = true := by kernel_rfl
    exact (show Tryz.prog.wantsStandIn t = false by simpa using List.all_eq_true.1 hall t hm)⟩)
  (by kernel_rfl)
#print axioms branchOwns_card
end Go.Proofs.YtnfelndfpmnkmaaGreatDoor
