import Derived.Test.YtcdkkhbkicejiaaGreatDoorQ28
import Derived.Test.YtcdkkhbkicejiaaGreatDoorQ24
import Derived.Test.YtcdkkhbkicejiaaGreatDoorQ34
import Derived.LaidMore
import Derived.Stop.Joined
import Derived.SevenTiedAt
import Derived.WalkKit
import Derived.ProofKit
import Derived.OpenShut
import Derived.ShutString
import Derived.ChangeOld
import Derived.Below
import Derived.Test.YtcdkkhbkicejiaaGreatDoorRows
import Derived.Test.YtcdkkhbkicejiaaGreatDoorCards
import Derived.Test.YtcdkkhbkicejiaaGreatDoorTie
namespace Go.Proofs.YtcdkkhbkicejiaaGreatDoor
open Go.RowKit
theorem grown_own9' {w wr wa w' : World} {row : Option Nat} (hg : w.grownBy wr none) (ha : wr.grownBy wa none) (h : wa.grownBy w' row) (hr : ∀ d, row = some d → w.heap.size ≤ d) : w.grownBy w' none := by
 cases row with
 | none => exact grown_trans (grown_trans hg ha) h
 | some d => exact grown_new (grown_trans hg ha) h (hr d rfl)
set_option maxHeartbeats 8000000 in
set_option maxRecDepth 100000 in
theorem leafOwn_walk (a : Option Addr) (n cap : Nat) (Z : List It) (w : World) (hl : Il w a Z) (hb : Ib Z) (hn : Z.length = n) :
  Calls Tryz.prog 3 #[.slice a n cap] w fun en w' => en = .returned (.bool true) ∧ w.grownBy w' none := by
 obtain ⟨i0, hi, hz0, hz1, hz2⟩ := info_parts kinfo_rows
 have HL := hid_intro hl
 have HIB := hid_intro hb
 clear hl hb
 go_enter Tryz.func3, Tryz.ntmps3
 go_wp2_with fail
 refine (first4_any _).mono ?_
 rintro en w1 ⟨rfl, hg1⟩
 have HG1 := hid_intro hg1
 clear hg1
 by_cases h40 : 40 < n
 ·go_wp2
  go_ret
  exact ⟨rfl, HG1.out⟩
 ·go_wp2_with fail
  refine (short_any a n cap Z _ (HL.out.keptN HG1.out) hn).mono ?_
  rintro en w2 ⟨rfl, hq2⟩
  have HG2 := hid_intro (grown_trans HG1.out (hq2.grown none))
  clear hq2 HG1
  cases hsh : sh Z with
  | false =>
   go_wp2
   go_ret
   exact ⟨rfl, HG2.out⟩
  | true =>
   have HZS : Hid (∀ x ∈ Z, x.key.length ≤ 100000 ∧ x.val.length ≤ 100000) := fun x hx => by have := (sh_parts hsh).2 x hx; omega
   have K3 := hid_intro (kst_start w2 w.heap.size HG2.out.size)
   have G3 := hid_intro (grown_trans HG2.out (World.grownBy_alloc w2 (.cells kbookZ 40 (0, 0)) none))
   have hB0 := HG2.out.size
   clear hsh
   go_wp2_with (refine wpList_build_kbook rfl rfl ?_)
   obtain ⟨w3, hw3⟩ : ∃ w3, w2.alloc (.cells kbookZ 40 (0, 0)) = w3 := ⟨_, rfl⟩
   rw [hw3] at K3 G3 ⊢
   obtain ⟨B, hB⟩ : ∃ B, w2.heap.size = B := ⟨_, rfl⟩
   have hs3 : w3.heap.size = B + 1 := by rw [← hw3, ← hB]; simp
   rw [hB] at K3 hB0 ⊢
   clear hw3 hB HG2
   refine (refItems_big a n cap Z _ (HL.out.keptN G3.out) hn (by omega) HZS.out).mono ?_
   rintro en w4 ⟨A, cA, gk, gv, xs, rfl, hq4, hc0, hc1, hg4⟩
   obtain ⟨D, hD⟩ := hq4.kdl HZS.out
   rw [hn] at hD
   have hown := hq4.own
   rw [hn] at hown
   have M4 : Hid (Hl w4 B kcs0 (some ⟨A, 0, none⟩) n cA w3.heap.size w3.heap.size xs Z D) := ⟨hown, hq4.ti (fun d hd _ => K3.out.new hd), hD, fun s hs => K3.out.new (hD.ok s hs).2.2.2.2, fun i hi => K3.out.new (hown.lt i hi).1⟩
   have K4 := hid_intro (K3.out.keptN hg4)
   have G4 := hid_intro (grown_trans G3.out hg4)
   have hAl := (hown.lt A rfl).2
   have HDl : Hid (∀ s ∈ D, s.g < w4.heap.size) := fun s hs => (hD.ok s hs).2.2.2.1.lt
   have hs4 := hg4.size
   obtain ⟨Hm, hHm⟩ : ∃ Hm, w4.heap.size = Hm := ⟨_, rfl⟩
   rw [hHm] at hAl HDl hs4
   have S0 : Hid (∃ (cs : Nat → Value) (L1 : List Lst) (ys1 bx : List Value), Kst w4 B (B + 1) w.heap.size cs L1 ys1 [] [] ∧ L1.length = 0 ∧ (∀ t ∈ L1, Hm ≤ t.g) ∧ Hl w4 B cs (some ⟨A, 0, none⟩) n cA w3.heap.size w3.heap.size xs Z D ∧ Bds w4 B cs Hm 0 (.slice none 0 0) bx ∧ w.grownBy w4 none ∧ Hm ≤ w4.heap.size) :=
    ⟨kcs0, [], [], [], K4.out, rfl, fun t ht => by simp at ht, M4.out, ⟨⟨rfl, Or.inl ⟨rfl, rfl⟩⟩, (fun d hd => by cases hd), fun j hj => by omega⟩, G4.out, by omega⟩
   have HG0 : Hid (w.heap.size ≤ Hm) := by show _ ≤ _; omega
   clear hq4 hg4 hD hown M4 K4 G4 K3 G3 hHm
   go_wp2
   go_loopw [6, 7, 8, 9] (fun sb si _ _ wr => ∃ i : Nat, i ≤ 3 ∧ si = .int .i64 i ∧ ∃ (cs : Nat → Value) (L1 : List Lst) (ys1 bx : List Value), Kst wr B (B + 1) w.heap.size cs L1 ys1 [] [] ∧ L1.length = i ∧ (∀ t ∈ L1, Hm ≤ t.g) ∧ Hl wr B cs (some ⟨A, 0, none⟩) n cA w3.heap.size w3.heap.size xs Z D ∧ Bds wr B cs Hm i sb bx ∧ w.grownBy wr none ∧ Hm ≤ wr.heap.size) (fun _ si _ _ _ => 3 - (intOf si).toNat)
   case atStart => exact ⟨0, by omega, rfl, S0.out⟩
   case round =>
    obtain ⟨i, hi3, rfl, cs, L1, ys1, bx, hk, hln, hlo, hm, hbd, hg, hsz⟩ := hrel
    have HK := hid_intro hk
    have HLO := hid_intro hlo
    have HM := hid_intro hm
    have HBD := hid_intro hbd
    have HG := hid_intro hg
    clear hk hlo hm hbd hg S0
    by_cases hlt : i < 3
    ·go_wp2_with fail
     refine (encode_hl (some ⟨A, 0, none⟩) n cA Z _ HM.out.ti.il HIB.out hn (by omega)).mono ?_
     rintro en w5 ⟨⟨ao, m, zs, e, rfl, hzl, hm4, hbt, hv⟩, hg5⟩
     have K5 := hid_intro (HK.out.keptN hg5)
     have F5 := hid_intro (Kfr.of (B := B) (cs := cs) hg5)
     have M5 := hid_intro (HM.out.kfr F5.out)
     have B5 := hid_intro (HBD.out.kfr F5.out)
     have G5 := hid_intro (grown_trans HG.out hg5)
     have HV := hid_intro hv
     have HBT := hid_intro hbt
     have hs5 := hg5.size
     have hsw := HG.out.size
     clear hg5 hv hbt HM HBD HG F5
     go_wp2_with fail
     refine (kst_body HK.out K5.out hs5 hsw ao m zs hzl hm4 HV.out (by omega)).mono ?_
     rintro en w6 ⟨rfl, cs6, ys6, s6, k1, k2, k3, k4⟩
     have K6 := hid_intro k1
     have M6 := hid_intro (M5.out.kfr k2)
     have B6 := hid_intro (B5.out.kfr k2)
     have G6 := hid_intro (k2.grown K5.out.t G5.out (Nat.le_refl _))
     have T6 := hid_intro k4
     have hs6 := k2.size
     clear k1 k2 k4 HK K5 M5 B5 G5 HV
     go_wp2_with fail
     refine (refBytes_any ao m m zs _ T6.out.by' (by omega)).mono ?_
     rintro en w7 ⟨rfl, hown7, hg7, hs7⟩
     have F7 := hid_intro (Kfr.of (B := B) (cs := cs6) hg7)
     have K7 := hid_intro (K6.out.keptN hg7)
     have M7 := hid_intro (M6.out.kfr F7.out)
     have B7 := hid_intro (B6.out.kfr F7.out)
     have G7 := hid_intro (grown_trans G6.out hg7)
     have C7 : Hid (Tb w7 B cs6 (some ⟨w6.heap.size, 0, none⟩) m m zs) := ⟨Byt.of_owns hown7, fun ad e _ => by obtain rfl := Option.some.inj e; exact ⟨K6.out.new (Nat.le_refl _), blk_own hown7 _ rfl⟩⟩
     clear hown7 hg7 F7 K6 M6 B6 G6 T6
     generalize w6.heap.size = d7 at *
     go_wp2_with (at_builtin; refine wpList_append_lies _ rfl _ _ 26 rfl Hm 42 i0 (.slice none 0 0) 1 24 Tryz.underlying26 hi hz0 hz1 hz2 rfl (by decide) u6 i bx rfl (B7.out.own.alloc _) ⟨w7.heap.size, 0, none⟩ 1 1 [.slice (some ⟨d7, 0, none⟩) m m] rfl rfl (cell_one_new _ _ _) (by intro u hu; simp at hu; subst hu; rfl) (by omega) (by unfold maxLen; omega) (by omega) (by simp; omega) (w7.heap.size + 1) (by simp) ?_)
     intro g8 c8 w8 ho8 hg8 hat8 _
     have ga := World.grownBy_alloc w7 (.cells #[.slice (some ⟨d7, 0, none⟩) m m] 42) none
     have Fa := Kfr.of (B := B) (cs := cs6) ga
     have hrow : ∀ d, u6.ownBlock = some d → Fre B cs6 d ∧ Blk (w7.alloc (.cells #[.slice (some ⟨d7, 0, none⟩) m m] 42)) 42 d := fun d hd => ⟨B7.out.fr d hd, blk_own (B7.out.own.alloc _) d hd⟩
     have hrow2 : ∀ d, u6.ownBlock = some d → Blk (w7.alloc (.cells #[.slice (some ⟨d7, 0, none⟩) m m] 42)) 42 d := fun d hd => (hrow d hd).2
     have K8 := hid_intro ((K7.out.keptN ga).row hg8 hrow)
     have M8 := hid_intro ((M7.out.kfr Fa).row hg8 hrow2)
     have G8 := hid_intro (grown_own9' G7.out ga hg8 (fun d hd => by have := (B7.out.own.lt d hd).1; have := HG0.out; omega))
     have B8 : Hid (Bds w8 B cs6 Hm (i + 1) (.slice (some ⟨g8, 0, none⟩) (i + 1) c8) (bx ++ [.slice (some ⟨d7, 0, none⟩) m m])) := by
      have hxl : bx.length = i := by have := B7.out.own.1; simpa using this
      refine ⟨ho8, fun d hd => ?_, fun j hj => ?_⟩
      ·have hdg : g8 = d := Option.some.inj hd
       subst hdg
       rcases hat8 with h1 | h1
       ·exact B7.out.fr _ h1
       ·exact K7.out.new (by omega)
      ·by_cases e : j < i
       ·obtain ⟨ao2, m2, zs2, h1, h2, h3⟩ := B7.out.el j e
        exact ⟨ao2, m2, zs2, by rw [List.getElem?_append_left (by omega)]; exact h1, (h2.kfr Fa).row hg8 hrow2, h3⟩
       ·obtain rfl : j = i := by omega
        exact ⟨_, m, zs, by rw [List.getElem?_append_right (by omega), hxl]; simp, (C7.out.kfr Fa).row hg8 hrow2, HBT.out, hm4⟩
     have hs8 := hg8.size
     simp at hs8
     have HLO8 : Hid (∀ t ∈ L1 ++ [s6], Hm ≤ t.g) := fun t ht => by
      rcases List.mem_append.1 ht with h | h
      ·exact HLO.out t h
      ·obtain rfl := List.mem_singleton.1 h
       omega
     have hl8 : (L1 ++ [s6]).length = i + 1 := by rw [List.length_append]; simp; omega
     clear ga Fa hrow hrow2 ho8 hg8 hat8 K7 M7 B7 G7 C7 HBT
     go_wp2
     go_roundw
     case rel => exact ⟨i + 1, by omega, by go_num, cs6, _, _, _, K8.out, hl8, HLO8.out, M8.out, B8.out, G8.out, by omega⟩
     case measure => simp [intOf]; omega
    ·obtain rfl : i = 3 := by omega
     have S1 : Hid (∃ (cs : Nat → Value) (L1 : List Lst) (ys1 : List Value) (L2 : List Lst) (ys2 : List Value), Kst wr B (B + 1) w.heap.size cs L1 ys1 L2 ys2 ∧ L1.length ≤ 3 + 0 * 20001 ∧ 0 < L1.length ∧ L2.length = 0 ∧ (∀ t ∈ L1, Hm ≤ t.g) ∧ (∀ t ∈ L2, Hm ≤ t.g) ∧ Hl wr B cs (some ⟨A, 0, none⟩) n cA w3.heap.size w3.heap.size xs Z D ∧ Bds wr B cs Hm 3 u6 bx ∧ w.grownBy wr none ∧ Hm ≤ wr.heap.size) :=
      ⟨cs, L1, ys1, [], [], HK.out, by omega, by omega, rfl, HLO.out, fun t ht => by simp at ht, HM.out, HBD.out, HG.out, hsz⟩
     obtain ⟨rb, cb, hsb, _, _⟩ := HBD.out.own.form (by omega)
     subst hsb
     clear HK HLO HM HBD HG
     go_wp2
     go_loopw [10, 11, 12, 13, 14, 15] (fun sj _ _ _ _ _ wt => ∃ j : Nat, j ≤ 3 ∧ sj = .int .i64 j ∧ ∃ (cs : Nat → Value) (L1 : List Lst) (ys1 : List Value) (L2 : List Lst) (ys2 : List Value), Kst wt B (B + 1) w.heap.size cs L1 ys1 L2 ys2 ∧ L1.length ≤ 3 + j * 20001 ∧ 0 < L1.length ∧ L2.length = 2 * j ∧ (∀ t ∈ L1, Hm ≤ t.g) ∧ (∀ t ∈ L2, Hm ≤ t.g) ∧ Hl wt B cs (some ⟨A, 0, none⟩) n cA w3.heap.size w3.heap.size xs Z D ∧ Bds wt B cs Hm 3 (.slice (some ⟨rb, 0, none⟩) 3 cb) bx ∧ w.grownBy wt none ∧ Hm ≤ wt.heap.size) (fun sj _ _ _ _ _ _ => 3 - (intOf sj).toNat)
     case atStart => exact ⟨0, by omega, rfl, S1.out⟩
     case round =>
      obtain ⟨j, hj3, rfl, cs, L1, ys1, L2, ys2, hk, hn1, hp1, hn2, hlo1, hlo2, hm, hbd, hg, hsz⟩ := hrel
      have HK := hid_intro hk
      have HLO1 := hid_intro hlo1
      have HLO2 := hid_intro hlo2
      have HM := hid_intro hm
      have HBD := hid_intro hbd
      have HG := hid_intro hg
      clear hk hlo1 hlo2 hm hbd hg S1
      by_cases hlt : j < 3
      ·obtain ⟨ao, m, zs, hxj, htb, hbt, hm4⟩ := HBD.out.el j hlt
       have cj : wr.cell? ⟨rb, j, none⟩ = some (.slice ao m m) := (HBD.out.own.cellAt j (by omega)).trans hxj
       have HTB := hid_intro htb
       have HBT := hid_intro hbt
       have g0 : (0 : Int) ≤ (j : Int) := by omega
       have g1 : (j : Int) < 3 := by omega
       clear hxj htb hbt
       go_wp2_with fail
       refine (refBytes_any ao m m zs _ HTB.out.by' (by omega)).mono ?_
       rintro en w5 ⟨rfl, hown5, hg5, hs5⟩
       have F5 := Kfr.of (B := B) (cs := cs) hg5
       have K5 := hid_intro (HK.out.keptN hg5)
       have M5 := hid_intro (HM.out.kfr F5)
       have B5 := hid_intro (HBD.out.kfr F5)
       have G5 := hid_intro (grown_trans HG.out hg5)
       have R5 := hid_intro (Rw.of_owns hown5)
       have FR5 := hid_intro (HK.out.new (Nat.le_refl _))
       have HL1 : Hid (∀ t ∈ L1, t.g < wr.heap.size) := fun t ht => HK.out.lt1 ht
       have HL2 : Hid (∀ t ∈ L2, t.g < wr.heap.size) := fun t ht => HK.out.lt2 ht
       have hzl : zs.length = m := HTB.out.by'.len
       have hsw := HG.out.size
       clear hown5 hg5 F5 HK HM HBD HG HTB cj
       generalize wr.heap.size = d5 at *
       go_wp2_with fail
       refine (decode_hl (some ⟨d5, 0, none⟩) m m zs _ K5.out (R5.out.all m m hzl.symm) HBT.out).mono ?_
       rintro en w6 ⟨⟨a6, n6, c6, e6, Z6, b6, x6, D6, rfl, hl6, hb6, hib6, hz6, hn6, hs6⟩, hg6⟩
       have F6 := Kfr.of (B := B) (cs := cs) hg6
       have K6 := hid_intro (K5.out.keptN hg6)
       have M6 := hid_intro (M5.out.kfr F6)
       have B6 := hid_intro (B5.out.kfr F6)
       have G6 := hid_intro (grown_trans G5.out hg6)
       have R6 := hid_intro (R5.out.keptN hg6)
       have H6 := hid_intro hl6
       have I6 := hid_intro hib6
       have Z6S := hid_intro hs6
       have hsz6 := hg6.size
       have D6L : Hid (∀ s ∈ D6, w5.heap.size ≤ s.g ∧ s.g < w6.heap.size) := fun s hs => ⟨(hl6.kd.ok s hs).2.2.2.2, (hl6.kd.ok s hs).2.2.2.1.lt⟩
       have V6L : Hid (∀ i, (Value.slice a6 n6 c6).ownBlock = some i → w5.heap.size ≤ i ∧ i < w6.heap.size) := fun i hi => ⟨by have := (hl6.own.lt i hi).1; omega, (hl6.own.lt i hi).2⟩
       clear hl6 hib6 hs6 hg6 F6 K5 M5 B5 G5 R5
       go_wp2_with fail
       refine (decode_hl (some ⟨d5, 0, none⟩) m m zs _ K6.out (R6.out.all m m hzl.symm) HBT.out).mono ?_
       rintro en w7 ⟨⟨a7, n7, c7, e7, Z7, b7, x7, D7, rfl, hl7, hb7, hib7, hz7, hn7, hs7⟩, hg7⟩
       have F7 := Kfr.of (B := B) (cs := cs) hg7
       have K7 := hid_intro (K6.out.keptN hg7)
       have M7 := hid_intro (M6.out.kfr F7)
       have B7 := hid_intro (B6.out.kfr F7)
       have G7 := hid_intro (grown_trans G6.out hg7)
       have R7 := hid_intro (R6.out.keptN hg7)
       have H67 := hid_intro (H6.out.kfr F7)
       have H7 := hid_intro hl7
       have I7 := hid_intro hib7
       have Z7S := hid_intro hs7
       have hsz7 := hg7.size
       have D7L : Hid (∀ s ∈ D7, w6.heap.size ≤ s.g ∧ s.g < w7.heap.size) := fun s hs => ⟨(hl7.kd.ok s hs).2.2.2.2, (hl7.kd.ok s hs).2.2.2.1.lt⟩
       have V7L : Hid (∀ i, (Value.slice a7 n7 c7).ownBlock = some i → w6.heap.size ≤ i ∧ i < w7.heap.size) := fun i hi => ⟨by have := (hl7.own.lt i hi).1; omega, (hl7.own.lt i hi).2⟩
       have D6n : D6.length = 2 * n6 := H6.out.kd.len
       have D7n : D7.length = 2 * n7 := hl7.kd.len
       clear hl7 hib7 hs7 hg7 F7 K6 M6 B6 G6 R6 H6
       have hL1 : L1.length ≤ 60006 := by omega
       have AP6 : Hid (∀ t ∈ L1, ∀ s ∈ D6, t.Apart s) := fun t ht s hs => apart_blocks (fun _ _ => by have := HL1.out t ht; have := (D6L.out s hs).1; omega)
       have AV6 : Hid (∀ t ∈ L2, ∀ i, (Value.slice a6 n6 c6).ownBlock = some i → t.g ≠ i) := fun t ht i hi => by have := HL2.out t ht; have := (V6L.out i hi).1; omega
       go_wp2_with fail
       refine (kst_items K7.out a6 n6 c6 b6 _ x6 Z6 D6 H67.out.own H67.out.ti I6.out hz6 hn6 Z6S.out H67.out.kd (by omega) (by omega) H67.out.fd H67.out.fv AP6.out AV6.out (by omega) (by omega)).mono ?_
       rintro en w8 ⟨rfl, cs8, ys8, zs8, s8, k1, k2, k3⟩
       have K8 := hid_intro k1
       have M8 := hid_intro (M7.out.kfr k2)
       have B8 := hid_intro (B7.out.kfr k2)
       have G8 := hid_intro (k2.grown K7.out.t G7.out (Nat.le_refl _))
       have H8 := hid_intro (H7.out.kfr k2)
       have FR8 := hid_intro (k2.block d5 (by omega) FR5.out)
       have hsz8 := k2.size
       have S8 := hid_intro k3
       clear k1 k2 k3 K7 M7 B7 G7 H7 H67
       have R8 : Hid (Rw w8 d5 zs) := FR8.out.1.trans R7.out
       have AP7 : Hid (∀ t ∈ L1 ++ D6, ∀ s ∈ D7, t.Apart s) := fun t ht s hs => apart_blocks (fun _ _ => by
        have h7 := (D7L.out s hs).1
        rcases List.mem_append.1 ht with h | h
        ·have := HL1.out t h; omega
        ·have := (D6L.out t h).2; omega)
       have AV7 : Hid (∀ t ∈ L2 ++ [s8], ∀ i, (Value.slice a7 n7 c7).ownBlock = some i → t.g ≠ i) := fun t ht i hi => by
        have h7 := V7L.out i hi
        rcases List.mem_append.1 ht with h | h
        ·have := HL2.out t h; omega
        ·obtain rfl := List.mem_singleton.1 h
         rcases S8.out with h8 | h8
         ·have := (V6L.out _ h8).2; omega
         ·omega
       have hL2 : (L1 ++ D6).length + 2 * n7 ≤ 1000000 := by rw [List.length_append]; omega
       have hL3 : (L2 ++ [s8]).length ≤ 1000000 := by rw [List.length_append]; simp; omega
       go_wp2_with fail
       refine (kst_items K8.out a7 n7 c7 b7 _ x7 Z7 D7 H8.out.own H8.out.ti I7.out hz7 hn7 Z7S.out H8.out.kd (by omega) (by omega) H8.out.fd H8.out.fv AP7.out AV7.out hL2 hL3).mono ?_
       rintro en w9 ⟨rfl, cs9, ys9, zs9, s9, k1, k2, k3⟩
       have K9 := hid_intro k1
       have M9 := hid_intro (M8.out.kfr k2)
       have B9 := hid_intro (B8.out.kfr k2)
       have G9 := hid_intro (k2.grown K8.out.t G8.out (Nat.le_refl _))
       have FR9 := hid_intro (k2.block d5 (by omega) FR8.out.2)
       have hsz9 := k2.size
       have S9 := hid_intro k3
       clear k1 k2 k3 K8 M8 B8 G8 H8
       have R9 : Hid (Rw w9 d5 zs) := FR9.out.1.trans R8.out
       have AP9 : Hid (∀ t ∈ L1 ++ D6 ++ D7, t.Apart ⟨.slice (some ⟨d5, 0, none⟩) m m, d5, 0, m, m, m, m⟩) := fun t ht => apart_blocks (fun _ _ => by
        show t.g ≠ d5
        rcases List.mem_append.1 ht with h | h
        ·rcases List.mem_append.1 h with h | h
         ·have := HL1.out t h; omega
         ·have := (D6L.out t h).1; omega
        ·have := (D7L.out t h).1; omega)
       have hL9 : (L1 ++ D6 ++ D7).length ≤ 1000000 := by rw [List.length_append, List.length_append]; omega
       go_wp2_with fail
       refine (kst_bytes K9.out ⟨.slice (some ⟨d5, 0, none⟩) m m, d5, 0, m, m, m, m⟩ zs ⟨Nat.le_refl _, by simp, by simp, by show m ≤ _; omega, by show m ≤ _; omega, _, rfl, fun _ => rfl⟩ (fun q hq => ⟨⟨_, by rw [Nat.zero_add]; exact R9.out.cell q (by have : q < m := hq; omega)⟩, u8_frozen R9.out.u8 _⟩) (by show m ≤ _; omega) (blk_u8 R9.out.u8) FR9.out.2 (show w.heap.size ≤ d5 by omega) rfl AP9.out (R9.out.all m m hzl.symm) hL9).mono ?_
       rintro en w10 ⟨rfl, cs10, ys10, k1, k2⟩
       have K10 := hid_intro k1
       have M10 := hid_intro (M9.out.kfr k2)
       have B10 := hid_intro (B9.out.kfr k2)
       have G10 := hid_intro (k2.grown K9.out.t G9.out (Nat.le_refl _))
       have hsz10 := k2.size
       clear k1 k2 K9 M9 B9 G9
       have LA : Hid (∀ t ∈ L1 ++ D6 ++ D7 ++ [⟨.slice (some ⟨d5, 0, none⟩) m m, d5, 0, m, m, m, m⟩], Hm ≤ t.g) := fun t ht => by
        rcases List.mem_append.1 ht with h | h
        ·rcases List.mem_append.1 h with h | h
         ·rcases List.mem_append.1 h with h | h
          ·exact HLO1.out t h
          ·have := (D6L.out t h).1; omega
         ·have := (D7L.out t h).1; omega
        ·obtain rfl := List.mem_singleton.1 h
         show Hm ≤ d5
         omega
       have LB : Hid (∀ t ∈ L2 ++ [s8] ++ [s9], Hm ≤ t.g) := fun t ht => by
        rcases List.mem_append.1 ht with h | h
        ·rcases List.mem_append.1 h with h | h
         ·exact HLO2.out t h
         ·obtain rfl := List.mem_singleton.1 h
          rcases S8.out with h8 | h8
          ·have := (V6L.out _ h8).1; omega
          ·omega
        ·obtain rfl := List.mem_singleton.1 h
         rcases S9.out with h8 | h8
         ·have := (V7L.out _ h8).1; omega
         ·omega
       have lenA : (L1 ++ D6 ++ D7 ++ [(⟨.slice (some ⟨d5, 0, none⟩) m m, d5, 0, m, m, m, m⟩ : Lst)]).length ≤ 3 + (j + 1) * 20001 := by
        rw [List.length_append, List.length_append, List.length_append]
        simp only [List.length_cons, List.length_nil]
        omega
       have lenA0 : 0 < (L1 ++ D6 ++ D7 ++ [(⟨.slice (some ⟨d5, 0, none⟩) m m, d5, 0, m, m, m, m⟩ : Lst)]).length := by rw [List.length_append]; simp
       have lenB : (L2 ++ [s8] ++ [s9]).length = 2 * (j + 1) := by
        rw [List.length_append, List.length_append]
        simp only [List.length_cons, List.length_nil]
        omega
       go_wp2
       refine ⟨?_, ?measure⟩
       (repeat apply Exists.intro)
       refine ⟨?rel, rfl⟩
       case rel => exact ⟨j + 1, by omega, by go_num, cs10, _, _, _, _, K10.out, lenA, lenA0, lenB, LA.out, LB.out, M10.out, B10.out, G10.out, by omega⟩
       case measure => simp [intOf]; omega
      ·obtain rfl : j = 3 := by omega
       have hsw := HG.out.size
       have AP : Hid (∀ t ∈ L1, ∀ s ∈ D, t.Apart s) := fun t ht s hs => apart_blocks (fun _ _ => by have := HLO1.out t ht; have := HDl.out s hs; omega)
       have AV : Hid (∀ t ∈ L2, ∀ i, (Value.slice (some ⟨A, 0, none⟩) n cA).ownBlock = some i → t.g ≠ i) := fun t ht i hi => by
        have h7 := HLO2.out t ht
        have : A = i := Option.some.inj hi
        omega
       go_wp2_with fail
       refine (kst_items HK.out (some ⟨A, 0, none⟩) n cA _ _ xs Z D HM.out.own HM.out.ti HIB.out hn (by omega) HZS.out HM.out.kd (by omega) (by omega) HM.out.fd HM.out.fv AP.out AV.out (by omega) (by omega)).mono ?_
       rintro en w8 ⟨rfl, cs8, ys8, zs8, s8, k1, k2, k3⟩
       have K8 := hid_intro k1
       have G8 := hid_intro (k2.grown HK.out.t HG.out (Nat.le_refl _))
       have hDn := HM.out.kd.len
       have l1 : (L1 ++ D).length ≤ 1000000 := by rw [List.length_append]; omega
       have l2 : (L2 ++ [s8]).length ≤ 1000000 := by rw [List.length_append]; simp; omega
       have l3 : 0 < (L1 ++ D).length := by rw [List.length_append]; omega
       have l4 : 0 < (L2 ++ [s8]).length := by rw [List.length_append]; simp
       clear k1 k2 k3 HK HM HBD HG
       go_wp2_with fail
       refine (kst_finish K8.out l3 l4 l1 l2 G8.out (Nat.le_refl _)).mono ?_
       rintro en w9 ⟨rfl, hg9⟩
       have G9 := hid_intro hg9
       clear hg9 K8 G8
       go_wp2_with fail
       refine (first4_any _).mono ?_
       rintro en w10 ⟨rfl, hg10⟩
       have G10 := hid_intro (grown_trans G9.out hg10)
       clear hg10 G9
       go_wp2
       go_ret
       exact ⟨rfl, G10.out⟩
end Go.Proofs.YtcdkkhbkicejiaaGreatDoor
namespace Go.Proofs.YtcdkkhbkicejiaaGreatDoor.leafOwn
open Go.ChangeShapes Go.WideShapes Go.ChangeAt Go.RowKit
set_option linter.unusedVariables false
theorem own : ownKnob Tryz.prog.godebug = none := by kernel_rfl
theorem laidOut : laidOutB Tryz.prog = true := by kernel_rfl
set_option maxRecDepth 100000 in
theorem lifted (os : Os) (started : os.Started) (H : Type) (enc : TypeId × Value → H) :
  ReturnsInHanded {} Tryz.checked os 3 .any (fun w args => (Rows.leafOwnSpec.pre enc Tryz.prog Tryz.f3 [] false w args ∧ laidMetH Tryz.prog [("math/bits.deBruijn32tab", Rows.laid_math_bits_deBruijn32tab), ("math/bits.deBruijn64tab", Rows.laid_math_bits_deBruijn64tab), ("internal/strconv.uint64pow10", Rows.laid_internal_strconv_uint64pow10)] w) ∧ sizedMet enc Tryz.prog Tryz.f3 (OpenSpec.ofChange Rows.leafOwnSpec) false w args) (Rows.leafOwnSpec.post enc Tryz.prog Tryz.f3 false true false false) := by
 refine returnsInHanded_of_change_and (C := Tryz.checked) (X := fun w _ => laidMetH Tryz.prog [("math/bits.deBruijn32tab", Rows.laid_math_bits_deBruijn32tab), ("math/bits.deBruijn64tab", Rows.laid_math_bits_deBruijn64tab), ("internal/strconv.uint64pow10", Rows.laid_internal_strconv_uint64pow10)] w) (fun _ _ _ hh h => h.of_heap hh) own started (by kernel_rfl) Tryz.func3
  (ChangeSpec.witness_shaped (enc := enc) (C := Tryz.checked) (os := os) (X := fun w _ => laidMetH Tryz.prog [("math/bits.deBruijn32tab", Rows.laid_math_bits_deBruijn32tab), ("math/bits.deBruijn64tab", Rows.laid_math_bits_deBruijn64tab), ("internal/strconv.uint64pow10", Rows.laid_internal_strconv_uint64pow10)] w) false (World.doorLaid Tryz.prog 400 os) #[.slice none 0 0] 8 rfl (World.shaped_of_RefB (by kernel_rfl) (by kernel_rfl)) (by kernel_rfl) (by kernel_rfl) (by kernel_rfl) (door_met3 os _)) ?_
 intro W base args ds gs before hval0 hW _ _ _ _
 have hval : ∀ (j : Nat) t v, Tryz.f3.params[j]? = some t → args[j]? = some v → Value.okWide Tryz.prog W .any base t v := hval0
 have hW' := hW
 obtain ⟨p, q, hA0, hV, rfl, hfz, hnd⟩ := hW
 have hA : DataW.TrodAll enc Tryz.prog W 0 (fun _ => true) true Tryz.f3.params.toList args.toList ds p := hA0
 rw [Tryz.params3] at hA hval
 obtain ⟨v0, vs0, d0, ds0, p0, q0, hargs, rfl, rfl, h0, r0⟩ := trodAll_cons hA
 obtain ⟨rfl, rfl, rfl⟩ := trodAll_nil r0
 obtain rfl : args = #[v0] := by cases args; simp_all
 obtain ⟨rfl, rfl⟩ := trodVars_none hV
 obtain ⟨a0, len0, cap0, rfl⟩ := okWide_slice Tryz.underlying22 (hval 0 22 v0 rfl rfl)
 have k0 := h0
 have lt0 : ∀ x ∈ p0, x.block < W.heap.size := by obtain ⟨m, hm⟩ := k0; exact DataW.trod_lt m _ _ _ hm
 obtain ⟨z0, b0, t0, e0, _, _⟩ : ∃ L, Il W a0 L ∧ Ib L ∧ L.length = len0 ∧ len0 ≤ cap0 ∧ cap0 ≤ 9223372036854775807 := by
  obtain ⟨fuel, hf⟩ := h0
  exact items_open (by simpa [Value.cells] using hf)
 clear hA0 hval0
 refine (leafOwn_walk a0 len0 cap0 z0 W b0 t0 e0).mono fun e W' ⟨he, bel0⟩ => ?_
 have bel := below_of bel0
 subst he
 exact ⟨_, rfl, _, _, _, [], _, [], hW', trodAll_mk1 (shut_bool Tryz.underlying4 _), (trodAll_cons_mk (Below.trod laidOut (by kernel_rfl) (of_decide_eq_true (by kernel_rfl)) k0 bel lt0) trodAll_mk0), rfl, bel.frame _, fun h => by cases h⟩
theorem over : Rows.leafOwnRow.holds Tryz.pinned (OpenSpec.ofChange Rows.leafOwnSpec) :=
 OpenClaim.holds_of_wide 3 Tryz.f3 rfl rfl rfl rfl rfl rfl rfl ⟨rfl, rfl, rfl, rfl, rfl⟩ rfl rfl rfl rfl rfl (by kernel_rfl) Tryz.func3 (by kernel_rfl)
  (of_decide_eq_true (by kernel_rfl)) (by unfold Func.isWrapper; first | (rw [if_pos (by decide +kernel)]; kernel_rfl) | (rw [if_neg (by decide +kernel)]; exact ⟨rfl, rfl⟩))
  (fun os started H enc _ => lifted os started H enc)
end Go.Proofs.YtcdkkhbkicejiaaGreatDoor.leafOwn
namespace Go.Proofs.YtcdkkhbkicejiaaGreatDoor
open Go
theorem leafOwn_card : Rows.LeafOwnCardSaid :=
 Claim7.holds_tied_plain_at .later [] [.data, .data, .data] true (true, "f553b0901486c0a0143b0da6853db80c168d3c24b919e0832aa2c8809c6b1867") false
  leafOwn.over (fun _ h => by cases h) (by kernel_rfl) (fun _ h => by cases h) leafOwn_row_tie rfl ⟨rfl, rfl⟩ (by kernel_rfl) rfl
  (fun f fn hf hfn => by
   obtain rfl : f = 3 := Option.some.inj ((show Tryz.prog.funcNamed "coppice/coppicelaw4.LeafOwn" = some 3 by kernel_rfl).symm.trans hf) |>.symm
   obtain rfl : fn = Tryz.f3 := (Option.some.inj (Tryz.func3.symm.trans hfn)).symm
   exact ⟨by kernel_rfl, fun j t ht => by
    rw [Tryz.params3] at ht
    have hm : t ∈ [22] := by simpa using Array.mem_of_getElem? ht
    have hall : ([22].all fun u => !Tryz.prog.wantsStandIn u) = true := by kernel_rfl
    exact (show Tryz.prog.wantsStandIn t = false by simpa using List.all_eq_true.1 hall t hm)⟩)
  (by kernel_rfl)
#print axioms leafOwn_card
end Go.Proofs.YtcdkkhbkicejiaaGreatDoor
