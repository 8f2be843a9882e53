import Derived.Test.YtndanifjommpdaaGreatQ32
import Derived.Lib.ConvBytes
import Derived.Deep.QuietTactic
namespace Go.Proofs.YtndanifjommpdaaGreat
open Go.RowKit
theorem bytesW_grown (w : World) (e : TypeId) (s : ByteArray) : w.grownBy (Lib.bytesWorld w e s) none :=
 ⟨rfl, rfl, rfl, by rw [Lib.bytesWorld_size]; omega, fun k hk _ => Lib.bytesWorld_at_old w e s k hk⟩
theorem bytesW_byt (w : World) (x : UInt8) (c : Nat) : Byt (Lib.bytesWorld w 5 ⟨#[x]⟩) (some ⟨w.heap.size, 0, none⟩) 1 c [(x.toNat : Int)] := by
 refine ⟨rfl, (fun e => by cases e), fun ad e j u hu => ?_⟩
 cases e
 match j, hu with
 | 0, hu =>
  have h := Lib.bytesWorld_cell w 5 ⟨#[x]⟩ 0 Nat.zero_lt_one
  rw [Addr.add_lit, h]
  simpa using hu
 | j + 1, hu => simp at hu
def SetP (w : World) (x y : UInt8) (en : Ending) (w' : World) : Prop := ∃ ao c bo d, en = .returned (.agg #[.slice ao 1 c, .slice bo 1 d, .bool false]) ∧ w.grownBy w' none ∧ Byt w' ao 1 c [(x.toNat : Int)] ∧ Byt w' bo 1 d [(y.toNat : Int)]
set_option maxHeartbeats 2000000 in
set_option maxRecDepth 100000 in
theorem set_any (x y : UInt8) (w : World) : Calls Tryz.prog 19 #[.string ⟨#[x]⟩, .string ⟨#[y]⟩] w fun en w' => SetP w x y en w' := by
 obtain ⟨w1, hw1⟩ : ∃ w1, w.alloc (.cells #[.slice none 0 0, .slice none 0 0, .bool false] 46) = w1 := ⟨_, rfl⟩
 have g1 : w.grownBy w1 none := by rw [← hw1]; exact World.grownBy_alloc w _ none
 have r1 : w1.heap[w.heap.size]? = some (.cells #[.slice none 0 0, .slice none 0 0, .bool false] 46 (0, 0)) := by rw [← hw1]; exact heap_at0 w _ _
 have hcv1 := Lib.run_convert_string_bytes (P := Tryz.prog) w1 9 23 5 ⟨#[x]⟩ (u := .string) Tryz.underlying9 Tryz.underlying23 Tryz.underlying5
 have g2 := bytesW_grown w1 5 ⟨#[x]⟩
 have b2 := bytesW_byt w1 x (grownCap w1 (⟨#[x]⟩ : ByteArray).size 0 5)
 generalize Lib.bytesWorld w1 5 ⟨#[x]⟩ = w2 at *
 have hcv2 := Lib.run_convert_string_bytes (P := Tryz.prog) w2 9 23 5 ⟨#[y]⟩ (u := .string) Tryz.underlying9 Tryz.underlying23 Tryz.underlying5
 have g3 := bytesW_grown w2 5 ⟨#[y]⟩
 have b3 := bytesW_byt w2 y (grownCap w2 (⟨#[y]⟩ : ByteArray).size 0 5)
 generalize Lib.bytesWorld w2 5 ⟨#[y]⟩ = w3 at *
 generalize grownCap w1 (⟨#[x]⟩ : ByteArray).size 0 5 = c1 at *
 generalize grownCap w2 (⟨#[y]⟩ : ByteArray).size 0 5 = c2 at *
 have e1 : (⟨#[x]⟩ : ByteArray).size = 1 := rfl
 have e2 : (⟨#[y]⟩ : ByteArray).size = 1 := rfl
 rw [e1] at hcv1
 rw [e2] at hcv2
 have r3 := heap_kept r1 (grown_trans g2 g3)
 have d0 := cell_heap (i := 0) r3 rfl
 have d1 := cell_heap (i := 1) r3 rfl
 have d2 := cell_heap (i := 2) r3 rfl
 have f0 := frozen_of_row w3 w.heap.size 0 _ _ r3
 have f1 := frozen_of_row w3 w.heap.size 1 _ _ r3
 have f2 := frozen_of_row w3 w.heap.size 2 _ _ r3
 obtain ⟨y1, y2⟩ := chg_put r3 (.slice (some ⟨w1.heap.size, 0, none⟩) 1 c1) (.slice (some ⟨w2.heap.size, 0, none⟩) 1 c2) (.bool false)
 have hz1 : w.heap.size < w1.heap.size := by rw [← hw1]; simp
 have hz2 := g2.size
 have HG := hid_intro (grown_new (grown_trans g1 (grown_trans g2 g3)) y2 (Nat.le_refl _))
 have kb : ∀ {W : World} {g n c : Nat} {zs : List Int}, w.heap.size ≠ g → Byt w3 (some ⟨g, 0, none⟩) n c zs → w3.grownBy W (some w.heap.size) → Byt W (some ⟨g, 0, none⟩) n c zs := fun hne hb hg => ⟨hb.len, (fun e => by cases e), fun ad e j u hu => by
  have := hb.cells ad e j u hu
  cases e
  exact hg.cell this (fun e => hne (by have := Option.some.inj e; rw [Addr.add_lit] at this; simpa using this.symm))⟩
 have B2 := hid_intro (kb (by omega) (b2.keptN g3) y2)
 have B3 := hid_intro (kb (by omega) b3 y2)
 have Y1 := hid_intro y1
 clear g1 g2 g3 b2 b3 r1 r3 y1 y2 hz1 hz2 e1 e2 kb
 go_enter Tryz.func19, Tryz.ntmps19
 go_wp2
 refine bodyPost_ret (ret_chg rfl _ _ w.heap.size _ _ _ rfl Y1.out) rfl ?_
 exact ⟨_, _, _, _, rfl, HG.out, B2.out, B3.out⟩
set_option maxHeartbeats 1000000 in
set_option maxRecDepth 100000 in
theorem num11 (n : Int) (w : World) : Calls Tryz.prog 22 #[.int .i64 n] w fun en w' => en = .returned (.int .i64 n) ∧ w' = w := by
 go_enter Tryz.func22, Tryz.ntmps22
 go_wp2
 go_ret
 exact ⟨rfl, rfl⟩
set_option maxHeartbeats 1000000 in
set_option maxRecDepth 100000 in
theorem short11 (a b : Option Addr) (n m c d : Nat) (w : World) : Calls Tryz.prog 7 #[.slice a n c, .slice b m d] w fun en w' => en = .returned (.bool (decide (n ≤ 1000) && decide (m ≤ 1000))) ∧ w' = w := by
 by_cases h1 : n ≤ 1000
 ·have k1 : (n : Int) ≤ 1000 := by omega
  by_cases h2 : m ≤ 1000
  ·have k2 : (m : Int) ≤ 1000 := by omega
   have HR : Hid ((decide (n ≤ 1000) && decide (m ≤ 1000)) = true) := by show _ = _; simp [h1, h2]
   rw [HR.out]
   clear h1 h2
   go_enter Tryz.func7, Tryz.ntmps7
   go_wp2
   go_ret
   exact ⟨rfl, rfl⟩
  ·have k2 : ¬ (m : Int) ≤ 1000 := by omega
   have HR : Hid ((decide (n ≤ 1000) && decide (m ≤ 1000)) = false) := by show _ = _; simp [h2]
   rw [HR.out]
   clear h1 h2
   go_enter Tryz.func7, Tryz.ntmps7
   go_wp2
   go_ret
   exact ⟨rfl, rfl⟩
 ·have k1 : ¬ (n : Int) ≤ 1000 := by omega
  have HR : Hid ((decide (n ≤ 1000) && decide (m ≤ 1000)) = false) := by show _ = _; simp [h1]
  rw [HR.out]
  clear h1
  go_enter Tryz.func7, Tryz.ntmps7
  go_wp2
  go_ret
  exact ⟨rfl, rfl⟩
set_option maxHeartbeats 4000000 in
set_option maxRecDepth 100000 in
theorem less11 (ao bo : Option Addr) (n m c d : Nat) (za zb : List Int) (w : World) (ha : Byt w ao n c za) (hb : Byt w bo m d zb) (hn : n ≤ 100000000) :
  Calls Tryz.prog 18 #[.slice ao n c, .slice bo m d] w fun en w' => en = .returned (.bool (decide (cmpZ za zb < 0))) ∧ w.grownBy w' none := by
 have la := ha.len
 have lb := hb.len
 have HA := hid_intro ha
 have HB := hid_intro hb
 have HLA := hid_intro la
 have HLB := hid_intro lb
 clear ha hb la lb
 go_enter Tryz.func18, Tryz.ntmps18
 go_wp2
 go_loopw [5] (fun si wr => ∃ i : Nat, i ≤ n ∧ i ≤ m ∧ si = .int .i64 (i : Nat) ∧ Qt w wr ∧ cmpZ za zb = cmpZ (za.drop i) (zb.drop i)) (fun si _ => n - (intOf si).toNat)
 case atStart => exact ⟨0, Nat.zero_le _, Nat.zero_le _, rfl, Qt.refl _, by simp⟩
 case round =>
  obtain ⟨i, hi, hj, rfl, hq, hc⟩ := hrel
  have HQ := hid_intro hq
  have HC := hid_intro hc
  clear hc
  by_cases h1 : i < n ∧ i < m
  ·obtain ⟨l1, l2⟩ := h1
   have la := HLA.out
   have lb := HLB.out
   obtain ⟨x, hx⟩ : ∃ x, za[i]? = some x := ⟨_, List.getElem?_eq_getElem (by omega)⟩
   obtain ⟨y, hy⟩ : ∃ y, zb[i]? = some y := ⟨_, List.getElem?_eq_getElem (by omega)⟩
   obtain ⟨a1, e1⟩ : ∃ a1, ao = some a1 := by
    cases ao with
    | none => have := (HA.out.nil rfl).1; omega
    | some a1 => exact ⟨_, rfl⟩
   obtain ⟨b1, e2⟩ : ∃ b1, bo = some b1 := by
    cases bo with
    | none => have := (HB.out.nil rfl).1; omega
    | some b1 => exact ⟨_, rfl⟩
   subst e1 e2
   have c0 : wr.cell? (a1.add i) = some (.int .u8 x) := (hq.cell _).trans (HA.out.cells a1 rfl i _ (by simp [hx]))
   have c1 : wr.cell? (b1.add i) = some (.int .u8 y) := (hq.cell _).trans (HB.out.cells b1 rfl i _ (by simp [hy]))
   have i0 : (0 : Int) ≤ (i : Int) := by omega
   have i1 : (i : Int) < (n : Int) := by omega
   have i2 : (i : Int) < (m : Int) := by omega
   have gx : za.getD i 0 = x := by simp [List.getD, hx]
   have gy : zb.getD i 0 = y := by simp [List.getD, hy]
   have HX := hid_intro gx
   have HY := hid_intro gy
   have HI := hid_intro (And.intro (show i < za.length by omega) (show i < zb.length by omega))
   clear hx hy gx gy la lb hq
   by_cases hxy : x = y
   ·have k1 : (x != y) = false := by rw [hxy]; simp
    have HXY := hid_intro hxy
    clear hxy
    go_wp2
    go_quiet (fail)
    go_wp2_with fail
    go_roundw
    case rel =>
     refine ⟨i + 1, by omega, by omega, by go_num, HQ.out.trans (Qt.drewN _ _), ?_⟩
     rw [HC.out]
     have h5 := HX.out
     have h6 := HY.out
     have h7 := HXY.out
     exact (cmp_on HI.out.1 HI.out.2 (by omega) (by omega)).symm
    case measure => simp [intOf]; omega
   ·have k1 : (x != y) = true := by simpa using hxy
    have HR : Hid (decide (cmpZ za zb < 0) = decide (x < y)) := by
     show _ = _
     have h5 := HX.out
     have h6 := HY.out
     rw [HC.out]
     by_cases hl : x < y
     ·rw [cmp_lt HI.out.1 HI.out.2 (by omega)]; simp [hl]
     ·rw [cmp_gt HI.out.1 HI.out.2 (by omega)]; simp [hl]
    clear hxy
    go_wp2
    go_quiet (fail)
    go_wp2
    generalize hw2 : wr.drewN _ = w2 at *
    have q2 : Qt wr w2 := by rw [← hw2]; exact Qt.drewN _ _
    have c2 := (q2.cell (a1.add i)).trans c0
    have c3 := (q2.cell (b1.add i)).trans c1
    have Q2 := hid_intro q2
    clear hw2 q2 c0 c1
    go_quiet (fail)
    go_wp2
    go_ret
    exact ⟨by rw [HR.out]; first | rfl | simp | (congr 2; simp), ((HQ.out.trans Q2.out).trans (Qt.drewN _ _)).grown none⟩
  ·have HR : Hid (decide (cmpZ za zb < 0) = decide ((n : Int) < (m : Int))) := by
    show _ = _
    have la := HLA.out
    have lb := HLB.out
    have h5 := cmp_end (a := za) (b := zb) (i := i) (by omega) (by omega) (by omega)
    rw [HC.out]
    rw [h5, la, lb]
    by_cases hl : n < m
    ·have h6 : (n : Int) < (m : Int) := by omega
     simp [hl, h6]
    ·have h6 : ¬ (n : Int) < (m : Int) := by omega
     rw [if_neg hl]
     by_cases hl2 : m < n <;> simp [hl2, h6]
   by_cases l1 : i < n
   ·have i1 : (i : Int) < (n : Int) := by omega
    have i2 : ¬ (i : Int) < (m : Int) := by omega
    go_wp2
    go_ret
    exact ⟨by rw [HR.out]; first | rfl | simp, HQ.out.grown none⟩
   ·have i1 : ¬ (i : Int) < (n : Int) := by omega
    go_wp2
    go_ret
    exact ⟨by rw [HR.out]; first | rfl | simp, HQ.out.grown none⟩
end Go.Proofs.YtndanifjommpdaaGreat
