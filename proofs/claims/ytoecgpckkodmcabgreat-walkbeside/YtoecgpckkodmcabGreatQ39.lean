import Derived.Test.YtoecgpckkodmcabGreatQ31
import Derived.Lib.ConvBytes
import Derived.Deep.QuietTactic
namespace Go.Proofs.YtoecgpckkodmcabGreat
open Go.RowKit
theorem bytesW_grown (w : World) (e : TypeId) (s : ByteArray) : w.grownBy (Lib.bytesWorld w e s) none :=
 ⟨rfl, rfl, rfl, by rw [Lib.bytesWorld_size]; omega, fun k hk _ => Lib.bytesWorld_at_old w e s k hk⟩
theorem bytesW_byt (w : World) (x : UInt8) (c : Nat) : Byt (Lib.bytesWorld w 5 ⟨#[x]⟩) (some ⟨w.heap.size, 0, none⟩) 1 c [(x.toNat : Int)] := by
 refine ⟨rfl, (fun e => by cases e), fun ad e j u hu => ?_⟩
 cases e
 match j, hu with
 | 0, hu =>
  have h := Lib.bytesWorld_cell w 5 ⟨#[x]⟩ 0 Nat.zero_lt_one
  rw [Addr.add_lit, h]
  simpa using hu
 | j + 1, hu => simp at hu
def SetP (w : World) (x y : UInt8) (en : Ending) (w' : World) : Prop := ∃ ao c bo d, en = .returned (.agg #[.slice ao 1 c, .slice bo 1 d, .bool false]) ∧ w.grownBy w' none ∧ Byt w' ao 1 c [(x.toNat : Int)] ∧ Byt w' bo 1 d [(y.toNat : Int)]
set_option maxHeartbeats 2000000 in
set_option maxRecDepth 100000 in
theorem set_any (x y : UInt8) (w : World) : Calls Tryz.prog 22 #[.string ⟨#[x]⟩, .string ⟨#[y]⟩] w fun en w' => SetP w x y en w' := by
 obtain ⟨w1, hw1⟩ : ∃ w1, w.alloc (.cells #[.slice none 0 0, .slice none 0 0, .bool false] 53) = w1 := ⟨_, rfl⟩
 have g1 : w.grownBy w1 none := by rw [← hw1]; exact World.grownBy_alloc w _ none
 have r1 : w1.heap[w.heap.size]? = some (.cells #[.slice none 0 0, .slice none 0 0, .bool false] 53 (0, 0)) := by rw [← hw1]; exact heap_at0 w _ _
 have hcv1 := Lib.run_convert_string_bytes (P := Tryz.prog) w1 9 23 5 ⟨#[x]⟩ (u := .string) Tryz.underlying9 Tryz.underlying23 Tryz.underlying5
 have g2 := bytesW_grown w1 5 ⟨#[x]⟩
 have b2 := bytesW_byt w1 x (grownCap w1 (⟨#[x]⟩ : ByteArray).size 0 5)
 generalize Lib.bytesWorld w1 5 ⟨#[x]⟩ = w2 at *
 have hcv2 := Lib.run_convert_string_bytes (P := Tryz.prog) w2 9 23 5 ⟨#[y]⟩ (u := .string) Tryz.underlying9 Tryz.underlying23 Tryz.underlying5
 have g3 := bytesW_grown w2 5 ⟨#[y]⟩
 have b3 := bytesW_byt w2 y (grownCap w2 (⟨#[y]⟩ : ByteArray).size 0 5)
 generalize Lib.bytesWorld w2 5 ⟨#[y]⟩ = w3 at *
 generalize grownCap w1 (⟨#[x]⟩ : ByteArray).size 0 5 = c1 at *
 generalize grownCap w2 (⟨#[y]⟩ : ByteArray).size 0 5 = c2 at *
 have e1 : (⟨#[x]⟩ : ByteArray).size = 1 := rfl
 have e2 : (⟨#[y]⟩ : ByteArray).size = 1 := rfl
 rw [e1] at hcv1
 rw [e2] at hcv2
 have r3 := heap_kept r1 (grown_trans g2 g3)
 have d0 := cell_heap (i := 0) r3 rfl
 have d1 := cell_heap (i := 1) r3 rfl
 have d2 := cell_heap (i := 2) r3 rfl
 have f0 := frozen_of_row w3 w.heap.size 0 _ _ r3
 have f1 := frozen_of_row w3 w.heap.size 1 _ _ r3
 have f2 := frozen_of_row w3 w.heap.size 2 _ _ r3
 obtain ⟨y1, y2⟩ := chg_put r3 (.slice (some ⟨w1.heap.size, 0, none⟩) 1 c1) (.slice (some ⟨w2.heap.size, 0, none⟩) 1 c2) (.bool false)
 have hz1 : w.heap.size < w1.heap.size := by rw [← hw1]; simp
 have hz2 := g2.size
 have HG := hid_intro (grown_new (grown_trans g1 (grown_trans g2 g3)) y2 (Nat.le_refl _))
 have kb : ∀ {W : World} {g n c : Nat} {zs : List Int}, w.heap.size ≠ g → Byt w3 (some ⟨g, 0, none⟩) n c zs → w3.grownBy W (some w.heap.size) → Byt W (some ⟨g, 0, none⟩) n c zs := fun hne hb hg => ⟨hb.len, (fun e => by cases e), fun ad e j u hu => by
  have := hb.cells ad e j u hu
  cases e
  exact hg.cell this (fun e => hne (by have := Option.some.inj e; rw [Addr.add_lit] at this; simpa using this.symm))⟩
 have B2 := hid_intro (kb (by omega) (b2.keptN g3) y2)
 have B3 := hid_intro (kb (by omega) b3 y2)
 have Y1 := hid_intro y1
 clear g1 g2 g3 b2 b3 r1 r3 y1 y2 hz1 hz2 e1 e2 kb
 go_enter Tryz.func22, Tryz.ntmps22
 go_wp2
 refine bodyPost_ret (ret_chg rfl _ _ w.heap.size _ _ _ rfl Y1.out) rfl ?_
 exact ⟨_, _, _, _, rfl, HG.out, B2.out, B3.out⟩
set_option maxHeartbeats 1000000 in
set_option maxRecDepth 100000 in
theorem num11 (n : Int) (w : World) : Calls Tryz.prog 14 #[.int .i64 n] w fun en w' => en = .returned (.int .i64 n) ∧ w' = w := by
 go_enter Tryz.func14, Tryz.ntmps14
 go_wp2
 go_ret
 exact ⟨rfl, rfl⟩
set_option maxHeartbeats 1000000 in
set_option maxRecDepth 100000 in
theorem short11 (a b : Option Addr) (n m c d : Nat) (w : World) : Calls Tryz.prog 17 #[.slice a n c, .slice b m d] w fun en w' => en = .returned (.bool (decide (n ≤ 1000) && decide (m ≤ 1000))) ∧ w' = w := by
 by_cases h1 : n ≤ 1000
 ·have k1 : (n : Int) ≤ 1000 := by omega
  by_cases h2 : m ≤ 1000
  ·have k2 : (m : Int) ≤ 1000 := by omega
   have HR : Hid ((decide (n ≤ 1000) && decide (m ≤ 1000)) = true) := by show _ = _; simp [h1, h2]
   rw [HR.out]
   clear h1 h2
   go_enter Tryz.func17, Tryz.ntmps17
   go_wp2
   go_ret
   exact ⟨rfl, rfl⟩
  ·have k2 : ¬ (m : Int) ≤ 1000 := by omega
   have HR : Hid ((decide (n ≤ 1000) && decide (m ≤ 1000)) = false) := by show _ = _; simp [h2]
   rw [HR.out]
   clear h1 h2
   go_enter Tryz.func17, Tryz.ntmps17
   go_wp2
   go_ret
   exact ⟨rfl, rfl⟩
 ·have k1 : ¬ (n : Int) ≤ 1000 := by omega
  have HR : Hid ((decide (n ≤ 1000) && decide (m ≤ 1000)) = false) := by show _ = _; simp [h1]
  rw [HR.out]
  clear h1
  go_enter Tryz.func17, Tryz.ntmps17
  go_wp2
  go_ret
  exact ⟨rfl, rfl⟩
end Go.Proofs.YtoecgpckkodmcabGreat
