import Derived.Test.YtedpeggdbedmiaaGreatDoorQ10
import Derived.Carry
namespace Go.Proofs.YtedpeggdbedmiaaGreatDoor
open Go.RowKit Go.MuLone
theorem lock_b {w : World} {B : Nat} {d : Dd} (hb : Bx w B 0 d) : Calls Tryz.prog 21 #[.pointer (some ⟨B, 0, none⟩)] w fun e w' => e = .returned (.tuple #[]) ∧ Bx w' B 1 d ∧ w.grownBy w' (some B) := by
 refine (lock_free muB ⟨B, 0, none⟩ w hb.c0 (hb.fz 0)).mono ?_
 rintro e w' ⟨rfl, rfl⟩
 exact ⟨rfl, hb.set 0 _ 1 d rfl, grown_cell _ _ _ _⟩
theorem unlock_b {w : World} {B : Nat} {d : Dd} (u : FrameMode) (hb : Bx w B 1 d) : CallsD Tryz.prog 22 #[.pointer (some ⟨B, 0, none⟩)] u w fun e u' w' => u' = u ∧ (e = .returned (.tuple #[]) ∧ Bx w' B 0 d ∧ w.grownBy w' (some B)) := by
 refine (unlock_deferred muB ⟨B, 0, none⟩ u w hb.c0 (hb.fz 0)).mono ?_
 rintro e u' w' ⟨rfl, rfl, rfl⟩
 exact ⟨rfl, rfl, hb.set 0 _ 0 d rfl, grown_cell _ _ _ _⟩
def pgs (n : Nat) (l : List (Nat × Nat × List Int)) : Nat := l.foldl (fun n p => max n (p.1 + 1)) n
structure Dk (w : World) (B : Nat) (F : Nat → Prop) (d : Dd) : Prop where
 bx : Bx w B 0 d
 dm : Dm w F d
 fb : F B
 pg : d.pg = pgs d.bl.length d.pl
 cap : d.cap < 524288
 le : d.pg ≤ d.cap
 gap : ∀ i, d.bl.length ≤ i → i < d.pg → ∃ p ∈ d.pl, p.1 = i
theorem Dk.box {w w' : World} {B : Nat} {F : Nat → Prop} {d : Dd} (h : Dk w B F d) (hb : Bx w' B 0 d) (hg : w.grownBy w' (some B)) : Dk w' B F d := ⟨hb, h.dm.box h.bx hg, h.fb, h.pg, h.cap, h.le, h.gap⟩
theorem Dk.same {w w' : World} {B : Nat} {F : Nat → Prop} {d : Dd} (h : Dk w B F d) (hs : w.heap.size ≤ w'.heap.size) (e : ∀ k, F k → w'.heap[k]? = w.heap[k]?) : Dk w' B F d :=
 ⟨h.bx.same (e B h.fb), h.dm.same hs fun k hk => e k (h.dm.mine hk), h.fb, h.pg, h.cap, h.le, h.gap⟩
theorem Dk.keptN {w w' : World} {B : Nat} {F : Nat → Prop} {d : Dd} (h : Dk w B F d) (hg : w.grownBy w' none) : Dk w' B F d := h.same hg.size fun k hk => hg.block k (h.dm.low k hk) (by simp)
theorem Dk.kept {w w' : World} {B : Nat} {F : Nat → Prop} {d : Dd} {row : Option Nat} (h : Dk w B F d) (hg : w.grownBy w' row) (hn : ∀ k, row = some k → ¬ F k) : Dk w' B F d := h.same hg.size fun k hk => hg.block k (h.dm.low k hk) (fun e => hn k e.symm hk)
theorem Dk.kp {w w' : World} {B : Nat} {F G : Nat → Prop} {d : Dd} (h : Dk w B F d) (hg : Kp w w' G) (hn : ∀ k, F k → ¬ G k) : Dk w' B F d := h.same hg.size fun k hk => hg.block k (h.dm.low k hk) (hn k hk)
set_option maxHeartbeats 800000 in
theorem pages_b {w : World} {B : Nat} {d : Dd} (hb : Bx w B 0 d) : Calls Tryz.prog 20 #[.pointer (some ⟨B, 0, none⟩)] w fun e w' => e = .returned (.int .i64 d.pg) ∧ Bx w' B 0 d ∧ w.grownBy w' (some B) := by
 go_enter_defers Tryz.func20, Tryz.ntmps20
 go_wp2_with fail
 refine (lock_b hb).mono ?_
 rintro e w1 ⟨rfl, hb1, hg1⟩
 have c1 := hb1.c6
 go_wp2_with fail
 refine leaves_cons (f := 22) (args := #[.pointer (some ⟨B, 0, none⟩)]) (by simp) (by simp [go_sem]) ?_
 refine (unlock_b .returning hb1).mono ?_
 rintro e u' w2 ⟨rfl, rfl, hb2, hg2⟩
 exact ⟨_, results_tmp rfl _ _ _, rfl, hb2, grown_trans hg1 hg2⟩
def Dd.ans (d : Dd) : Int := if d.left = 1 then 123 else 0
def Dd.spend (d : Dd) : Dd := { d with done := d.done + 1, left := d.left - 1, off := d.left == 1 }
set_option maxHeartbeats 800000 in
theorem spend_b {w : World} {B : Nat} {d : Dd} (hb : Bx w B 1 d) (ho : d.off = false) (hd : d.done < 4611686018427387904) (hl : d.left < 9223372036854775808) : Calls Tryz.prog 25 #[.pointer (some ⟨B, 0, none⟩)] w fun e w' => e = .returned (.int .i64 d.ans) ∧ Bx w' B 1 d.spend ∧ w.grownBy w' (some B) := by
 have c7 := hb.c7
 have c9 := hb.c9
 have c8 := hb.c8
 have f7 := hb.fz 7
 have f8 := hb.fz 8
 have f9 := hb.fz 9
 unfold Dd.ans
 have s1 := hb.set 9 (.int .i64 ((d.done : Int) + 1)) 1 { d with done := d.done + 1 } rfl
 by_cases h0 : d.left = 0
 ·have e2 : d.spend = { d with done := d.done + 1 } := by unfold Dd.spend; rw [h0, ho]; congr
  rw [e2, if_neg (by omega)]
  have c7' : w.cell? ⟨B, 7, none⟩ = some (.int .i64 0) := by rw [c7, h0]; rfl
  clear c7
  go_enter Tryz.func25, Tryz.ntmps25
  go_wp2
  go_ret
  exact ⟨rfl, s1, grown_cell _ _ _ _⟩
 ·have s2 := s1.set 7 (.int .i64 ((d.left : Int) - 1)) 1 { d with done := d.done + 1, left := d.left - 1 } (by rw [show ((d.left : Int) - 1) = ((d.left - 1 : Nat) : Int) by omega]; rfl)
  have n0 : ¬ ((d.left : Int) = 0) := by omega
  by_cases h1 : d.left = 1
  ·have e2 : d.spend = { d with done := d.done + 1, left := 0, off := true } := by simp [Dd.spend, h1]
   rw [e2, if_pos h1]
   have s3 := (s1.set 7 (.int .i64 0) 1 { d with done := d.done + 1, left := 0 } rfl).set 8 (.bool true) 1 { d with done := d.done + 1, left := 0, off := true } rfl
   have e4 : ¬ (0 < ((d.left : Int) - 1)) := by omega
   go_enter Tryz.func25, Tryz.ntmps25
   go_wp2
   go_ret
   exact ⟨rfl, s3, grown_trans (grown_trans (grown_cell _ _ _ _) (grown_cell _ _ _ _)) (grown_cell _ _ _ _)⟩
  ·have e2 : d.spend = { d with done := d.done + 1, left := d.left - 1 } := by unfold Dd.spend; rw [ho]; congr; simpa using h1
   rw [e2, if_neg h1]
   have e4 : 0 < ((d.left : Int) - 1) := by omega
   go_enter Tryz.func25, Tryz.ntmps25
   go_wp2
   go_ret
   exact ⟨rfl, s2, grown_trans (grown_cell _ _ _ _) (grown_cell _ _ _ _)⟩
def Dd.refuse (d : Dd) (i : Int) (n : Nat) : Int := if i < 0 ∨ d.pg < i then 121 else if d.cap ≤ i then 125 else if n ≠ 4096 then 122 else if d.off = true then 123 else 0
set_option maxHeartbeats 800000 in
theorem refusal_b {w : World} {B : Nat} {d : Dd} {s : Int} (hb : Bx w B s d) (i : Int) (ao : Option Addr) (n c : Nat) : Calls Tryz.prog 23 #[.pointer (some ⟨B, 0, none⟩), .int .i64 i, .slice ao n c] w fun e w' => e = .returned (.int .i64 (d.refuse i n)) ∧ w' = w := by
 have c2 := hb.c2
 have c6 := hb.c6
 have c8 := hb.c8
 unfold Dd.refuse
 by_cases h1 : i < 0
 ·rw [if_pos (.inl h1)]
  go_enter Tryz.func23, Tryz.ntmps23
  go_wp2
  go_ret
  exact ⟨rfl, rfl⟩
 by_cases h2 : (d.pg : Int) < i
 ·rw [if_pos (.inr h2)]
  go_enter Tryz.func23, Tryz.ntmps23
  go_wp2
  go_ret
  exact ⟨rfl, rfl⟩
 rw [if_neg (by omega)]
 by_cases h3 : (d.cap : Int) ≤ i
 ·rw [if_pos h3]
  go_enter Tryz.func23, Tryz.ntmps23
  go_wp2
  go_ret
  exact ⟨rfl, rfl⟩
 rw [if_neg h3]
 by_cases h4 : n = 4096
 ·subst h4
  rw [if_neg (by simp)]
  cases ho : d.off with
  | true =>
   rw [ho] at c8
   rw [if_pos rfl]
   go_enter Tryz.func23, Tryz.ntmps23
   go_wp2
   go_ret
   exact ⟨rfl, rfl⟩
  | false =>
   rw [ho] at c8
   rw [if_neg (by simp)]
   go_enter Tryz.func23, Tryz.ntmps23
   go_wp2
   go_ret
   exact ⟨rfl, rfl⟩
 ·rw [if_pos h4]
  have h4' : ¬ ((n : Int) = 4096) := by omega
  go_enter Tryz.func23, Tryz.ntmps23
  go_wp2
  go_ret
  exact ⟨rfl, rfl⟩
def Dd.arm (d : Dd) (k : Int) : Int := if k < 0 then 124 else if d.off = true then 123 else 0
def Dd.armed (d : Dd) (k : Int) : Dd := if k < 0 then d else if d.off = true then d else { d with left := k.toNat }
set_option maxHeartbeats 800000 in
theorem arm_b {w : World} {B : Nat} {d : Dd} (hb : Bx w B 0 d) (k : Int) : Calls Tryz.prog 17 #[.pointer (some ⟨B, 0, none⟩), .int .i64 k] w fun e w' => e = .returned (.int .i64 (d.arm k)) ∧ Bx w' B 0 (d.armed k) ∧ w.grownBy w' (some B) := by
 unfold Dd.arm Dd.armed
 by_cases h1 : k < 0
 ·rw [if_pos h1, if_pos h1]
  go_enter_defers Tryz.func17, Tryz.ntmps17
  go_wp2_with fail
  refine (lock_b hb).mono ?_
  rintro e w1 ⟨rfl, hb1, hg1⟩
  go_wp2_with fail
  refine leaves_cons (f := 22) (args := #[.pointer (some ⟨B, 0, none⟩)]) (by simp) (by simp [go_sem]) ?_
  refine (unlock_b .returning hb1).mono ?_
  rintro e u' w2 ⟨rfl, rfl, hb2, hg2⟩
  exact ⟨_, results_tmp rfl _ _ _, rfl, hb2, grown_trans hg1 hg2⟩
 rw [if_neg h1, if_neg h1]
 cases ho : d.off with
 | true =>
  rw [if_pos rfl, if_pos rfl]
  go_enter_defers Tryz.func17, Tryz.ntmps17
  go_wp2_with fail
  refine (lock_b hb).mono ?_
  rintro e w1 ⟨rfl, hb1, hg1⟩
  have c8 := hb1.c8
  rw [ho] at c8
  go_wp2_with fail
  refine leaves_cons (f := 22) (args := #[.pointer (some ⟨B, 0, none⟩)]) (by simp) (by simp [go_sem]) ?_
  refine (unlock_b .returning hb1).mono ?_
  rintro e u' w2 ⟨rfl, rfl, hb2, hg2⟩
  exact ⟨_, results_tmp rfl _ _ _, rfl, hb2, grown_trans hg1 hg2⟩
 | false =>
  rw [if_neg (by simp), if_neg (by simp)]
  go_enter_defers Tryz.func17, Tryz.ntmps17
  go_wp2_with fail
  refine (lock_b hb).mono ?_
  rintro e w1 ⟨rfl, hb1, hg1⟩
  have c8 := hb1.c8
  have c7 := hb1.c7
  have f7 := hb1.fz 7
  rw [ho] at c8
  go_wp2_with fail
  refine leaves_cons (f := 22) (args := #[.pointer (some ⟨B, 0, none⟩)]) (by simp) (by simp [go_sem]) ?_
  refine (unlock_b .returning (hb1.set 7 (.int .i64 k) 1 { d with left := k.toNat } (by rw [show dcell 1 { d with left := k.toNat } = (dcell 1 d).setIfInBounds 7 (.int .i64 (k.toNat : Int)) from rfl, Int.toNat_of_nonneg (by omega)]))).mono ?_
  rintro e u' w2 ⟨rfl, rfl, hb2, hg2⟩
  exact ⟨_, results_tmp rfl _ _ _, rfl, ho ▸ hb2, grown_trans hg1 (grown_trans (grown_cell _ _ _ _) hg2)⟩
def Dd.new (c m : Nat) : Dd := ⟨c, 0, 0, false, 0, 0, .slice none 0 0, .slice none 0 0, m, [], []⟩
theorem new_dk (c : Nat) (w : World) (h2 : c < 524288) : Dk ((w.alloc (.map #[] 0)).alloc (.cells (dcell 0 (Dd.new c w.heap.size)) 76)) (w.heap.size + 1) (fun k => w.heap.size ≤ k ∧ k < ((w.alloc (.map #[] 0)).alloc (.cells (dcell 0 (Dd.new c w.heap.size)) 76)).heap.size) (Dd.new c w.heap.size) := by
 have hs : (w.alloc (.map #[] 0)).heap.size = w.heap.size + 1 := by simp
 have hb := heap_alloc_new (w.alloc (.map #[] 0)) (.cells (dcell 0 (Dd.new c w.heap.size)) 76)
 rw [hs] at hb
 refine ⟨hb, ⟨World.ownsRow_nil _ _ _ _, fun g hg => (by cases hg), World.ownsRow_nil _ _ _ _, fun g hg => (by cases hg), fun x hx => (by cases hx), fun x hx => (by cases hx), List.nodup_nil, ⟨0, Nat.le_refl _, .map [], ?_, fun i _ => ⟨rfl, fun h hh => by cases hh⟩⟩, Nat.le_refl _, ⟨Nat.le_refl _, by simp [Dd.new]; omega⟩, fun k hk => hk.2⟩, ⟨by simp, by simp⟩, rfl, h2, Nat.zero_le _, fun i _ hi => by simp [Dd.new] at hi⟩
 exact (World.ownsMap_made w Tryz.prog 3 Rv).alloc _
set_option maxHeartbeats 800000 in
theorem new_b (c : Nat) (w : World) (h : 2 ≤ c) (h2 : c < 524288) : Calls Tryz.prog 5 #[.int .i64 c] w fun e w' =>
  ∃ B, e = .returned (.pointer (some ⟨B, 0, none⟩)) ∧ w.grownBy w' none ∧ Dk w' B (fun k => w.heap.size ≤ k ∧ k < w'.heap.size) (Dd.new c w.heap.size) := by
 have e1 : ¬ ((c : Int) < 2) := by omega
 have e2 : ¬ (524287 < (c : Int)) := by omega
 have hmm := @run_makeMap Tryz.prog
 have hd := new_dk c w h2
 go_enter Tryz.func5, Tryz.ntmps5
 go_wp2
 go_ret
 exact ⟨_, rfl, grown_trans (World.grownBy_alloc _ _ _) (World.grownBy_alloc _ _ _), hd⟩
end Go.Proofs.YtedpeggdbedmiaaGreatDoor
