import Derived.Test.YtedpeggdbedmiaaGreatDoorQ16
import Derived.Test.YtedpeggdbedmiaaGreatDoorQ17
namespace Go.Proofs.YtedpeggdbedmiaaGreatDoor
open Go.RowKit Go.MuLone
theorem key_i (i : Nat) (hi : i < 1048576) : keyOf Tryz.prog 3 (.int .i64 i) = some (.int .i64 i) := Go.Maps.keyOf_int_mk Tryz.underlying3 (Go.WalkArith.wf_i64 (by omega))
theorem kyd : Go.Maps.Keyed Tryz.prog 3 := Go.Maps.int_keyed Tryz.underlying3
theorem wpList_look_some {w : World} {ops : Array Oper} {rest : List Oper} {o : Oper} {a : Act} {Q : Exit → Act → World → Prop} (hg : o.guard = none) (m x : Operand) (hop : o.op = Op.lookup 67 m x true)
  (b n : Nat) (f : Nat → Option Nat) (hm : a.eval m = .map (some b)) (hp : Mp w b n f) (i h : Nat) (hx : a.eval x = .int .i64 i) (hi : i < 1048576) (hf : f i = some h)
  (hK : wpList Tryz.prog ops Q rest (a.put o.dst (.tuple #[pv h, .bool true])) w) : wpList Tryz.prog ops Q (o :: rest) a w := by
 obtain ⟨D, h1, h2⟩ := hp
 obtain ⟨k1, k2⟩ := h2 i hi
 refine wpList_lookup_own_ok w hg m x 67 hop 3 47 kyd Tryz.underlying67 Rv (Tryz.zeroValue47 w) (.held (.slice none 0 0)) [] rfl b n D hm h1 _ _ hx (key_i i hi) ?_
 intro v ps hv
 rw [k2 h hf] at hv
 simp only [Rv, Option.some.injEq, Prod.mk.injEq, DataW.held.injEq] at hv
 rw [hv.1, k1, hf]
 exact hK
theorem wpList_look_none {w : World} {ops : Array Oper} {rest : List Oper} {o : Oper} {a : Act} {Q : Exit → Act → World → Prop} (hg : o.guard = none) (m x : Operand) (hop : o.op = Op.lookup 67 m x true)
  (b n : Nat) (f : Nat → Option Nat) (hm : a.eval m = .map (some b)) (hp : Mp w b n f) (i : Nat) (hx : a.eval x = .int .i64 i) (hi : i < 1048576) (hf : f i = none)
  (hK : wpList Tryz.prog ops Q rest (a.put o.dst (.tuple #[.slice none 0 0, .bool false])) w) : wpList Tryz.prog ops Q (o :: rest) a w := by
 obtain ⟨D, h1, h2⟩ := hp
 obtain ⟨k1, k2⟩ := h2 i hi
 refine wpList_lookup_own_ok w hg m x 67 hop 3 47 kyd Tryz.underlying67 Rv (Tryz.zeroValue47 w) (.held (.slice none 0 0)) [] rfl b n D hm h1 _ _ hx (key_i i hi) ?_
 intro v ps hv
 rw [hf] at k1
 rw [Go.Maps.atKey_of_not_has k1] at hv
 simp only [Rv, Option.some.injEq, Prod.mk.injEq, DataW.held.injEq] at hv
 rw [hv.1, k1]
 exact hK
def dat (l : List (Nat × Nat × List Int)) (i : Nat) : Option (Nat × Nat × List Int) := l.reverse.find? fun p => p.1 == i
theorem nw_dat (l : List (Nat × Nat × List Int)) (i : Nat) : nw l i = (dat l i).map fun p => p.2.1 := rfl
theorem dat_mem {l : List (Nat × Nat × List Int)} {i : Nat} {p : Nat × Nat × List Int} (h : dat l i = some p) : p ∈ l ∧ p.1 = i := by
 refine ⟨List.mem_reverse.1 (List.mem_of_find?_eq_some h), ?_⟩
 have := List.find?_some h
 simpa using this
theorem dat_none {l : List (Nat × Nat × List Int)} {i : Nat} (h : dat l i = none) : ∀ p ∈ l, p.1 ≠ i := by
 intro p hp e
 have := List.find?_eq_none.1 h p (List.mem_reverse.2 hp)
 simp [e] at this
set_option maxHeartbeats 800000 in
theorem read_no {w : World} {B : Nat} {d : Dd} (hb : Bx w B 0 d) (i : Int) (h : i < 0 ∨ d.pg ≤ i) : Calls Tryz.prog 9 #[.pointer (some ⟨B, 0, none⟩), .int .i64 i] w fun e w' => e = .returned (.tuple #[.slice none 0 0, .int .i64 121]) ∧ Bx w' B 0 d ∧ w.grownBy w' (some B) := by
 by_cases h1 : i < 0
 ·go_enter_defers Tryz.func9, Tryz.ntmps9
  go_wp2_with fail
  refine (lock_b hb).mono ?_
  rintro e w1 ⟨rfl, hb1, hg1⟩
  go_wp2_with fail
  refine leaves_cons (f := 22) (args := #[.pointer (some ⟨B, 0, none⟩)]) (by simp) (by simp [go_sem]) ?_
  refine (unlock_b .returning hb1).mono ?_
  rintro e u' w2 ⟨rfl, rfl, hb2, hg2⟩
  exact ⟨_, results_tmp2 rfl _ _ _, rfl, hb2, grown_trans hg1 hg2⟩
 ·have h2 : (d.pg : Int) ≤ i := by omega
  go_enter_defers Tryz.func9, Tryz.ntmps9
  go_wp2_with fail
  refine (lock_b hb).mono ?_
  rintro e w1 ⟨rfl, hb1, hg1⟩
  have c6 := hb1.c6
  go_wp2_with fail
  refine leaves_cons (f := 22) (args := #[.pointer (some ⟨B, 0, none⟩)]) (by simp) (by simp [go_sem]) ?_
  refine (unlock_b .returning hb1).mono ?_
  rintro e u' w2 ⟨rfl, rfl, hb2, hg2⟩
  exact ⟨_, results_tmp2 rfl _ _ _, rfl, hb2, grown_trans hg1 hg2⟩
theorem Dk.read {w w' : World} {B : Nat} {F : Nat → Prop} {d : Dd} (h : Dk w B F d) (hb : Bx w' B 0 { d with reads := d.reads + 1 }) (hg : w.grownBy w' (some B)) : Dk w' B F { d with reads := d.reads + 1 } := by
 have hm := h.dm.box h.bx hg
 exact ⟨hb, hm.scal rfl rfl rfl rfl rfl (Nat.le_refl _), h.fb, h.pg, h.cap, h.le, h.gap⟩
set_option maxHeartbeats 1600000 in
theorem read_pend {w : World} {B : Nat} {F : Nat → Prop} {d : Dd} (hk : Dk w B F d) (i : Nat) (h : i < d.pg) (ho : d.off = false) (hr : d.reads < 4611686018427387904) (p : Nat × Nat × List Int) (hp : dat d.pl i = some p) :
  Calls Tryz.prog 9 #[.pointer (some ⟨B, 0, none⟩), .int .i64 i] w fun e w' => ∃ g, e = .returned (.tuple #[.slice (some ⟨g, 0, none⟩) 4096 4096, .int .i64 0]) ∧ Rw w' g p.2.2 ∧ w.heap.size ≤ g ∧ Bx w' B 0 { d with reads := d.reads + 1 } ∧ w.grownBy w' (some B) := by
 have hb := hk.bx
 have hi : i < 1048576 := by have := hk.le; have := hk.cap; omega
 have h1 : ¬ ((i : Int) < 0) := by omega
 have h2 : ¬ ((d.pg : Int) ≤ i) := by omega
 obtain ⟨hpm, hpi⟩ := dat_mem hp
 have hf : nw d.pl i = some p.2.1 := by rw [nw_dat, hp]; rfl
 have HK := hid_intro hk
 clear hk
 go_enter_defers Tryz.func9, Tryz.ntmps9
 go_wp2_with fail
 refine (lock_b hb).mono ?_
 rintro e w1 ⟨rfl, hb1, hg1⟩
 have c6 := hb1.c6
 have c8 := hb1.c8
 have c5 := hb1.c5
 have c10 := hb1.c10
 have f10 := hb1.fz 10
 rw [ho] at c8
 have hb2 := hb1.set 10 (.int .i64 ((d.reads : Int) + 1)) 1 { d with reads := d.reads + 1 } rfl
 have hg2 := grown_trans hg1 (grown_cell w1 B 10 (.int .i64 ((d.reads : Int) + 1)))
 have hm2 := HK.out.dm.box HK.out.bx hg2
 obtain ⟨n, hn, hmp⟩ := hm2.mp
 have MP := hid_intro hmp
 have PB := hid_intro (hm2.pp p hpm).1
 clear hm2 hmp
 go_wp2_with (at_lookup; refine wpList_look_some rfl _ _ rfl d.m n _ rfl MP.out i p.2.1 rfl hi hf ?_; rw [pv_eq])
 refine (twin_any _ 4096 4096 p.2.2 _ PB.out.byt (by omega)).mono ?_
 rintro e w3 ⟨rfl, hr3, hg3⟩
 have hb3 := hb2.kept hg3 (by simp)
 have hs2 := hg2.size
 have hsz : (w1.setCell ⟨B, 10, none⟩ (.int .i64 ((d.reads : Int) + 1))).heap.size = w1.heap.size := by simp
 rw [hsz] at hr3 hs2
 clear hb2
 go_wp2_with fail
 refine leaves_cons (f := 22) (args := #[.pointer (some ⟨B, 0, none⟩)]) (by simp) (by simp [go_sem]) ?_
 refine (unlock_b .returning hb3).mono ?_
 rintro e u' w4 ⟨rfl, rfl, hb4, hg4⟩
 refine ⟨_, results_tmp2 rfl _ _ _, _, rfl, hr3.kept hg4 ?_, hs2, hb4, grown_trans (grown_trans hg2 (grown_any hg3)) hg4⟩
 intro e
 have := Option.some.inj e
 have := HK.out.dm.low B HK.out.fb
 omega
set_option maxHeartbeats 1600000 in
theorem read_last {w : World} {B : Nat} {F : Nat → Prop} {d : Dd} (hk : Dk w B F d) (i : Nat) (h : i < d.pg) (ho : d.off = false) (hr : d.reads < 4611686018427387904) (hp : dat d.pl i = none) :
  Calls Tryz.prog 9 #[.pointer (some ⟨B, 0, none⟩), .int .i64 i] w fun e w' => ∃ g x, d.bl[i]? = some x ∧ e = .returned (.tuple #[.slice (some ⟨g, 0, none⟩) 4096 4096, .int .i64 0]) ∧ Rw w' g x.2 ∧ w.heap.size ≤ g ∧ Bx w' B 0 { d with reads := d.reads + 1 } ∧ w.grownBy w' (some B) := by
 have hb := hk.bx
 have hi : i < 1048576 := by have := hk.le; have := hk.cap; omega
 have h1 : ¬ ((i : Int) < 0) := by omega
 have h2 : ¬ ((d.pg : Int) ≤ i) := by omega
 have hf : nw d.pl i = none := by rw [nw_dat, hp]; rfl
 have hl : i < d.bl.length := by
  apply Decidable.byContradiction
  intro hc
  obtain ⟨p, h3, h4⟩ := hk.gap i (by omega) h
  exact dat_none hp p h3 h4
 have hx : d.bl[i]? = some d.bl[i] := List.getElem?_eq_getElem hl
 have hxm : d.bl[i] ∈ d.bl := List.getElem_mem hl
 revert hx hxm
 generalize d.bl[i] = x
 intro hx hxm
 obtain ⟨g0, cap0, cur0, hv, _, hg0, hcap, _⟩ := hk.dm.lr.2.resolve_left (fun e => by omega)
 have HK := hid_intro hk
 clear hk
 go_enter_defers Tryz.func9, Tryz.ntmps9
 go_wp2_with fail
 refine (lock_b hb).mono ?_
 rintro e w1 ⟨rfl, hb1, hg1⟩
 have c6 := hb1.c6
 have c8 := hb1.c8
 have c5 := hb1.c5
 have c3 := hb1.c3
 rw [hv] at c3
 have c10 := hb1.c10
 have f10 := hb1.fz 10
 rw [ho] at c8
 have hb2 := hb1.set 10 (.int .i64 ((d.reads : Int) + 1)) 1 { d with reads := d.reads + 1 } rfl
 have hg2 := grown_trans hg1 (grown_cell w1 B 10 (.int .i64 ((d.reads : Int) + 1)))
 have hm2 := HK.out.dm.box HK.out.bx hg2
 obtain ⟨n, hn, hmp⟩ := hm2.mp
 have MP := hid_intro hmp
 have PB := hid_intro (hm2.bp x hxm)
 have cx : (w1.setCell ⟨B, 10, none⟩ (.int .i64 ((d.reads : Int) + 1))).cell? ⟨g0, i, none⟩ = some (.slice (some ⟨x.1, 0, none⟩) 4096 4096) := by
  have := hm2.lr
  rw [hv] at this
  rw [this.cellAt i (by omega), List.getElem?_map, hx]
  rfl
 clear hm2 hmp
 have hl' : (i : Int) < (d.bl.length : Int) := by omega
 go_wp2_with (at_lookup; refine wpList_look_none rfl _ _ rfl d.m n _ rfl MP.out i rfl hi hf ?_)
 refine (twin_any _ 4096 4096 x.2 _ PB.out.byt (by omega)).mono ?_
 rintro e w3 ⟨rfl, hr3, hg3⟩
 have hb3 := hb2.kept hg3 (by simp)
 have hs2 := hg2.size
 have hsz : (w1.setCell ⟨B, 10, none⟩ (.int .i64 ((d.reads : Int) + 1))).heap.size = w1.heap.size := by simp
 rw [hsz] at hr3 hs2
 clear hb2
 go_wp2_with fail
 refine leaves_cons (f := 22) (args := #[.pointer (some ⟨B, 0, none⟩)]) (by simp) (by simp [go_sem]) ?_
 refine (unlock_b .returning hb3).mono ?_
 rintro e u' w4 ⟨rfl, rfl, hb4, hg4⟩
 refine ⟨_, results_tmp2 rfl _ _ _, _, x, hx, rfl, hr3.kept hg4 ?_, hs2, hb4, grown_trans (grown_trans hg2 (grown_any hg3)) hg4⟩
 intro e
 have := Option.some.inj e
 have := HK.out.dm.low B HK.out.fb
 omega
end Go.Proofs.YtedpeggdbedmiaaGreatDoor
