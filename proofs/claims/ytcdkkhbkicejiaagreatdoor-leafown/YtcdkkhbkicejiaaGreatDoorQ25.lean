import Derived.Test.YtcdkkhbkicejiaaGreatDoorQ24
import Derived.Test.YtcdkkhbkicejiaaGreatDoorQ23
import Derived.Test.YtcdkkhbkicejiaaGreatDoorQ19
import Derived.Test.YtcdkkhbkicejiaaGreatDoorQ16
import Derived.Deep.RegionHeld3
import Derived.Deep.DrawnRows
import Derived.Deep.CutBlock
namespace Go.Proofs.YtcdkkhbkicejiaaGreatDoor
open Go.RowKit
theorem own_keptN {w w' : World} {base sz : Nat} {e : TypeId} {v : Value} {n : Nat} {xs : List Value} (h : w.ownsRow base e sz v n xs) (hg : w.grownBy w' none) : w'.ownsRow base e sz v n xs :=
 h.kept hg (by cases v.ownBlock with | none => exact .inl rfl | some g => exact .inr (by simp))
theorem Ow.u8 {w : World} {g cap : Nat} {zs : List Int} (h : Ow w g cap zs) : U8 w g := by
 obtain ⟨cur, h1, _⟩ := h.ex
 exact ⟨cur, h1⟩
theorem grown_app5 {w wr w' : World} {o : Obj} {base n : Nat} {v : Value} {xs : List Value} {t : TypeId} {sz : Nat} (hg : w.grownBy wr none) (ho : wr.ownsRow base t sz v n xs) (hb : w.heap.size ≤ base) (h : (wr.alloc o).grownBy w' v.ownBlock) : w.grownBy w' none := by
 refine ⟨h.os.trans hg.os, h.tape.trans hg.tape, h.output.trans hg.output, ?_, fun q hq _ => ?_⟩
 ·have := h.size; have := hg.size; simp at *; omega
 ·have hq2 : q < wr.heap.size := Nat.lt_of_lt_of_le hq hg.size
  rw [h.block q (by simp; omega) (by intro e; have := (ho.lt q e.symm).1; omega), Below.heap_alloc wr _ q hq2]
  exact hg.block q hq (by simp)
theorem own_slice {w : World} {base n : Nat} {t : TypeId} {sz : Nat} {v : Value} {xs : List Value} (h : w.ownsRow base t sz v n xs) (hn : 0 < n) : ∃ A c, v = .slice (some ⟨A, 0, none⟩) n c ∧ n ≤ c ∧ c ≤ 9223372036854775807 := by
 rcases h.2 with ⟨_, rfl⟩ | ⟨g, cap, cur, rfl, _, _, hc, hm, _⟩
 ·omega
 ·exact ⟨g, cap, rfl, hc, by unfold maxLen at hm; omega⟩
theorem itake {L : List It} {i : Nat} (hi : i < L.length) : L.take (i + 1) = L.take i ++ [L.getD i it0] := by
 rw [List.take_add_one, List.getElem?_eq_getElem hi]
 simp [List.getD, List.getElem?_eq_getElem hi]
structure Lm (w : World) (base : Nat) (mk mv : List Int) (gk gv : Nat → Nat × Nat) (xs : List Value) (L : List It) : Prop where
 len : xs.length = L.length * 4
 el : ∀ j, j < L.length → xs[j * 4]? = some (.slice (some ⟨(gk j).1, 0, none⟩) (L.getD j it0).key.length (gk j).2) ∧ xs[j * 4 + 1]? = some (.slice (some ⟨(gv j).1, 0, none⟩) (L.getD j it0).val.length (gv j).2) ∧ xs[j * 4 + 2]? = some (.int .i64 (L.getD j it0).size) ∧ xs[j * 4 + 3]? = some (.int .i64 (L.getD j it0).first)
 ko : ∀ j, j < L.length → Ow w (gk j).1 (gk j).2 ((L.getD j it0).key ++ mk) ∧ Ow w (gv j).1 (gv j).2 ((L.getD j it0).val ++ mv)
 lo : ∀ j, j < L.length → base ≤ (gk j).1 ∧ base ≤ (gv j).1 ∧ (gk j).1 ≠ (gv j).1
 up : ∀ i j, i < j → j < L.length → (gk i).1 < (gk j).1 ∧ (gk i).1 < (gv j).1 ∧ (gv i).1 < (gk j).1 ∧ (gv i).1 < (gv j).1
theorem Lm.nil (w : World) (base : Nat) (mk mv : List Int) (gk gv : Nat → Nat × Nat) : Lm w base mk mv gk gv [] [] :=
 ⟨rfl, fun j hj => by simp at hj, fun j hj => by simp at hj, fun j hj => by simp at hj, fun i j _ hj => by simp at hj⟩
theorem Lm.kept {w w' : World} {base : Nat} {mk mv : List Int} {gk gv : Nat → Nat × Nat} {xs : List Value} {L : List It} {row : Option Nat} (h : Lm w base mk mv gk gv xs L) (hg : w.grownBy w' row) (hne : ∀ g, base ≤ g → U8 w g → some g ≠ row) : Lm w' base mk mv gk gv xs L :=
 ⟨h.len, h.el, fun j hj => ⟨(h.ko j hj).1.kept hg (hne _ (h.lo j hj).1 (h.ko j hj).1.u8), (h.ko j hj).2.kept hg (hne _ (h.lo j hj).2.1 (h.ko j hj).2.u8)⟩, h.lo, h.up⟩
theorem Lm.keptN {w w' : World} {base : Nat} {mk mv : List Int} {gk gv : Nat → Nat × Nat} {xs : List Value} {L : List It} (h : Lm w base mk mv gk gv xs L) (hg : w.grownBy w' none) : Lm w' base mk mv gk gv xs L := h.kept hg (fun _ _ _ => by simp)
theorem Lm.snoc {w : World} {base : Nat} {mk mv : List Int} {gk gv : Nat → Nat × Nat} {xs : List Value} {L : List It} (h : Lm w base mk mv gk gv xs L) {g1 c1 g2 c2 n m : Nat} {x : It} {s f : Int} (h1 : Ow w g1 c1 (x.key ++ mk)) (h2 : Ow w g2 c2 (x.val ++ mv)) (hn : x.key.length = n) (hm : x.val.length = m) (hs : x.size = s) (hf : x.first = f)
  (b1 : base ≤ g1) (b2 : base ≤ g2) (hne : g1 ≠ g2) (hlt : ∀ j, j < L.length → (gk j).1 < g1 ∧ (gk j).1 < g2 ∧ (gv j).1 < g1 ∧ (gv j).1 < g2) :
  Lm w base mk mv (fun j => if j = L.length then (g1, c1) else gk j) (fun j => if j = L.length then (g2, c2) else gv j) (xs ++ [.slice (some ⟨g1, 0, none⟩) n c1, .slice (some ⟨g2, 0, none⟩) m c2, .int .i64 s, .int .i64 f]) (L ++ [x]) := by
 have hl := h.len
 have cases2 : ∀ j, j < (L ++ [x]).length → j < L.length ∨ j = L.length := fun j hj => by rw [List.length_append] at hj; simp at hj; omega
 have old : ∀ j, j < L.length → (L ++ [x]).getD j it0 = L.getD j it0 := fun j hj => by simp [List.getD, List.getElem?_append_left hj]
 have new : (L ++ [x]).getD L.length it0 = x := by simp [List.getD]
 refine ⟨by simp [hl]; omega, fun j hj => ?_, fun j hj => ?_, fun j hj => ?_, fun i j hij hj => ?_⟩
 ·rcases cases2 j hj with e | rfl
  ·rw [old j e]
   have e2 : j ≠ L.length := by omega
   simp only [if_neg e2]
   obtain ⟨a1, a2, a3, a4⟩ := h.el j e
   exact ⟨by rw [List.getElem?_append_left (by omega)]; exact a1, by rw [List.getElem?_append_left (by omega)]; exact a2, by rw [List.getElem?_append_left (by omega)]; exact a3, by rw [List.getElem?_append_left (by omega)]; exact a4⟩
  ·rw [new, hn, hm, hs, hf]
   simp only [if_pos]
   refine ⟨?_, ?_, ?_, ?_⟩
   ·rw [List.getElem?_append_right (by omega), hl, Nat.sub_self]; rfl
   ·rw [List.getElem?_append_right (by omega), hl, Nat.add_sub_cancel_left]; rfl
   ·rw [List.getElem?_append_right (by omega), hl, Nat.add_sub_cancel_left]; rfl
   ·rw [List.getElem?_append_right (by omega), hl, Nat.add_sub_cancel_left]; rfl
 ·rcases cases2 j hj with e | rfl
  ·rw [old j e]
   have e2 : j ≠ L.length := by omega
   simp only [if_neg e2]
   exact h.ko j e
  ·rw [new]
   simp only [if_pos]
   exact ⟨h1, h2⟩
 ·rcases cases2 j hj with e | rfl
  ·have e2 : j ≠ L.length := by omega
   simp only [if_neg e2]
   exact h.lo j e
  ·simp only [if_pos]
   exact ⟨b1, b2, hne⟩
 ·rcases cases2 j hj with e | rfl
  ·have e2 : j ≠ L.length := by omega
   have e3 : i ≠ L.length := by omega
   simp only [if_neg e2, if_neg e3]
   exact h.up i j hij e
  ·have e3 : i ≠ L.length := by omega
   simp only [if_pos, if_neg e3]
   exact hlt i hij
theorem ow_part {w : World} {g cap : Nat} {zs ts : List Int} (h : Ow w g cap (zs ++ ts)) (n : Nat) (hn : n = zs.length) : Byt w (some ⟨g, 0, none⟩) n cap zs := h.part.byt n hn
theorem Lm.cells {w : World} {base b2 : Nat} {mk mv : List Int} {gk gv : Nat → Nat × Nat} {xs ys : List Value} {L : List It} {A N cap : Nat} (h : Lm w base mk mv gk gv xs L) (ho : w.ownsRow b2 52 4 (.slice (some ⟨A, 0, none⟩) N cap) N (xs ++ ys)) (j : Nat) (hj : j < L.length) :
  w.cell? ⟨A, j * 4, none⟩ = some (.slice (some ⟨(gk j).1, 0, none⟩) (L.getD j it0).key.length (gk j).2) ∧ w.cell? ⟨A, j * 4 + 1, none⟩ = some (.slice (some ⟨(gv j).1, 0, none⟩) (L.getD j it0).val.length (gv j).2) ∧
  w.cell? ⟨A, j * 4 + 2, none⟩ = some (.int .i64 (L.getD j it0).size) ∧ w.cell? ⟨A, j * 4 + 3, none⟩ = some (.int .i64 (L.getD j it0).first) := by
 have hl := h.len
 have hlt := ho.1
 rw [List.length_append] at hlt
 obtain ⟨a1, a2, a3, a4⟩ := h.el j hj
 refine ⟨?_, ?_, ?_, ?_⟩
 ·rw [ho.cellAt _ (by omega), List.getElem?_append_left (by omega)]; exact a1
 ·rw [ho.cellAt _ (by omega), List.getElem?_append_left (by omega)]; exact a2
 ·rw [ho.cellAt _ (by omega), List.getElem?_append_left (by omega)]; exact a3
 ·rw [ho.cellAt _ (by omega), List.getElem?_append_left (by omega)]; exact a4
theorem Lm.il {w : World} {base b2 : Nat} {mk mv : List Int} {gk gv : Nat → Nat × Nat} {xs ys : List Value} {L : List It} {A N cap : Nat} (h : Lm w base mk mv gk gv xs L) (ho : w.ownsRow b2 52 4 (.slice (some ⟨A, 0, none⟩) N cap) N (xs ++ ys)) : Il w (some ⟨A, 0, none⟩) L := by
 refine ⟨fun j hj => ?_⟩
 obtain ⟨a1, a2, a3, a4⟩ := h.cells ho j hj
 obtain ⟨k1, k2⟩ := h.ko j hj
 have l1 := k1.le
 have l2 := k2.le
 have m1 := k1.max
 have m2 := k2.max
 rw [List.length_append] at l1 l2
 refine ⟨A, 0, _, _, _, _, _, _, rfl, by rw [Nat.zero_add]; exact a1, by rw [Nat.zero_add]; exact a2, by rw [Nat.zero_add]; exact a3, by rw [Nat.zero_add]; exact a4, ow_part k1 _ rfl, by omega, by omega, ow_part k2 _ rfl, by omega, by omega⟩
attribute [local go_sem ↓] Go.wp_at_zero Go.wp_at_succ
theorem ow_of_new {w : World} {base g n : Nat} {zs : List Int} (h : w.ownsRow base 5 1 (.slice (some ⟨g, 0, none⟩) n n) n (zs.map (Value.int .u8))) : Ow w g n zs := (Ow.of_owns h).1
theorem gr4 (w : World) (U : Nat) (v0 v1 v2 v3 : Value) : w.grownBy ((((w.setCell ⟨U, 0, none⟩ v0).setCell ⟨U, 1, none⟩ v1).setCell ⟨U, 2, none⟩ v2).setCell ⟨U, 3, none⟩ v3) (some U) :=
 grown_trans (grown_trans (grown_trans (grown_cell w U 0 v0) (grown_cell _ U 1 v1)) (grown_cell _ U 2 v2)) (grown_cell _ U 3 v3)
theorem gc4 {w : World} {U b o : Nat} {v0 v1 v2 v3 v : Value} (hne : b ≠ U) (h : w.cell? ⟨b, o, none⟩ = some v) : ((((w.setCell ⟨U, 0, none⟩ v0).setCell ⟨U, 1, none⟩ v1).setCell ⟨U, 2, none⟩ v2).setCell ⟨U, 3, none⟩ v3).cell? ⟨b, o, none⟩ = some v :=
 (gr4 w U v0 v1 v2 v3).cell h (fun e => hne (Option.some.inj e))
set_option maxHeartbeats 2000000 in
set_option maxRecDepth 100000 in
theorem refItem_any (ao : Option Addr) (n c : Nat) (bo : Option Addr) (m d : Nat) (s f : Int) (x : It) (w : World) (hk : Byt w ao n c x.key) (hv : Byt w bo m d x.val) (hn : n ≤ 100000) (hm : m ≤ 100000) :
  Calls Tryz.prog 17 #[.agg #[.slice ao n c, .slice bo m d, .int .i64 s, .int .i64 f]] w fun en w' => ∃ g1 g2, en = .returned (.agg #[.slice (some ⟨g1, 0, none⟩) n n, .slice (some ⟨g2, 0, none⟩) m m, .int .i64 s, .int .i64 f]) ∧ Ow w' g1 n x.key ∧ Ow w' g2 m x.val ∧ w.heap.size ≤ g1 ∧ w.heap.size ≤ g2 ∧ g1 ≠ g2 ∧ w.grownBy w' none := by
 have ga := World.grownBy_alloc w (.cells #[.slice ao n c, .slice bo m d, .int .i64 s, .int .i64 f] 52) none
 have gb := World.grownBy_alloc (w.alloc (.cells #[.slice ao n c, .slice bo m d, .int .i64 s, .int .i64 f] 52)) (.cells #[.slice none 0 0, .slice none 0 0, .int .i64 0, .int .i64 0] 52) none
 have HG := hid_intro (grown_trans ga gb)
 have hs1 : (w.alloc (.cells #[.slice ao n c, .slice bo m d, .int .i64 s, .int .i64 f] 52)).heap.size = w.heap.size + 1 := by simp
 have X1 := hid_intro ((Bx.new w (.slice ao n c) (.slice bo m d) (.int .i64 s) (.int .i64 f)).kept gb (by simp))
 have Y1 := hid_intro (Bx.new (w.alloc (.cells #[.slice ao n c, .slice bo m d, .int .i64 s, .int .i64 f] 52)) (.slice none 0 0) (.slice none 0 0) (.int .i64 0) (.int .i64 0))
 rw [hs1] at Y1
 have K1 := hid_intro (hk.keptN (grown_trans ga gb))
 have V1 := hid_intro (hv.keptN (grown_trans ga gb))
 have hsz : ((w.alloc (.cells #[.slice ao n c, .slice bo m d, .int .i64 s, .int .i64 f] 52)).alloc (.cells #[.slice none 0 0, .slice none 0 0, .int .i64 0, .int .i64 0] 52)).heap.size = w.heap.size + 2 := by simp
 clear ga gb hs1 hk hv
 go_enter Tryz.func17, Tryz.ntmps17
 go_upto_region 1 with fail
 generalize (w.alloc (.cells #[.slice ao n c, .slice bo m d, .int .i64 s, .int .i64 f] 52)).alloc (.cells #[.slice none 0 0, .slice none 0 0, .int .i64 0, .int .i64 0] 52) = w1 at *
 obtain ⟨B, hB⟩ : ∃ B, w.heap.size = B := ⟨_, rfl⟩
 rw [hB] at X1 Y1 hsz ⊢
 obtain ⟨U, hU⟩ : ∃ U, B + 1 = U := ⟨_, rfl⟩
 rw [hU] at Y1 ⊢
 have hBU : B ≠ U := by omega
 have hBU2 : ¬ B = U := by omega
 have hUs : U < w1.heap.size := by omega
 have HS1 : Hid (w1.heap.size = B + 2) := hsz
 clear hsz
 obtain ⟨x0, x1, x2, x3⟩ := X1.out.cells
 go_region_held3 (fun w' => w'.cell? ⟨B, 0, none⟩ = some (.slice ao n c) ∧ w'.cell? ⟨B, 1, none⟩ = some (.slice bo m d) ∧ w'.cell? ⟨B, 2, none⟩ = some (.int .i64 s) ∧ w'.cell? ⟨B, 3, none⟩ = some (.int .i64 f)) (first | go_keep | exact ⟨gc4 hBU y0, gc4 hBU y1, gc4 hBU y2, gc4 hBU y3⟩)
  ((first
   | (go_simp; go_at_call 9; refine (refBytes_any bo m d x.val _ (by exact (V1.out.keptN ((Qt.refl _).drew.grown none)).keptN hg2) (by omega)).mono ?_; rintro en w3 ⟨rfl, hown3, hg3, hs3⟩; obtain ⟨y0, y1, y2, y3⟩ := (X1.out.kept (grown_trans (grown_trans ((Qt.refl _).drew.grown none) hg2) hg3) (by simp)).cells; obtain ⟨z0, z1, z2, z3⟩ := (Y1.out.kept (grown_trans (grown_trans ((Qt.refl _).drew.grown none) hg2) hg3) (by simp)).cells; have f0 := (Y1.out.kept (grown_trans (grown_trans ((Qt.refl _).drew.grown none) hg2) hg3) (by simp)).frozen 0; have f1 := (Y1.out.kept (grown_trans (grown_trans ((Qt.refl _).drew.grown none) hg2) hg3) (by simp)).frozen 1; have f2 := (Y1.out.kept (grown_trans (grown_trans ((Qt.refl _).drew.grown none) hg2) hg3) (by simp)).frozen 2; have f3 := (Y1.out.kept (grown_trans (grown_trans ((Qt.refl _).drew.grown none) hg2) hg3) (by simp)).frozen 3)
   | (go_simp; go_at_call 9; refine (refBytes_any ao n c x.key _ (by exact K1.out.keptN ((Qt.refl _).drew.grown none)) (by omega)).mono ?_; rintro en w2 ⟨rfl, hown2, hg2, hs2⟩; obtain ⟨y0, y1, y2, y3⟩ := (X1.out.kept (grown_trans ((Qt.refl _).drew.grown none) hg2) (by simp)).cells)))
 have hY3 := Y1.out.kept (grown_trans (grown_trans ((Qt.refl _).drew.grown none) hg2) hg3) (by simp)
 have hG3 := gr4 w3 U (.slice (some ⟨w1.heap.size, 0, none⟩) n n) (.slice (some ⟨w2.heap.size, 0, none⟩) m m) (.int .i64 s) (.int .i64 f)
 have hd := (((hY3.set0 (.slice (some ⟨w1.heap.size, 0, none⟩) n n)).set1 (.slice (some ⟨w2.heap.size, 0, none⟩) m m)).set2 (.int .i64 s)).set3 (.int .i64 f)
 have hk2 : Ow w2 w1.heap.size n x.key := ow_of_new hown2
 have hv3 : Ow w3 w2.heap.size m x.val := ow_of_new hown3
 have hs2' : w1.heap.size < w2.heap.size := hs2
 have hGW : w.grownBy w3 none := grown_trans HG.out (grown_trans (grown_trans ((Qt.refl _).drew.grown none) hg2) hg3)
 have hB9 := HS1.out
 have hk3 := (hk2.keptN hg3).kept hG3 (fun e => by have := Option.some.inj e; omega)
 have hv4 := hv3.kept hG3 (fun e => by have := Option.some.inj e; omega)
 have hGF := grown_new hGW hG3 (by omega)
 go_wp2
 refine bodyPost_ret (ret_item rfl _ _ U _ _ _ _ rfl hd) rfl ?_
 exact ⟨_, _, rfl, hk3, hv4, by omega, by omega, by omega, hGF⟩
structure Lq (w : World) (base A c : Nat) (gk gv : Nat → Nat × Nat) (xs : List Value) (L : List It) : Prop where
 own : w.ownsRow base 52 4 (.slice (some ⟨A, 0, none⟩) L.length c) L.length xs
 lm : Lm w base [] [] gk gv xs L
theorem Lq.il {w : World} {base A c : Nat} {gk gv : Nat → Nat × Nat} {xs : List Value} {L : List It} (h : Lq w base A c gk gv xs L) : Il w (some ⟨A, 0, none⟩) L := h.lm.il (ys := []) (by rw [List.append_nil]; exact h.own)
theorem Lq.keptN {w w' : World} {base A c : Nat} {gk gv : Nat → Nat × Nat} {xs : List Value} {L : List It} (h : Lq w base A c gk gv xs L) (hg : w.grownBy w' none) : Lq w' base A c gk gv xs L := ⟨own_keptN h.own hg, h.lm.keptN hg⟩
theorem Lq.below {w w' : World} {base A c g : Nat} {gk gv : Nat → Nat × Nat} {xs : List Value} {L : List It} (h : Lq w base A c gk gv xs L) (hg : w.grownBy w' (some g)) (hlt : g < base) : Lq w' base A c gk gv xs L :=
 ⟨h.own.kept hg (.inr (fun e => by have := (h.own.lt g e).1; omega)), h.lm.kept hg (fun b hb _ e => by have := Option.some.inj e; omega)⟩
set_option maxHeartbeats 2000000 in
set_option maxRecDepth 100000 in
theorem refItems_big (a : Option Addr) (n cap : Nat) (L : List It) (w : World) (hl : Il w a L) (hn : L.length = n) (hm : n ≤ 5000) (hs : ∀ x ∈ L, x.key.length ≤ 100000 ∧ x.val.length ≤ 100000) :
  Calls Tryz.prog 6 #[.slice a n cap] w fun en w' => ∃ A c gk gv xs, en = .returned (.slice (some ⟨A, 0, none⟩) n c) ∧ Lq w' w.heap.size A c gk gv xs L ∧ n ≤ c ∧ c ≤ 9223372036854775807 ∧ w.grownBy w' none := by
 obtain ⟨i1, hi1, hy0, hy1, hy2⟩ := info_parts info_item
 have HL := hid_intro hl
 have HS := hid_intro hs
 clear hl hs
 go_enter Tryz.func6, Tryz.ntmps6
 go_wp2_with (at_make; refine wpList_make_own _ rfl _ _ 22 rfl w.heap.size 52 i1 (.agg #[.slice none 0 0, .slice none 0 0, .int .i64 0, .int .i64 0]) 4 Tryz.underlying22 hi1 hy0 hy1 _ _ _ n rfl rfl rfl ?b2 ?b3 (Nat.le_refl _) ?_)
 case b2 => rw [hy2]; omega
 case b3 => unfold maxLen; omega
 intro w0 hown0 hg0
 have O0 := hid_intro hown0
 have G0 := hid_intro hg0
 clear hown0 hg0
 go_wp2
 go_loopw [3, 4, 5] (fun sl si _ wr => ∃ (i : Nat) (A c : Nat) (gk gv : Nat → Nat × Nat) (xs : List Value), i ≤ n ∧ si = .int .i64 i ∧ sl = .slice (some ⟨A, 0, none⟩) i c ∧ i ≤ c ∧ c ≤ 9223372036854775807 ∧ wr.ownsRow w.heap.size 52 4 (.slice (some ⟨A, 0, none⟩) i c) i xs ∧ Lm wr w.heap.size [] [] gk gv xs (L.take i) ∧ w.grownBy wr none) (fun _ si _ _ => n - (intOf si).toNat)
 case atStart => exact ⟨0, _, _, fun _ => (0, 0), fun _ => (0, 0), [], Nat.zero_le _, rfl, rfl, by omega, by omega, O0.out, Lm.nil _ _ _ _ _ _, G0.out⟩
 case round =>
  obtain ⟨i, A, c, gk, gv, xs, hi', rfl, rfl, hic, hcm, hown, hlm, hg⟩ := hrel
  have HO := hid_intro hown
  have HM := hid_intro hlm
  have HG := hid_intro hg
  clear hown hlm hg O0 G0
  by_cases hlt : i < n
  ·obtain ⟨b1, off, ao, k, kc, bo, m, mc, rfl, q1, q2, q3, q4, hk, _, _, hv, _, _⟩ := HL.out.row i (by omega)
   have c0 := HG.out.cell q1 (by simp)
   have c1 := HG.out.cell q2 (by simp)
   have c2 := HG.out.cell q3 (by simp)
   have c3 := HG.out.cell q4 (by simp)
   have K1 := hid_intro (hk.keptN HG.out)
   have V1 := hid_intro (hv.keptN HG.out)
   have hkl := hk.len
   have hvl := hv.len
   have hss := HS.out _ (getD_mem (show i < L.length by omega))
   have HTK := hid_intro (itake (show i < L.length by omega))
   have HTL : Hid ((L.take i).length = i) := by show _ = _; rw [List.length_take]; omega
   clear q1 q2 q3 q4 hk hv
   generalize L.getD i it0 = x at *
   obtain ⟨sz, hsz⟩ : ∃ sz, x.size = sz := ⟨_, rfl⟩
   obtain ⟨fs, hfs⟩ : ∃ fs, x.first = fs := ⟨_, rfl⟩
   rw [hsz] at c2
   rw [hfs] at c3
   have HSZ := hid_intro hsz
   have HFS := hid_intro hfs
   clear hsz hfs
   have hwg := HG.out.size
   go_wp2_with fail
   refine (refItem_any ao k kc bo m mc sz fs x _ K1.out V1.out (by omega) (by omega)).mono ?_
   rintro en w2 ⟨g1, g2, rfl, ho1, ho2, hb1, hb2, hne, hg2⟩
   have ga := World.grownBy_alloc w2 (.cells #[.slice (some ⟨g1, 0, none⟩) k k, .slice (some ⟨g2, 0, none⟩) m m, .int .i64 sz, .int .i64 fs] 52) none
   have HLT : Hid (∀ j, j < (L.take i).length → (gk j).1 < g1 ∧ (gk j).1 < g2 ∧ (gv j).1 < g1 ∧ (gv j).1 < g2) := fun j hj => by
    have := (HM.out.ko j hj).1.lt
    have := (HM.out.ko j hj).2.lt
    omega
   have hga := grown_trans hg2 ga
   have HM3 := hid_intro (HM.out.keptN hga)
   have HO3 := hid_intro (own_keptN HO.out hga)
   have HG3 := hid_intro (grown_trans HG.out hga)
   have OK3 := hid_intro (ho1.keptN ga)
   have OV3 := hid_intro (ho2.keptN ga)
   have X3 := hid_intro (Bx.new w2 (.slice (some ⟨g1, 0, none⟩) k k) (.slice (some ⟨g2, 0, none⟩) m m) (.int .i64 sz) (.int .i64 fs))
   clear ga hga hg2 ho1 ho2 HM HO HG c0 c1 c2 c3 K1 V1
   go_upto_region 6 with fail
   generalize w2.alloc (.cells #[.slice (some ⟨g1, 0, none⟩) k k, .slice (some ⟨g2, 0, none⟩) m m, .int .i64 sz, .int .i64 fs] 52) = w3 at *
   generalize w2.heap.size = T at *
   obtain ⟨x0, x1, x2, x3⟩ := X3.out.cells
   go_wp2_with (at_builtin; refine wpList_append_own _ rfl _ _ 22 rfl w.heap.size 52 i1 (.agg #[.slice none 0 0, .slice none 0 0, .int .i64 0, .int .i64 0]) 4 64 Tryz.underlying22 hi1 hy0 hy1 hy2 rfl (by decide) _ i xs rfl (HO3.out.alloc _) ⟨w3.heap.size, 0, none⟩ 1 1 [.slice (some ⟨g1, 0, none⟩) k k, .slice (some ⟨g2, 0, none⟩) m m, .int .i64 sz, .int .i64 fs] rfl rfl (cell_four_new _ _ _ _ _ _) (by intro u hu; simp at hu; rcases hu with rfl | rfl | rfl | rfl <;> rfl) (by unfold maxLen; omega) (by omega) (by have := HG3.out.size; simp; omega) ?_)
   intro v' w10 ho hg10 _
   obtain ⟨A', c', rfl, hic', hcm'⟩ := own_slice ho (by omega)
   have gb := World.grownBy_alloc w3 (.cells #[.slice (some ⟨g1, 0, none⟩) k k, .slice (some ⟨g2, 0, none⟩) m m, .int .i64 sz, .int .i64 fs] 52) none
   have hnu : ∀ (g : Nat), U8 (w3.alloc (.cells #[.slice (some ⟨g1, 0, none⟩) k k, .slice (some ⟨g2, 0, none⟩) m m, .int .i64 sz, .int .i64 fs] 52)) g → some g ≠ _ := fun g hu => own_item_ne (HO3.out.alloc (.cells #[.slice (some ⟨g1, 0, none⟩) k k, .slice (some ⟨g2, 0, none⟩) m m, .int .i64 sz, .int .i64 fs] 52)) g hu
   have HM10 := (HM3.out.keptN gb).kept hg10 (fun g _ hu => hnu g hu)
   have OK10 := (OK3.out.keptN gb).kept hg10 (hnu g1 (OK3.out.keptN gb).u8)
   have OV10 := (OV3.out.keptN gb).kept hg10 (hnu g2 (OV3.out.keptN gb).u8)
   have HG10 := hid_intro (grown_app5 HG3.out HO3.out (Nat.le_refl _) hg10)
   have HM11 := hid_intro (HM10.snoc (by rw [List.append_nil]; exact OK10) (by rw [List.append_nil]; exact OV10) hkl hvl HSZ.out HFS.out (by omega) (by omega) hne HLT.out)
   have HO10 := hid_intro ho
   rw [← HTK.out] at HM11
   clear ho hg10 gb hnu HM10 OK10 OV10 HM3 HO3 HG3 OK3 OV3 X3 x0 x1 x2 x3
   go_wp2
   go_roundw
   case rel => exact ⟨i + 1, A', c', _, _, _, by omega, by go_num, rfl, hic', hcm', HO10.out, HM11.out, HG10.out⟩
   case measure => simp [intOf]; omega
  ·have hin : i = n := by omega
   subst hin
   have e : L.take i = L := by rw [← hn, List.take_length]
   rw [e] at HM
   clear e
   go_wp2
   go_ret
   exact ⟨A, c, gk, gv, xs, rfl, ⟨by rw [hn]; exact HO.out, HM.out⟩, hic, hcm, HG.out⟩
end Go.Proofs.YtcdkkhbkicejiaaGreatDoor
