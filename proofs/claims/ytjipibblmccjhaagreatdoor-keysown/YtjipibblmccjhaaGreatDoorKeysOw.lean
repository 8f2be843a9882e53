import Derived.Test.YtjipibblmccjhaaGreatDoorBookO
import Derived.Test.YtjipibblmccjhaaGreatDoorKeys5
namespace Go.Proofs.YtjipibblmccjhaaGreatDoor
open Go.RowKit

/-- A block of bytes of the call's own, 'cap' long; its first bytes are zs. -/
structure Ow (w : World) (g cap : Nat) (zs : List Int) : Prop where
  ex : ∃ cur : Array Value, w.heap[g]? = some (.cells cur 5 (0, 0)) ∧ cur.size = cap ∧ ∀ j, j < zs.length → cur[j]? = some (.int .u8 (zs.getD j 0))
  le : zs.length ≤ cap
  max : cap ≤ 9223372036854775807

theorem Ow.of_owns {w : World} {base g n cap : Nat} {zs : List Int} (h : w.ownsRow base 5 1 (.slice (some ⟨g, 0, none⟩) n cap) n (zs.map (Value.int .u8))) : Ow w g cap zs ∧ zs.length = n ∧ base ≤ g ∧ g < w.heap.size := by
  have hl : zs.length = n := by have := h.1; simpa using this
  have hlt := h.lt g rfl
  rcases h.2 with ⟨e, _⟩ | ⟨g', cap', cur, hv, hb, hg, hc, hm, hs, ht⟩
  · cases e
  · injection hv with e1 _ e3
    simp only [Option.some.injEq, Addr.mk.injEq] at e1
    obtain ⟨rfl, _⟩ := e1
    subst e3
    refine ⟨⟨⟨cur, hg, by simpa using hs, fun j hj => ?_⟩, by omega, by unfold maxLen at hm; omega⟩, hl, hlt⟩
    have e : (cur.toList.take (n * 1))[j]? = (zs.map (Value.int .u8))[j]? := by rw [ht]
    rw [List.getElem?_take, if_pos (by omega), Array.getElem?_toList] at e
    rw [e]
    simp [List.getD, List.getElem?_eq_getElem hj]

theorem Ow.cell {w : World} {g cap : Nat} {zs : List Int} (h : Ow w g cap zs) {j : Nat} (hj : j < zs.length) : w.cell? ⟨g, j, none⟩ = some (.int .u8 (zs.getD j 0)) := by
  obtain ⟨cur, h1, _, h3⟩ := h.ex
  rw [cell_of_row w g j _ _ _ h1]; exact h3 j hj
theorem Ow.frozen {w : World} {g cap : Nat} {zs : List Int} (h : Ow w g cap zs) (j : Nat) : w.frozen? ⟨g, j, none⟩ = false := by
  obtain ⟨cur, h1, _, _⟩ := h.ex
  exact frozen_of_row w g j _ _ h1
theorem Ow.lt {w : World} {g cap : Nat} {zs : List Int} (h : Ow w g cap zs) : g < w.heap.size := by
  obtain ⟨cur, h1, _, _⟩ := h.ex
  exact (Array.getElem?_eq_some_iff.1 h1).1
theorem Ow.byt {w : World} {g cap : Nat} {zs : List Int} (h : Ow w g cap zs) (n : Nat) (hn : n = zs.length) : Byt w (some ⟨g, 0, none⟩) n cap zs := by
  subst hn
  exact Byt.of_cells rfl fun i hi => by rw [Nat.zero_add]; exact h.cell hi
theorem Ow.same {w w' : World} {g cap : Nat} {zs : List Int} (h : Ow w g cap zs) (e : w'.heap[g]? = w.heap[g]?) : Ow w' g cap zs := by
  obtain ⟨cur, h1, h2, h3⟩ := h.ex
  exact ⟨⟨cur, e.trans h1, h2, h3⟩, h.le, h.max⟩
theorem Ow.kept {w w' : World} {g cap : Nat} {zs : List Int} {row : Option Nat} (h : Ow w g cap zs) (hg : w.grownBy w' row) (hne : some g ≠ row) : Ow w' g cap zs := h.same (hg.block g h.lt hne)
theorem Ow.keptN {w w' : World} {g cap : Nat} {zs : List Int} (h : Ow w g cap zs) (hg : w.grownBy w' none) : Ow w' g cap zs := h.kept hg (by simp)
theorem Ow.qt {w w' : World} {g cap : Nat} {zs : List Int} (h : Ow w g cap zs) (q : Qt w w') : Ow w' g cap zs := h.same (by rw [q.heap])
theorem Ke.ow {w w' : World} {B : Nat} {vb vw vb' vw' : Value} (k : Ke w w' B vb vw vb' vw') {g cap : Nat} {zs : List Int} (h : Ow w g cap zs) (hf : Free B vb vw g) : Ow w' g cap zs := h.same (k.block g h.lt hf).1
theorem Ow.part {w : World} {g cap : Nat} {xs ys : List Int} (h : Ow w g cap (xs ++ ys)) : Ow w g cap xs := by
  obtain ⟨cur, h1, h2, h3⟩ := h.ex
  have := h.le
  simp at this
  refine ⟨⟨cur, h1, h2, fun j hj => ?_⟩, by omega, h.max⟩
  rw [h3 j (by simp; omega)]
  simp [List.getD, List.getElem?_append_left hj]
theorem Ow.set {w : World} {g cap : Nat} {zs : List Int} (h : Ow w g cap zs) (i : Nat) (v : Int) (_hi : i < zs.length) : Ow (w.setCell ⟨g, i, none⟩ (.int .u8 v)) g cap (zs.set i v) := by
  obtain ⟨cur, h1, h2, h3⟩ := h.ex
  refine ⟨⟨cur.setIfInBounds i (.int .u8 v), heap_setCell_same w g i cur _ _ h1, by simpa using h2, fun j hj => ?_⟩, by simpa using h.le, h.max⟩
  have hj' : j < zs.length := by simpa using hj
  have hjc : j < cur.size := by have := h.le; omega
  by_cases e : i = j
  · subst e
    simp [List.getD, hj', hjc]
  · rw [Array.getElem?_setIfInBounds_ne e, h3 j hj']
    simp [List.getD, e]
theorem grown_cell (w : World) (g i : Nat) (v : Value) : w.grownBy (w.setCell ⟨g, i, none⟩ v) (some g) := grown_set w g i v

/-- A list in a block of its own, with room. -/
def slK (g n cap : Nat) : Sl := ⟨.slice (some ⟨g, 0, none⟩) n cap, g, 0, n, cap⟩
/-- No list. -/
def slN (g : Nat) : Sl := ⟨.slice none 0 0, g, 0, 0, 0⟩

theorem keep_ow {w : World} {B base : Nat} {L : List Sl} {ys : List Value} {vb vw : Value} (g n cap : Nat) (zs : List Int) (h : Kb w B base L ys vb vw) (ho : Ow w g cap zs) (hn : zs.length = n) (hm : n ≤ 5000) (hf : Free B vb vw g) (hap : ∀ t ∈ L, 0 < t.c → t.g ≠ g) (hL : L.length ≤ 1000) :
    Calls Tryz.prog 15 #[.pointer (some ⟨B, 0, none⟩), .slice (some ⟨g, 0, none⟩) n cap] w fun en w' => en = .returned (.tuple #[]) ∧ ∃ k vb' vw', Kb w' B base (L ++ [slK g n cap]) (ys ++ [.slice (some ⟨k, 0, none⟩) n n]) vb' vw' ∧ Ke w w' B vb vw vb' vw' ∧ w.heap.size ≤ k := by
  have hle := ho.le
  have hmax := ho.max
  obtain ⟨cur, h1, h2, h3⟩ := ho.ex
  refine kb_keep2 (slK g n cap) (some ⟨g, 0, none⟩) zs h ⟨by show n ≤ cap; omega, by show n ≤ 1099511627776; omega, hmax, _, rfl, fun _ => rfl⟩ (fun j hj => ?_) (by show n ≤ 1099511620000; omega) ho.lt hf rfl (fun t ht i j hi _ e => ?_) (ho.byt n hn.symm) hL
  · have hj' : j < cap := hj
    show (∃ u, w.cell? ⟨g, 0 + j, none⟩ = some u) ∧ w.frozen? ⟨g, 0 + j, none⟩ = false
    rw [Nat.zero_add]
    exact ⟨⟨_, (cell_of_row w g j _ _ _ h1).trans (Array.getElem?_eq_getElem (show j < cur.size by omega))⟩, frozen_of_row w g j _ _ h1⟩
  · injection e with e1
    exact hap t ht (by omega) e1

theorem keep_nil {w : World} {B base : Nat} {L : List Sl} {ys : List Value} {vb vw : Value} (g : Nat) (h : Kb w B base L ys vb vw) (hg : g < w.heap.size) (hf : Free B vb vw g) (hL : L.length ≤ 1000) :
    Calls Tryz.prog 15 #[.pointer (some ⟨B, 0, none⟩), .slice none 0 0] w fun en w' => en = .returned (.tuple #[]) ∧ ∃ k vb' vw', Kb w' B base (L ++ [slN g]) (ys ++ [.slice (some ⟨k, 0, none⟩) 0 0]) vb' vw' ∧ Ke w w' B vb vw vb' vw' ∧ w.heap.size ≤ k := by
  refine kb_keep2 (slN g) none [] h ⟨Nat.le_refl _, by show 0 ≤ 1099511627776; omega, by show 0 ≤ 9223372036854775807; omega, _, rfl, fun h => absurd h (by show ¬ 0 < 0; omega)⟩ (fun j hj => absurd hj (by show ¬ j < 0; omega)) (by show 0 ≤ 1099511620000; omega) hg hf rfl (fun t _ i j _ hj => absurd hj (by show ¬ j < 0; omega)) (Byt.empty w) hL

/-- The marks behind the bytes. -/
def marks : List Int := (List.range 40).map fun i => ((47 + 11 * i : Nat) : Int) % 256
theorem marks_len : marks.length = 40 := by simp [marks]
theorem marks_bt : Bt marks := by
  intro z hz
  obtain ⟨i, _, rfl⟩ := List.mem_map.1 hz
  omega
theorem marks_snoc {i : Nat} (h : i < 40) : marks.take (i + 1) = marks.take i ++ [((47 + 11 * i : Nat) : Int) % 256] := by
  have hl : i < marks.length := by rw [marks_len]; exact h
  rw [List.take_add_one, List.getElem?_eq_getElem hl]
  have : marks[i] = ((47 + 11 * i : Nat) : Int) % 256 := by unfold marks; simp
  rw [this]
  rfl
theorem marks_all : marks.take 40 = marks := List.take_of_length_le (by rw [marks_len]; omega)

set_option maxHeartbeats 2000000 in
set_option maxRecDepth 100000 in
theorem roomy_any (ao : Option Addr) (n c : Nat) (zs : List Int) (w : World) (hb : Byt w ao n c zs) (hn : n ≤ 2000) :
    Calls Tryz.prog 5 #[.slice ao n c] w fun en w' => ∃ g cap, en = .returned (.slice (some ⟨g, 0, none⟩) (n + 40) cap) ∧ Ow w' g cap (zs ++ marks) ∧ w.heap.size ≤ g ∧ w.grownBy w' none := by
  have HB := hid_intro hb
  clear hb
  go_enter Tryz.func5, Tryz.ntmps5
  go_wp2_with fail
  refine (refBytes_any ao n c zs w HB.out (by omega)).mono ?_
  rintro en w1 ⟨rfl, ho, hg, hs⟩
  have O1 := hid_intro ho
  have G1 := hid_intro hg
  clear ho hg
  go_wp2
  go_loopw [3, 4] (fun sl si wr => ∃ i : Nat, i ≤ 40 ∧ si = .int .i64 i ∧ wr.ownsRow w.heap.size 5 1 sl (n + i) ((zs ++ marks.take i).map (Value.int .u8)) ∧ w.grownBy wr none) (fun _ si _ => 40 - (intOf si).toNat)
  case atStart => exact ⟨0, by omega, rfl, by rw [List.take_zero, List.append_nil]; exact O1.out, G1.out⟩
  case round =>
    obtain ⟨i, hi, rfl, ho, hg⟩ := hrel
    have OO := hid_intro ho
    have GG := hid_intro hg
    by_cases hlt : i < 40
    · have HM := hid_intro (marks_snoc hlt)
      have hg0 := hg.size
      clear ho hg
      obtain ⟨v, hv⟩ : ∃ v : Int, ((47 + 11 * i : Nat) : Int) % 256 = v := ⟨_, rfl⟩
      have hw : (47 + 11 * (i : Int)) % 256 = v := by omega
      rw [hv] at HM
      clear hv
      go_wp2_with (at_builtin; refine wpList_append_byt rfl _ _ rfl w.heap.size _ (n + i) (zs ++ marks.take i) rfl (OO.out.alloc _) (some ⟨wr.heap.size, 0, none⟩) 1 1 [v] (by simp [Act.eval]) (Byt.lit wr 5 _ [v] 1 rfl (by simp)) (by omega) (by simp; omega) ?_)
      intro v' w' ho' hg'
      have O2 : Hid (w'.ownsRow w.heap.size 5 1 v' (n + (i + 1)) ((zs ++ marks.take (i + 1)).map (Value.int .u8))) := by
        show World.ownsRow _ _ _ _ _ _ _
        rw [HM.out, ← Nat.add_assoc]
        simpa using ho'
      have G2 := hid_intro (grown_own GG.out OO.out (Nat.le_refl _) hg')
      clear ho' hg' OO GG
      go_wp2
      go_roundw
      case rel => exact ⟨i + 1, by omega, by go_num, O2.out, G2.out⟩
      case measure => simp [intOf]; omega
    · have : i = 40 := by omega
      subst this
      rw [marks_all] at ho
      obtain ⟨g, cap, rfl, _, _, _⟩ := owns_shape ho (by omega)
      obtain ⟨h1, _, h3, _⟩ := Ow.of_owns ho
      have X := hid_intro h1
      have Y := hid_intro h3
      clear h1 h3 ho hg OO
      go_wp2
      go_ret
      exact ⟨g, cap, rfl, X.out, Y.out, GG.out⟩
end Go.Proofs.YtjipibblmccjhaaGreatDoor
