import Derived.Test.YtjbigfnggelceaaDoorBase
namespace Go.Proofs.YtjbigfnggelceaaDoor
open Go.RowKit

/-- A reader at block R, its bytes in block G: what is left of zs lies from p on; e: its error. -/
structure Rr (w : World) (R G : Nat) (zs : List Int) (p : Nat) (e : Int) : Prop where
  ne : G ≠ R
  le : p ≤ zs.length
  max : zs.length ≤ 1099511627776
  box : w.heap[R]? = some (.cells #[.slice (some ⟨G, 0, none⟩) zs.length zs.length, .int .i64 p, .int .i64 e] 76 (0, 0))
  row : ∃ cur, w.heap[G]? = some (.cells cur 5 (0, 0)) ∧ cur.size = zs.length ∧ ∀ i, p ≤ i → i < zs.length → cur[i]? = some (.int .u8 (zs.getD i 0))

theorem Rr.lt {w : World} {R G : Nat} {zs : List Int} {p : Nat} {e : Int} (h : Rr w R G zs p e) : R < w.heap.size ∧ G < w.heap.size := by
  obtain ⟨cur, hc, _⟩ := h.row
  exact ⟨(Array.getElem?_eq_some_iff.1 h.box).1, (Array.getElem?_eq_some_iff.1 hc).1⟩

theorem Rr.cells {w : World} {R G : Nat} {zs : List Int} {p : Nat} {e : Int} (h : Rr w R G zs p e) :
    w.cell? ⟨R, 0, none⟩ = some (.slice (some ⟨G, 0, none⟩) zs.length zs.length) ∧ w.cell? ⟨R, 1, none⟩ = some (.int .i64 p) ∧ w.cell? ⟨R, 2, none⟩ = some (.int .i64 e) ∧
    w.frozen? ⟨R, 1, none⟩ = false ∧ w.frozen? ⟨R, 2, none⟩ = false := by
  have hr := h.box
  refine ⟨?_, ?_, ?_, frozen_of_row w R 1 _ _ hr, frozen_of_row w R 2 _ _ hr⟩
  · rw [cell_of_row w R 0 _ _ _ hr]; rfl
  · rw [cell_of_row w R 1 _ _ _ hr]; rfl
  · rw [cell_of_row w R 2 _ _ _ hr]; rfl

theorem Rr.kept {w w' : World} {R G : Nat} {zs : List Int} {p : Nat} {e : Int} {row : Option Nat} (h : Rr w R G zs p e) (hg : w.grownBy w' row) (h1 : some R ≠ row) (h2 : some G ≠ row) : Rr w' R G zs p e := by
  obtain ⟨cur, hc, hr⟩ := h.row
  have hl := h.lt
  exact ⟨h.ne, h.le, h.max, (hg.block R hl.1 h1).trans h.box, cur, (hg.block G hl.2 h2).trans hc, hr⟩

theorem Rr.qt {w w' : World} {R G : Nat} {zs : List Int} {p : Nat} {e : Int} (h : Rr w R G zs p e) (hq : Qt w w') : Rr w' R G zs p e := h.kept (hq.grown none) (by simp) (by simp)

theorem Rr.bytes {w : World} {R G : Nat} {zs : List Int} {p : Nat} {e : Int} (h : Rr w R G zs p e) : ∀ i, p ≤ i → i < zs.length → w.cell? ⟨G, i, none⟩ = some (.int .u8 (zs.getD i 0)) := by
  obtain ⟨cur, hc, hs, hr⟩ := h.row
  intro i h1 h2
  rw [cell_of_row w G i _ _ _ hc]; exact hr i h1 h2

/-- What is left, as a slice. -/
theorem Rr.rest {w : World} {R G : Nat} {zs : List Int} {p : Nat} {e : Int} (h : Rr w R G zs p e) (m c : Nat) (hm : p + m ≤ zs.length) : Byt w (some ⟨G, p, none⟩) m c ((zs.drop p).take m) := by
  refine Byt.of_cells (by simp; omega) fun i hi => ?_
  rw [h.bytes (p + i) (by omega) (by omega)]
  simp [List.getD, hi]

/-- The place, the error set. -/
theorem Rr.setPlace {w : World} {R G : Nat} {zs : List Int} {p : Nat} {e : Int} (h : Rr w R G zs p e) (q : Nat) (v : Int) (hv : v = (q : Int)) (h1 : p ≤ q) (h2 : q ≤ zs.length) :
    Rr (w.setCell ⟨R, 1, none⟩ (.int .i64 v)) R G zs q e ∧ w.grownBy (w.setCell ⟨R, 1, none⟩ (.int .i64 v)) (some R) := by
  subst hv
  obtain ⟨cur, hc, hs, hr⟩ := h.row
  refine ⟨⟨h.ne, h2, h.max, ?_, cur, ?_, hs, fun i a b => hr i (by omega) b⟩, ⟨rfl, rfl, rfl, by simp, fun k _ hk => heap_setCell_other w ⟨R, 1, none⟩ k _ (fun e => hk (by simp [e]))⟩⟩
  · rw [heap_setCell_same w R 1 _ _ _ h.box]; rfl
  · rw [heap_setCell_other w ⟨R, 1, none⟩ G _ (by have := h.ne; simpa using this)]; exact hc
theorem Rr.setErr {w : World} {R G : Nat} {zs : List Int} {p : Nat} {e : Int} (h : Rr w R G zs p e) (e' : Int) :
    Rr (w.setCell ⟨R, 2, none⟩ (.int .i64 e')) R G zs p e' ∧ w.grownBy (w.setCell ⟨R, 2, none⟩ (.int .i64 e')) (some R) := by
  obtain ⟨cur, hc, hs, hr⟩ := h.row
  refine ⟨⟨h.ne, h.le, h.max, ?_, cur, ?_, hs, hr⟩, ⟨rfl, rfl, rfl, by simp, fun k _ hk => heap_setCell_other w ⟨R, 2, none⟩ k _ (fun e => hk (by simp [e]))⟩⟩
  · rw [heap_setCell_same w R 2 _ _ _ h.box]; rfl
  · rw [heap_setCell_other w ⟨R, 2, none⟩ G _ (by have := h.ne; simpa using this)]; exact hc


set_option maxHeartbeats 400000 in
theorem refNew_any (ao : Option Addr) (n cap : Nat) (zs : List Int) (w : World) (hb : Byt w ao n cap zs) (hn : n ≤ 1099511627776) :
    Calls Tryd.prog 37 #[.slice ao n cap] w fun e w' => ∃ R, e = .returned (.pointer (some ⟨R, 0, none⟩)) ∧ Rr w' R w.heap.size zs 0 0 ∧ w.grownBy w' none ∧ w.heap.size < R := by
  have HL : Hid (zs.length = n) := hb.len
  go_enter Tryd.func37, Tryd.ntmps37
  go_wp2_with fail
  refine (refBytes_any ao n cap zs _ hb (by omega)).mono ?_
  rintro e w0 ⟨rfl, hown, hg, hs⟩
  clear hb
  go_wp2
  go_ret
  refine ⟨w0.heap.size, rfl, ?_, ?_, hs⟩
  · have hl := HL.out
    rcases hown.2 with ⟨h', _⟩ | ⟨g', cap', cur, h', _, hgg, hnc, _, hcs, htake⟩
    · simp at h'
    · simp only [Value.slice.injEq, Option.some.injEq, Addr.mk.injEq, and_true, true_and] at h'
      obtain ⟨rfl, rfl⟩ := h'
      have hne : w.heap.size ≠ w0.heap.size := by omega
      refine ⟨hne, Nat.zero_le _, by omega, ?_, cur, ?_, by simp at hcs; omega, fun i _ hi => ?_⟩
      · rw [heap_alloc_new]; rw [hl]; rfl
      · rw [Below.heap_alloc _ _ _ (by omega)]; exact hgg
      · have hc := congrArg (fun l : List Value => l[i]?) htake
        simp only [Nat.mul_one, List.getElem?_take] at hc
        rw [if_pos (by omega)] at hc
        rw [← Array.getElem?_toList, hc]
        simp [List.getD, List.getElem?_eq_getElem hi]
  · exact grown_trans hg (World.grownBy_alloc _ _ _)

set_option maxHeartbeats 400000 in
theorem rnum_broken (R G : Nat) (zs : List Int) (p : Nat) (e d : Int) (w : World) (h : Rr w R G zs p e) (he : (e == 0) = false) :
    Calls Tryd.prog 40 #[.pointer (some ⟨R, 0, none⟩), .int .i64 d] w fun en w' => en = .returned (.int .u64 0) ∧ w' = w := by
  obtain ⟨c0, c1, c2, f1, f2⟩ := h.cells
  have he' : (e != 0) = true := by simpa using he
  clear h
  go_enter Tryd.func40, Tryd.ntmps40
  go_wp2
  go_ret
  exact ⟨rfl, rfl⟩

set_option maxHeartbeats 400000 in
theorem rnum_short (R G : Nat) (zs : List Int) (p d : Nat) (w : World) (h : Rr w R G zs p 0) (hd : d ≤ 8) (hs : zs.length < p + d) :
    Calls Tryd.prog 40 #[.pointer (some ⟨R, 0, none⟩), .int .i64 d] w fun en w' => en = .returned (.int .u64 0) ∧ Rr w' R G zs p 10 ∧ w.grownBy w' (some R) := by
  have HR : Hid (Rr w R G zs p 0) := h
  obtain ⟨c0, c1, c2, f1, f2⟩ := h.cells
  have h1 := h.le
  have h2 := h.max
  have hp : (p : Int) ≤ (zs.length : Int) := by omega
  clear h
  go_enter Tryd.func40, Tryd.ntmps40
  go_wp2
  go_quiet (fail)
  go_wp2
  go_ret
  obtain ⟨r1, r2⟩ := (HR.out.qt (Qt.drewN w nq)).setErr 10
  exact ⟨rfl, r1, grown_trans ((Qt.drewN _ _).grown _) r2⟩

theorem le_at (k : Nat) (ys : List Int) (j : Nat) (h : j < ys.length) : le (k + 1) (ys.drop j) = (ys.getD j 0).toNat + 256 * le k (ys.drop (j + 1)) := by
  rw [List.drop_eq_getElem_cons h, le]
  simp [List.getD, List.getElem?_eq_getElem h]

theorem or_low (X z : Nat) (k : Nat) (hX : X < 2 ^ (64 - k)) (hz : z < 2 ^ k) (hk : k ≤ 64) : bits BinOp.or IntKind.u64 ((X : Int) * ((2 ^ k : Nat) : Int)) (z : Int) = ((X * 2 ^ k + z : Nat) : Int) := by
  have h1 : X * 2 ^ k < 2 ^ (64 - k) * 2 ^ k := Nat.mul_lt_mul_of_pos_right hX (Nat.pos_of_ne_zero (by simp))
  rw [← Nat.pow_add, show 64 - k + k = 64 by omega] at h1
  have hz64 : z < 18446744073709551616 := by
    have : 2 ^ k ≤ 2 ^ 64 := Nat.pow_le_pow_right (by omega) hk
    omega
  rw [← Int.natCast_mul, u64_or_nat _ _ (by omega) hz64, nat_join k _ _ (Nat.mul_mod_left _ _) hz]

set_option maxHeartbeats 1000000 in
set_option maxRecDepth 100000 in
theorem rnum_ok (R G : Nat) (zs : List Int) (p d : Nat) (w : World) (h : Rr w R G zs p 0) (hbt : Bt zs) (hd : d ≤ 8) (hs : p + d ≤ zs.length) :
    Calls Tryd.prog 40 #[.pointer (some ⟨R, 0, none⟩), .int .i64 d] w fun en w' => en = .returned (.int .u64 (le d (zs.drop p) : Nat)) ∧ Rr w' R G zs (p + d) 0 ∧ w.grownBy w' (some R) := by
  have HR : Hid (Rr w R G zs p 0) := h
  obtain ⟨c0, c1, c2, f1, f2⟩ := h.cells
  have h1 := h.le
  have h2 := h.max
  have hp : (p : Int) ≤ (zs.length : Int) := by omega
  have HBY : Hid (∀ i, p ≤ i → i < zs.length → w.cell? ⟨G, i, none⟩ = some (.int .u8 (zs.getD i 0))) := h.bytes
  have HB : Hid (Bt zs) := hbt
  clear h hbt
  go_enter Tryd.func40, Tryd.ntmps40
  go_wp2
  go_quiet (fail)
  go_wp2
  go_loopw [5, 6] (fun sx si wr => ∃ k X : Nat, k ≤ d ∧ si = .int .i64 ((k : Int) - 1) ∧ sx = .int .u64 (X : Nat) ∧ X = le (d - k) (zs.drop (p + k)) ∧ ∃ m, wr = w.drewN m) (fun _ si _ => (intOf si + 1).toNat)
  case atStart => exact ⟨d, 0, Nat.le_refl _, rfl, rfl, by rw [Nat.sub_self]; rfl, _, rfl⟩
  case round =>
    obtain ⟨k, X0, hk, rfl, rfl, hX, m, rfl⟩ := hrel
    have HX := hid_intro hX
    clear hX
    rcases k with _ | j
    · go_wp2
      go_ret
      obtain ⟨r1, r2⟩ := (HR.out.qt (Qt.drewN w m)).setPlace (p + d) ((p : Int) + (d : Int)) (by omega) (by omega) (by omega)
      have e : X0 = le d (zs.drop p) := HX.out
      rw [← e]
      exact ⟨rfl, r1, grown_trans ((Qt.drewN _ _).grown _) r2⟩
    · have hX56 : X0 < 72057594037927936 := by
        rw [HX.out]
        have h3 := le_lt (d - (j + 1)) (zs.drop (p + (j + 1))) (HB.out.drop _)
        have h4 : 256 ^ (d - (j + 1)) ≤ 256 ^ 7 := Nat.pow_le_pow_right (by omega) (by omega)
        omega
      obtain ⟨z, hz⟩ : ∃ z, z = zs.getD (p + j) 0 := ⟨_, rfl⟩
      have hcell : w.cell? ⟨G, p + j, none⟩ = some (.int .u8 z) := by rw [hz]; exact HBY.out (p + j) (by omega) (by omega)
      obtain ⟨hz0, hz1⟩ : 0 ≤ z ∧ z ≤ 255 := by rw [hz]; exact HB.out.getD _
      have HZ := hid_intro hz
      clear hz
      have hor : bits BinOp.or IntKind.u64 ((X0 : Int) * 256) z = ((X0 * 256 + z.toNat : Nat) : Int) := by
        have := or_low X0 z.toNat 8 (by omega) (by omega) (by omega)
        rw [Int.toNat_of_nonneg hz0] at this
        exact this
      have HOR := hid_intro hor
      clear hor
      rw [show ((j + 1 : Nat) : Int) - 1 = (j : Int) by omega]
      go_wp2
      go_quiet (fail)
      go_wp2
      go_roundw
      case rel =>
        refine ⟨j, X0 * 256 + z.toNat, by omega, by go_num, by rw [← HOR.out], ?_, _, rfl⟩
        rw [show d - j = (d - (j + 1)) + 1 by omega, le_at _ _ _ (by omega), ← HZ.out, HX.out, Nat.add_assoc p j 1]
        omega
      case measure => simp [intOf]
end Go.Proofs.YtjbigfnggelceaaDoor
