import Derived.Test.YtlhjociijkhimaaGreatDoorW1
import Derived.Test.YtlhjociijkhimaaGreatDoorBits
namespace Go.Proofs.YtlhjociijkhimaaGreatDoor
open Go.RowKit

/-- Nothing but draws. -/
structure Qt (w w' : World) : Prop where
  os : w'.os = w.os
  tape : w'.tape = w.tape
  output : w'.output = w.output
  heap : w'.heap = w.heap

theorem Qt.refl (w : World) : Qt w w := ⟨rfl, rfl, rfl, rfl⟩
theorem Qt.drew {w w' : World} (h : Qt w w') : Qt w w'.drew := ⟨h.os, h.tape, h.output, h.heap⟩
theorem Qt.trans {a b c : World} (h : Qt a b) (k : Qt b c) : Qt a c := ⟨k.os.trans h.os, k.tape.trans h.tape, k.output.trans h.output, k.heap.trans h.heap⟩
theorem Qt.grown {w w' : World} (h : Qt w w') (row : Option Nat) : w.grownBy w' row := ⟨h.os, h.tape, h.output, by rw [h.heap]; exact Nat.le_refl _, fun _ _ _ => by rw [h.heap]⟩
theorem Qt.cell {w w' : World} (h : Qt w w') (a : Addr) : w'.cell? a = w.cell? a := World.cell?_of_block (by rw [h.heap])

theorem grown_trans {a b c : World} {row : Option Nat} (h : a.grownBy b row) (k : b.grownBy c row) : a.grownBy c row :=
  ⟨k.os.trans h.os, k.tape.trans h.tape, k.output.trans h.output, Nat.le_trans h.size k.size, fun i hi hne => (k.block i (Nat.lt_of_lt_of_le hi h.size) hne).trans (h.block i hi hne)⟩

theorem grown_any {a b : World} {row : Option Nat} (h : a.grownBy b none) : a.grownBy b row := ⟨h.os, h.tape, h.output, h.size, fun i hi _ => h.block i hi (by simp)⟩

/-- A reader at block R, its bytes in block G: what is left of zs lies from p on; e: its error. -/
structure Rd (w : World) (R G : Nat) (zs : List Int) (p : Nat) (e : Int) : Prop where
  ne : G ≠ R
  le : p ≤ zs.length
  max : zs.length ≤ 1099511627776
  box : w.heap[R]? = some (.cells #[.slice (some ⟨G, 0, none⟩) zs.length zs.length, .int .i64 p, .int .i64 e] 72 (0, 0))
  row : ∃ cur, w.heap[G]? = some (.cells cur 5 (0, 0)) ∧ cur.size = zs.length ∧ ∀ i, p ≤ i → i < zs.length → cur[i]? = some (.int .u8 (zs.getD i 0))

theorem Rd.lt {w : World} {R G : Nat} {zs : List Int} {p : Nat} {e : Int} (h : Rd w R G zs p e) : R < w.heap.size ∧ G < w.heap.size := by
  obtain ⟨cur, hc, _⟩ := h.row
  exact ⟨(Array.getElem?_eq_some_iff.1 h.box).1, (Array.getElem?_eq_some_iff.1 hc).1⟩

theorem Rd.cells {w : World} {R G : Nat} {zs : List Int} {p : Nat} {e : Int} (h : Rd w R G zs p e) :
    w.cell? ⟨R, 0, none⟩ = some (.slice (some ⟨G, 0, none⟩) zs.length zs.length) ∧ w.cell? ⟨R, 1, none⟩ = some (.int .i64 p) ∧ w.cell? ⟨R, 2, none⟩ = some (.int .i64 e) ∧
    w.frozen? ⟨R, 1, none⟩ = false ∧ w.frozen? ⟨R, 2, none⟩ = false := by
  have hr := h.box
  refine ⟨?_, ?_, ?_, frozen_of_row w R 1 _ _ hr, frozen_of_row w R 2 _ _ hr⟩
  · rw [cell_of_row w R 0 _ _ _ hr]; rfl
  · rw [cell_of_row w R 1 _ _ _ hr]; rfl
  · rw [cell_of_row w R 2 _ _ _ hr]; rfl

theorem Rd.kept {w w' : World} {R G : Nat} {zs : List Int} {p : Nat} {e : Int} {row : Option Nat} (h : Rd w R G zs p e) (hg : w.grownBy w' row) (h1 : some R ≠ row) (h2 : some G ≠ row) : Rd w' R G zs p e := by
  obtain ⟨cur, hc, hr⟩ := h.row
  have hl := h.lt
  exact ⟨h.ne, h.le, h.max, (hg.block R hl.1 h1).trans h.box, cur, (hg.block G hl.2 h2).trans hc, hr⟩

theorem Rd.qt {w w' : World} {R G : Nat} {zs : List Int} {p : Nat} {e : Int} (h : Rd w R G zs p e) (hq : Qt w w') : Rd w' R G zs p e := h.kept (hq.grown none) (by simp) (by simp)

theorem Rd.bytes {w : World} {R G : Nat} {zs : List Int} {p : Nat} {e : Int} (h : Rd w R G zs p e) : ∀ i, p ≤ i → i < zs.length → w.cell? ⟨G, i, none⟩ = some (.int .u8 (zs.getD i 0)) := by
  obtain ⟨cur, hc, hs, hr⟩ := h.row
  intro i h1 h2
  rw [cell_of_row w G i _ _ _ hc]; exact hr i h1 h2

/-- What is left, as a slice. -/
theorem Rd.rest {w : World} {R G : Nat} {zs : List Int} {p : Nat} {e : Int} (h : Rd w R G zs p e) (m c : Nat) (hm : p + m ≤ zs.length) : Byt w (some ⟨G, p, none⟩) m c ((zs.drop p).take m) := by
  refine Byt.of_cells (by simp; omega) fun i hi => ?_
  rw [h.bytes (p + i) (by omega) (by omega)]
  simp [List.getD, hi]

/-- The place, the error set. -/
theorem Rd.setPlace {w : World} {R G : Nat} {zs : List Int} {p : Nat} {e : Int} (h : Rd w R G zs p e) (q : Nat) (v : Int) (hv : v = (q : Int)) (h1 : p ≤ q) (h2 : q ≤ zs.length) :
    Rd (w.setCell ⟨R, 1, none⟩ (.int .i64 v)) R G zs q e ∧ w.grownBy (w.setCell ⟨R, 1, none⟩ (.int .i64 v)) (some R) := by
  subst hv
  obtain ⟨cur, hc, hs, hr⟩ := h.row
  refine ⟨⟨h.ne, h2, h.max, ?_, cur, ?_, hs, fun i a b => hr i (by omega) b⟩, ⟨rfl, rfl, rfl, by simp, fun k _ hk => heap_setCell_other w ⟨R, 1, none⟩ k _ (fun e => hk (by simp [e]))⟩⟩
  · rw [heap_setCell_same w R 1 _ _ _ h.box]; rfl
  · rw [heap_setCell_other w ⟨R, 1, none⟩ G _ (by have := h.ne; simpa using this)]; exact hc
theorem Rd.setErr {w : World} {R G : Nat} {zs : List Int} {p : Nat} {e : Int} (h : Rd w R G zs p e) (e' : Int) :
    Rd (w.setCell ⟨R, 2, none⟩ (.int .i64 e')) R G zs p e' ∧ w.grownBy (w.setCell ⟨R, 2, none⟩ (.int .i64 e')) (some R) := by
  obtain ⟨cur, hc, hs, hr⟩ := h.row
  refine ⟨⟨h.ne, h.le, h.max, ?_, cur, ?_, hs, hr⟩, ⟨rfl, rfl, rfl, by simp, fun k _ hk => heap_setCell_other w ⟨R, 2, none⟩ k _ (fun e => hk (by simp [e]))⟩⟩
  · rw [heap_setCell_same w R 2 _ _ _ h.box]; rfl
  · rw [heap_setCell_other w ⟨R, 2, none⟩ G _ (by have := h.ne; simpa using this)]; exact hc

theorem Qt.drewN (w : World) (n : Nat) : Qt w (w.drewN n) := ⟨rfl, rfl, rfl, rfl⟩

set_option maxHeartbeats 400000 in
theorem newReader_any (ao : Option Addr) (n cap : Nat) (zs : List Int) (w : World) (hb : Byt w ao n cap zs) (hn : n ≤ 1099511627776) :
    Calls Tryz.prog 17 #[.slice ao n cap] w fun e w' => ∃ R, e = .returned (.pointer (some ⟨R, 0, none⟩)) ∧ Rd w' R w.heap.size zs 0 0 ∧ w.grownBy w' none ∧ w.heap.size < R := by
  have HL : Hid (zs.length = n) := hb.len
  go_enter Tryz.func17, Tryz.ntmps17
  go_wp2_with fail
  refine (copy_any ao n cap zs 0 _ hb (by omega) (by omega)).mono ?_
  rintro e w0 ⟨rfl, hown, hg, hs⟩
  clear hb
  go_wp2
  go_ret
  refine ⟨w0.heap.size, rfl, ?_, ?_, hs⟩
  · have hl := HL.out
    have hown' := hown
    rcases hown.2 with ⟨h', _⟩ | ⟨g', cap', cur, h', _, hgg, hnc, _, hcs, htake⟩
    · simp at h'
    · simp only [Value.slice.injEq, Option.some.injEq, Addr.mk.injEq, and_true, true_and] at h'
      obtain ⟨rfl, rfl⟩ := h'
      have hne : w.heap.size ≠ w0.heap.size := by omega
      refine ⟨hne, Nat.zero_le _, by omega, ?_, cur, ?_, by simp at hcs; omega, fun i _ hi => ?_⟩
      · rw [heap_alloc_new]; rw [hl]; rfl
      · rw [Below.heap_alloc _ _ _ (by omega)]; exact hgg
      · have hc := congrArg (fun l : List Value => l[i]?) htake
        simp only [Nat.mul_one, List.getElem?_take] at hc
        rw [if_pos (by omega)] at hc
        rw [← Array.getElem?_toList, hc]
        simp [List.getD, List.getElem?_eq_getElem hi]
  · exact grown_trans hg (World.grownBy_alloc _ _ _)

set_option maxHeartbeats 400000 in
theorem breakBy_whole (R G : Nat) (zs : List Int) (p : Nat) (e' : Int) (w : World) (h : Rd w R G zs p 0) :
    Calls Tryz.prog 33 #[.pointer (some ⟨R, 0, none⟩), .int .i64 e'] w fun en w' => en = .returned (.tuple #[]) ∧ Rd w' R G zs p e' ∧ w.grownBy w' (some R) := by
  obtain ⟨c0, c1, c2, f1, f2⟩ := h.cells
  have HR : Hid (Rd w R G zs p 0) := h
  clear h
  go_enter Tryz.func33, Tryz.ntmps33
  go_wp2
  go_end0
  have := HR.out.setErr e'
  exact ⟨rfl, this.1, this.2⟩

set_option maxHeartbeats 400000 in
theorem breakBy_broken (R G : Nat) (zs : List Int) (p : Nat) (e e' : Int) (w : World) (h : Rd w R G zs p e) (he : (e == 0) = false) :
    Calls Tryz.prog 33 #[.pointer (some ⟨R, 0, none⟩), .int .i64 e'] w fun en w' => en = .returned (.tuple #[]) ∧ w' = w := by
  obtain ⟨c0, c1, c2, f1, f2⟩ := h.cells
  clear h
  go_enter Tryz.func33, Tryz.ntmps33
  go_wp2
  go_end0
  exact ⟨rfl, rfl⟩

set_option maxHeartbeats 400000 in
theorem rest_broken (R G : Nat) (zs : List Int) (p : Nat) (e : Int) (w : World) (h : Rd w R G zs p e) (he : (e == 0) = false) :
    Calls Tryz.prog 93 #[.pointer (some ⟨R, 0, none⟩)] w fun en w' => en = .returned (.slice none 0 0) ∧ Qt w w' := by
  obtain ⟨c0, c1, c2, f1, f2⟩ := h.cells
  have he' : (e != 0) = true := by simpa using he
  clear h
  go_enter Tryz.func93, Tryz.ntmps93
  go_wp2
  go_ret
  exact ⟨rfl, Qt.refl _⟩

set_option maxHeartbeats 400000 in
theorem rest_whole (R G : Nat) (zs : List Int) (p : Nat) (w : World) (h : Rd w R G zs p 0) :
    Calls Tryz.prog 93 #[.pointer (some ⟨R, 0, none⟩)] w fun en w' => ∃ ao, en = .returned (.slice ao (zs.length - p) (zs.length - p)) ∧ (p < zs.length → ao = some ⟨G, p, none⟩) ∧ Qt w w' := by
  obtain ⟨c0, c1, c2, f1, f2⟩ := h.cells
  have h1 := h.le
  have h2 := h.max
  have hp : (p : Int) ≤ (zs.length : Int) := by omega
  clear h
  go_enter Tryz.func93, Tryz.ntmps93
  go_wp2
  go_quiet (fail)
  go_wp2
  · go_ret
    exact ⟨⟨_, rfl⟩, Qt.drewN _ _⟩
  · go_ret
    exact ⟨_, rfl, fun _ => rfl, Qt.drewN _ _⟩

set_option maxHeartbeats 400000 in
theorem left_broken (R G : Nat) (zs : List Int) (p : Nat) (e : Int) (w : World) (h : Rd w R G zs p e) (he : (e == 0) = false) :
    Calls Tryz.prog 32 #[.pointer (some ⟨R, 0, none⟩)] w fun en w' => en = .returned (.int .i64 0) ∧ Qt w w' := by
  go_enter Tryz.func32, Tryz.ntmps32
  go_wp2_with fail
  refine (rest_broken R G zs p e _ h he).mono ?_
  rintro e w' ⟨rfl, hq⟩
  clear h
  go_wp2
  go_ret
  exact ⟨rfl, hq⟩

set_option maxHeartbeats 400000 in
theorem left_whole (R G : Nat) (zs : List Int) (p : Nat) (w : World) (h : Rd w R G zs p 0) :
    Calls Tryz.prog 32 #[.pointer (some ⟨R, 0, none⟩)] w fun en w' => en = .returned (.int .i64 ((zs.length - p : Nat) : Int)) ∧ Qt w w' := by
  go_enter Tryz.func32, Tryz.ntmps32
  go_wp2_with fail
  refine (rest_whole R G zs p _ h).mono ?_
  rintro e w' ⟨ao, rfl, hao, hq⟩
  clear h hao
  go_wp2
  go_ret
  exact ⟨rfl, hq⟩

set_option maxHeartbeats 400000 in
/-- Bytes of a whole reader, as many as there are. -/
theorem bytes_ok (R G : Nat) (zs : List Int) (p m : Nat) (w : World) (h : Rd w R G zs p 0) (hm : p + m ≤ zs.length) :
    Calls Tryz.prog 19 #[.pointer (some ⟨R, 0, none⟩), .int .i64 m] w fun en w' => ∃ ao, en = .returned (.slice ao m m) ∧ (0 < m → ao = some ⟨G, p, none⟩) ∧ Byt w' ao m m ((zs.drop p).take m) ∧ Rd w' R G zs (p + m) 0 ∧ w.grownBy w' (some R) := by
  have HR : Hid (Rd w R G zs p 0) := h
  have h2 := h.max
  clear h
  go_enter Tryz.func19, Tryz.ntmps19
  go_wp2_with fail
  refine (left_whole R G zs p _ HR.out).mono ?_
  rintro e w1 ⟨rfl, hq⟩
  have HR1 : Hid (Rd w1 R G zs p 0) := HR.out.qt hq
  have HQ : Hid (Qt w w1) := hq
  obtain ⟨c0, c1, c2, f1, f2⟩ := HR1.out.cells
  clear hq
  go_wp2
  go_quiet (fail)
  go_wp2
  · go_ret
    have hm0 : m = 0 := by omega
    subst hm0
    obtain ⟨r1, r2⟩ := (HR1.out.qt (Qt.drewN w1 nq)).setPlace p ((p : Int) + ((0 : Nat) : Int)) (by omega) (by omega) (by omega)
    exact ⟨_, rfl, fun h => by omega, ⟨by simp, (fun h => by cases h), (fun _ _ j u hu => by simp at hu)⟩, r1, grown_trans (HQ.out.grown _) (grown_trans ((Qt.drewN _ _).grown _) r2)⟩
  · go_ret
    obtain ⟨r1, r2⟩ := (HR1.out.qt (Qt.drewN w1 nq)).setPlace (p + m) ((p : Int) + (m : Int)) (by omega) (by omega) (by omega)
    refine ⟨_, rfl, fun h => rfl, ?_, r1, grown_trans (HQ.out.grown _) (grown_trans ((Qt.drewN _ _).grown _) r2)⟩
    refine ((HR1.out.qt (Qt.drewN w1 nq)).rest m m hm).kept r2 ?_
    intro ad had _ e
    obtain rfl := Option.some.inj had
    exact HR1.out.ne (Option.some.inj e)

set_option maxHeartbeats 400000 in
/-- Bytes of a whole reader, more than there are: it breaks. -/
theorem bytes_short (R G : Nat) (zs : List Int) (p : Nat) (m : Int) (w : World) (h : Rd w R G zs p 0) (hm : (zs.length : Int) - p < m) :
    Calls Tryz.prog 19 #[.pointer (some ⟨R, 0, none⟩), .int .i64 m] w fun en w' => en = .returned (.slice none 0 0) ∧ Rd w' R G zs p 10 ∧ w.grownBy w' (some R) := by
  have HR : Hid (Rd w R G zs p 0) := h
  have h2 := h.max
  have h1 := h.le
  clear h
  have hm0 : 0 ≤ m := by omega
  go_enter Tryz.func19, Tryz.ntmps19
  go_wp2_with fail
  refine (left_whole R G zs p _ HR.out).mono ?_
  rintro e w1 ⟨rfl, hq⟩
  have HR1 : Hid (Rd w1 R G zs p 0) := HR.out.qt hq
  have HQ : Hid (Qt w w1) := hq
  have hl : ((zs.length - p : Nat) : Int) < m := by omega
  clear hq
  go_wp2_with fail
  refine (breakBy_whole R G zs p 10 _ HR1.out).mono ?_
  rintro e w2 ⟨rfl, hr, hg⟩
  have HR2 : Hid (Rd w2 R G zs p 10) := hr
  have HG2 : Hid (w1.grownBy w2 (some R)) := hg
  clear hr hg
  go_wp2
  go_ret
  exact ⟨rfl, HR2.out, grown_trans (HQ.out.grown _) HG2.out⟩

set_option maxHeartbeats 400000 in
theorem bytes_neg (R G : Nat) (zs : List Int) (p : Nat) (m : Int) (w : World) (h : Rd w R G zs p 0) (hm : m < 0) :
    Calls Tryz.prog 19 #[.pointer (some ⟨R, 0, none⟩), .int .i64 m] w fun en w' => en = .returned (.slice none 0 0) ∧ Rd w' R G zs p 10 ∧ w.grownBy w' (some R) := by
  have HR : Hid (Rd w R G zs p 0) := h
  clear h
  go_enter Tryz.func19, Tryz.ntmps19
  go_wp2_with fail
  refine (breakBy_whole R G zs p 10 _ HR.out).mono ?_
  rintro e w2 ⟨rfl, hr, hg⟩
  have HR2 : Hid (Rd w2 R G zs p 10) := hr
  have HG2 : Hid (w.grownBy w2 (some R)) := hg
  clear hr hg
  go_wp2
  go_ret
  exact ⟨rfl, HR2.out, HG2.out⟩

set_option maxHeartbeats 400000 in
/-- Bytes of a broken reader: no bytes; it stays as it is. -/
theorem bytes_broken (R G : Nat) (zs : List Int) (p : Nat) (e m : Int) (w : World) (h : Rd w R G zs p e) (he : (e == 0) = false) :
    Calls Tryz.prog 19 #[.pointer (some ⟨R, 0, none⟩), .int .i64 m] w fun en w' => ∃ ao, en = .returned (.slice ao 0 0) ∧ Rd w' R G zs p e ∧ w.grownBy w' (some R) := by
  have HR : Hid (Rd w R G zs p e) := h
  have h2 := h.max
  have h1 := h.le
  clear h
  rcases Int.lt_trichotomy m 0 with hm | hm | hm
  · go_enter Tryz.func19, Tryz.ntmps19
    go_wp2_with fail
    refine (breakBy_broken R G zs p e 10 _ HR.out he).mono ?_
    rintro en w2 ⟨rfl, rfl⟩
    go_wp2
    go_ret
    exact ⟨_, rfl, HR.out, (Qt.refl _).grown _⟩
  · subst hm
    go_enter Tryz.func19, Tryz.ntmps19
    go_wp2_with fail
    refine (left_broken R G zs p e _ HR.out he).mono ?_
    rintro en w1 ⟨rfl, hq⟩
    have HR1 : Hid (Rd w1 R G zs p e) := HR.out.qt hq
    have HQ : Hid (Qt w w1) := hq
    obtain ⟨c0, c1, c2, f1, f2⟩ := HR1.out.cells
    have hp : (p : Int) ≤ (zs.length : Int) := by omega
    clear hq
    go_wp2
    go_quiet (fail)
    go_wp2
    go_ret
    obtain ⟨r1, r2⟩ := (HR1.out.qt (Qt.drewN w1 nq)).setPlace p (p : Int) rfl (Nat.le_refl _) h1
    exact ⟨_, rfl, r1, grown_trans (HQ.out.grown _) (grown_trans ((Qt.drewN _ _).grown _) r2)⟩
  · go_enter Tryz.func19, Tryz.ntmps19
    go_wp2_with fail
    refine (left_broken R G zs p e _ HR.out he).mono ?_
    rintro en w1 ⟨rfl, hq⟩
    have HR1 : Hid (Rd w1 R G zs p e) := HR.out.qt hq
    have HQ : Hid (Qt w w1) := hq
    clear hq
    go_wp2_with fail
    refine (breakBy_broken R G zs p e 10 _ HR1.out he).mono ?_
    rintro en w2 ⟨rfl, rfl⟩
    go_wp2
    go_ret
    exact ⟨_, rfl, HR1.out, HQ.out.grown _⟩
end Go.Proofs.YtlhjociijkhimaaGreatDoor
