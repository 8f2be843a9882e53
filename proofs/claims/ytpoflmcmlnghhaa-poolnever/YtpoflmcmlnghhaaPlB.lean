import Derived.Test.YtpoflmcmlnghhaaPlM
import Derived.Laws.AppendOwnNone
import Derived.Laws.CopyOwn
import Derived.Deep.RegionHeld3
import Derived.Deep.Cut
import Derived.Deep.CutBlock
namespace Go.Proofs.Ytpoflmcmlnghhaa
open Go.RowKit Go.Maps

/-- Nothing but draws. -/
structure Qt (w w' : World) : Prop where
  os : w'.os = w.os
  tape : w'.tape = w.tape
  output : w'.output = w.output
  heap : w'.heap = w.heap

theorem Qt.refl (w : World) : Qt w w := ⟨rfl, rfl, rfl, rfl⟩
theorem Qt.drew {w w' : World} (h : Qt w w') : Qt w w'.drew := ⟨h.os, h.tape, h.output, h.heap⟩
theorem Qt.trans {a b c : World} (h : Qt a b) (k : Qt b c) : Qt a c := ⟨k.os.trans h.os, k.tape.trans h.tape, k.output.trans h.output, k.heap.trans h.heap⟩
theorem Qt.grown {w w' : World} (h : Qt w w') (row : Option Nat) : w.grownBy w' row := ⟨h.os, h.tape, h.output, by rw [h.heap]; exact Nat.le_refl _, fun _ _ _ => by rw [h.heap]⟩
theorem Qt.cell {w w' : World} (h : Qt w w') (a : Addr) : w'.cell? a = w.cell? a := World.cell?_of_block (by rw [h.heap])

theorem grown_trans {a b c : World} {row : Option Nat} (h : a.grownBy b row) (k : b.grownBy c row) : a.grownBy c row :=
  ⟨k.os.trans h.os, k.tape.trans h.tape, k.output.trans h.output, Nat.le_trans h.size k.size, fun i hi hne => (k.block i (Nat.lt_of_lt_of_le hi h.size) hne).trans (h.block i hi hne)⟩

theorem grown_any {a b : World} {row : Option Nat} (h : a.grownBy b none) : a.grownBy b row := ⟨h.os, h.tape, h.output, h.size, fun i hi _ => h.block i hi (by simp)⟩

theorem Qt.drewN (w : World) (n : Nat) : Qt w (w.drewN n) := ⟨rfl, rfl, rfl, rfl⟩
theorem hid_intro {p : Prop} (h : p) : Hid p := h
theorem ret_true {b : Bool} (h : b = true) : Ending.returned (.bool b) = .returned (.bool true) := by rw [h]

theorem grown_new {a b c : World} {R : Nat} (h : a.grownBy b none) (k : b.grownBy c (some R)) (hR : a.heap.size ≤ R) : a.grownBy c none :=
  ⟨k.os.trans h.os, k.tape.trans h.tape, k.output.trans h.output, Nat.le_trans h.size k.size,
    fun i hi _ => (k.block i (Nat.lt_of_lt_of_le hi h.size) (by intro e; have := Option.some.inj e; omega)).trans (h.block i hi (by simp))⟩

/-- The slice at a reads in w as the numbers xs. -/
structure Nt (w : World) (a : Option Addr) (xs : List Int) : Prop where
  row : ∀ i, i < xs.length → ∃ b off, a = some ⟨b, off, none⟩ ∧ w.cell? ⟨b, off + i, none⟩ = some (.int .i64 (xs.getD i 0))
theorem Nt.heap {w w' : World} {a : Option Addr} {xs : List Int} (h : Nt w a xs) (e : w'.heap = w.heap) : Nt w' a xs := by
  refine ⟨fun i hi => ?_⟩
  obtain ⟨b, off, h1, h2⟩ := h.row i hi
  exact ⟨b, off, h1, (World.cell?_of_block (by rw [e])).trans h2⟩
theorem Nt.keptN {w w' : World} {a : Option Addr} {xs : List Int} (h : Nt w a xs) (hg : w.grownBy w' none) : Nt w' a xs := by
  refine ⟨fun i hi => ?_⟩
  obtain ⟨b, off, h1, h2⟩ := h.row i hi
  exact ⟨b, off, h1, hg.cell h2 (by simp)⟩
theorem Nt.kept {w w' : World} {row : Option Nat} {a : Option Addr} {xs : List Int} (h : Nt w a xs) (hg : w.grownBy w' row) (hne : ∀ ad, a = some ad → some ad.block ≠ row) : Nt w' a xs := by
  refine ⟨fun i hi => ?_⟩
  obtain ⟨b, off, h1, h2⟩ := h.row i hi
  exact ⟨b, off, h1, hg.cell h2 (hne ⟨b, off, none⟩ h1)⟩
theorem Nt.zero (w : World) (a : Option Addr) : Nt w a [] := ⟨fun i hi => by simp at hi⟩
theorem Nt.at {w : World} {b off : Nat} {xs : List Int} (h : Nt w (some ⟨b, off, none⟩) xs) (i : Nat) (hi : i < xs.length) : w.cell? ⟨b, off + i, none⟩ = some (.int .i64 (xs.getD i 0)) := by
  obtain ⟨b', off', h1, h2⟩ := h.row i hi
  simp only [Option.some.injEq, Addr.mk.injEq] at h1
  obtain ⟨rfl, rfl, _⟩ := h1
  exact h2
theorem Nt.where {w : World} {a : Option Addr} {xs : List Int} (h : Nt w a xs) (h0 : 0 < xs.length) : ∃ b off, a = some ⟨b, off, none⟩ ∧ b < w.heap.size := by
  obtain ⟨b, off, h1, h2⟩ := h.row 0 h0
  exact ⟨b, off, h1, World.block_lt_of_cell? w _ h2⟩
theorem nget_mem {xs : List Int} {i : Nat} (h : i < xs.length) : xs.getD i 0 ∈ xs := by
  simp [List.getD, List.getElem?_eq_getElem h]
theorem nt_of_row {w : World} {x : Addr} {len cap : Nat} {zs : List Int} (hl : len ≤ cap) (hz : zs.length = cap) (hc : ∀ i, i < zs.length → w.cell? (x.add i) = some (.int .i64 (zs.getD i 0))) : Nt w (some x) (zs.take len) := by
  refine ⟨fun i hi => ?_⟩
  rw [List.length_take] at hi
  have h0 := hc 0 (by omega)
  obtain ⟨b, off, spot⟩ := x
  have hs : spot = none := by simpa [Addr.add] using World.cell?_spot h0
  subst hs
  refine ⟨b, off, rfl, ?_⟩
  have := hc i (by omega)
  rw [Addr.add_lit] at this
  rw [this]
  simp [List.getD, show i < len by omega]
theorem own_kept5 {w w' : World} {base sz : Nat} {e : TypeId} {v : Value} {n : Nat} {xs : List Value} (h : w.ownsRow base e sz v n xs) (hg : w.grownBy w' none) : w'.ownsRow base e sz v n xs :=
  h.kept hg (by cases v.ownBlock with | none => exact .inl rfl | some g => exact .inr (by simp))

theorem grown_app5 {w wr w' : World} {o : Obj} {base n : Nat} {v : Value} {xs : List Value} {t : TypeId} {sz : Nat} (hg : w.grownBy wr none) (ho : wr.ownsRow base t sz v n xs) (hb : w.heap.size ≤ base) (h : (wr.alloc o).grownBy w' v.ownBlock) : w.grownBy w' none := by
  refine ⟨h.os.trans hg.os, h.tape.trans hg.tape, h.output.trans hg.output, ?_, fun q hq _ => ?_⟩
  · have := h.size; have := hg.size; simp at *; omega
  · have hq2 : q < wr.heap.size := Nat.lt_of_lt_of_le hq hg.size
    rw [h.block q (by simp; omega) (by intro e; have := (ho.lt q e.symm).1; omega), Below.heap_alloc wr _ q hq2]
    exact hg.block q hq (by simp)

theorem info_int : (Try.prog.info? 3).map (fun i => (i.zero, i.size, i.bytes)) = some (some (.int .i64 0), 1, 8) := by kernel_rfl
theorem nget_ext {L M : List Int} (hl : L.length = M.length) (h : ∀ j, j < L.length → L.getD j 0 = M.getD j 0) : L = M := by
  refine List.ext_getElem hl fun j h1 h2 => ?_
  have := h j h1
  simpa [List.getD, List.getElem?_eq_getElem h1, List.getElem?_eq_getElem h2] using this
set_option maxHeartbeats 1000000 in
set_option maxRecDepth 100000 in
theorem sameInts_any (a : Option Addr) (n cap : Nat) (L : List Int) (a' : Option Addr) (n' cap' : Nat) (M : List Int) (w : World) (hl : Nt w a L) (hn : L.length = n) (hl' : Nt w a' M) (hn' : M.length = n') (hm : n ≤ 9223372036854775807) :
    Calls Try.prog 26 #[.slice a n cap, .slice a' n' cap'] w fun en w' => (∃ b, en = .returned (.bool b) ∧ (b = true ↔ L = M)) ∧ Qt w w' := by
  have HL := hid_intro hl
  have HM := hid_intro hl'
  clear hl hl'
  by_cases h1 : n = n'
  · subst h1
    go_enter Try.func26, Try.ntmps26
    go_wp2
    go_loopw [5] (fun si wr => ∃ i : Nat, i ≤ n ∧ si = .int .i64 i ∧ (∀ j, j < i → L.getD j 0 = M.getD j 0) ∧ Qt w wr) (fun si _ => n - (intOf si).toNat)
    case atStart => exact ⟨0, Nat.zero_le _, rfl, fun j hj => by omega, Qt.refl _⟩
    case round =>
      obtain ⟨i, hi, rfl, ha, hq⟩ := hrel
      have HA := hid_intro ha
      have HQ := hid_intro hq
      clear ha hq
      by_cases hlt : i < n
      · obtain ⟨b1, off, rfl, q2⟩ := HL.out.row i (by omega)
        obtain ⟨b2, off2, rfl, r2⟩ := HM.out.row i (by omega)
        have c0 := (HQ.out.cell _).trans q2
        have c1 := (HQ.out.cell _).trans r2
        have g1 : (i : Int) < (n : Int) := by omega
        have g0 : (0 : Int) ≤ (i : Int) := by omega
        have HX : Hid (L.getD i 0 = M.getD i 0 → ∀ j, j < i + 1 → L.getD j 0 = M.getD j 0) := by
          intro he j hj
          by_cases e : j = i
          · subst e; exact he
          · exact HA.out j (by omega)
        have HY : Hid (¬ L.getD i 0 = M.getD i 0 → ¬ L = M) := fun he e => he (by rw [e])
        clear q2 r2
        generalize L.getD i 0 = u at *
        generalize M.getD i 0 = v at *
        by_cases he : u = v
        · have HX1 := hid_intro (HX.out he)
          have h2 : (u == v) = true := by simp [he]
          clear HX HY
          subst he
          go_wp2
          go_quiet (fail)
          go_wp2
          go_roundw
          case rel => exact ⟨i + 1, by omega, by go_num, HX1.out, HQ.out.trans (Qt.drewN _ _)⟩
          case measure => simp [intOf]; omega
        · have HY1 := hid_intro (HY.out he)
          have h2 : (u == v) = false := by simp [he]
          clear HX HY
          go_wp2
          go_quiet (fail)
          go_wp2
          go_ret
          exact ⟨⟨false, rfl, by simp [HY1.out]⟩, HQ.out.trans (Qt.drewN _ _)⟩
      · have hin : i = n := by omega
        subst hin
        have HT : Hid (L = M) := nget_ext (by omega) (fun j hj => HA.out j (by omega))
        go_wp2
        go_ret
        exact ⟨⟨true, rfl, by simp [HT.out]⟩, HQ.out⟩
  · have HX1 : Hid (¬ L = M) := fun e => h1 (by rw [← hn, ← hn', e])
    have h1' : ¬ (n : Int) = (n' : Int) := by omega
    go_enter Try.func26, Try.ntmps26
    go_wp2
    go_ret
    exact ⟨⟨false, rfl, by simp [HX1.out]⟩, Qt.refl _⟩

set_option maxHeartbeats 400000 in
theorem num17_any (n : Int) (w : World) : Calls Try.prog 27 #[.int .i64 n] w fun en w' => en = .returned (.int .i64 n) ∧ w' = w := by
  go_enter Try.func27, Try.ntmps27
  go_wp2
  go_ret
  exact ⟨rfl, rfl⟩

end Go.Proofs.Ytpoflmcmlnghhaa
