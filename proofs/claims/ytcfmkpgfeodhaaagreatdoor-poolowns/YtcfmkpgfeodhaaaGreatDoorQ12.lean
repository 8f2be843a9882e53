import Derived.Test.YtcfmkpgfeodhaaaGreatDoorQ2
import Derived.Test.YtcfmkpgfeodhaaaGreatDoorQ11
import Derived.Laws.AppendOwnNone
import Derived.Laws.CopyOwn
import Derived.Deep.RegionHeld3
import Derived.Deep.Cut
import Derived.Deep.CutBlock
namespace Go.Proofs.YtcfmkpgfeodhaaaGreatDoor
open Go.RowKit Go.Maps
structure Nt (w : World) (a : Option Addr) (xs : List Int) : Prop where
 row : ∀ i, i < xs.length → ∃ b off, a = some ⟨b, off, none⟩ ∧ w.cell? ⟨b, off + i, none⟩ = some (.int .i64 (xs.getD i 0))
theorem Nt.heap {w w' : World} {a : Option Addr} {xs : List Int} (h : Nt w a xs) (e : w'.heap = w.heap) : Nt w' a xs := by
 refine ⟨fun i hi => ?_⟩
 obtain ⟨b, off, h1, h2⟩ := h.row i hi
 exact ⟨b, off, h1, (World.cell?_of_block (by rw [e])).trans h2⟩
theorem Nt.keptN {w w' : World} {a : Option Addr} {xs : List Int} (h : Nt w a xs) (hg : w.grownBy w' none) : Nt w' a xs := by
 refine ⟨fun i hi => ?_⟩
 obtain ⟨b, off, h1, h2⟩ := h.row i hi
 exact ⟨b, off, h1, hg.cell h2 (by simp)⟩
theorem Nt.kept {w w' : World} {row : Option Nat} {a : Option Addr} {xs : List Int} (h : Nt w a xs) (hg : w.grownBy w' row) (hne : ∀ ad, a = some ad → some ad.block ≠ row) : Nt w' a xs := by
 refine ⟨fun i hi => ?_⟩
 obtain ⟨b, off, h1, h2⟩ := h.row i hi
 exact ⟨b, off, h1, hg.cell h2 (hne ⟨b, off, none⟩ h1)⟩
theorem Nt.zero (w : World) (a : Option Addr) : Nt w a [] := ⟨fun i hi => by simp at hi⟩
theorem Nt.at {w : World} {b off : Nat} {xs : List Int} (h : Nt w (some ⟨b, off, none⟩) xs) (i : Nat) (hi : i < xs.length) : w.cell? ⟨b, off + i, none⟩ = some (.int .i64 (xs.getD i 0)) := by
 obtain ⟨b', off', h1, h2⟩ := h.row i hi
 simp only [Option.some.injEq, Addr.mk.injEq] at h1
 obtain ⟨rfl, rfl, _⟩ := h1
 exact h2
theorem Nt.where {w : World} {a : Option Addr} {xs : List Int} (h : Nt w a xs) (h0 : 0 < xs.length) : ∃ b off, a = some ⟨b, off, none⟩ ∧ b < w.heap.size := by
 obtain ⟨b, off, h1, h2⟩ := h.row 0 h0
 exact ⟨b, off, h1, World.block_lt_of_cell? w _ h2⟩
theorem nget_mem {xs : List Int} {i : Nat} (h : i < xs.length) : xs.getD i 0 ∈ xs := by
 simp [List.getD, List.getElem?_eq_getElem h]
theorem nt_of_row {w : World} {x : Addr} {len cap : Nat} {zs : List Int} (hl : len ≤ cap) (hz : zs.length = cap) (hc : ∀ i, i < zs.length → w.cell? (x.add i) = some (.int .i64 (zs.getD i 0))) : Nt w (some x) (zs.take len) := by
 refine ⟨fun i hi => ?_⟩
 rw [List.length_take] at hi
 have h0 := hc 0 (by omega)
 obtain ⟨b, off, spot⟩ := x
 have hs : spot = none := by simpa [Addr.add] using World.cell?_spot h0
 subst hs
 refine ⟨b, off, rfl, ?_⟩
 have := hc i (by omega)
 rw [Addr.add_lit] at this
 rw [this]
 simp [List.getD, show i < len by omega]
theorem own_kept5 {w w' : World} {base sz : Nat} {e : TypeId} {v : Value} {n : Nat} {xs : List Value} (h : w.ownsRow base e sz v n xs) (hg : w.grownBy w' none) : w'.ownsRow base e sz v n xs :=
 h.kept hg (by cases v.ownBlock with | none => exact .inl rfl | some g => exact .inr (by simp))
theorem grown_app5 {w wr w' : World} {o : Obj} {base n : Nat} {v : Value} {xs : List Value} {t : TypeId} {sz : Nat} (hg : w.grownBy wr none) (ho : wr.ownsRow base t sz v n xs) (hb : w.heap.size ≤ base) (h : (wr.alloc o).grownBy w' v.ownBlock) : w.grownBy w' none := by
 refine ⟨h.os.trans hg.os, h.tape.trans hg.tape, h.output.trans hg.output, ?_, fun q hq _ => ?_⟩
 ·have := h.size; have := hg.size; simp at *; omega
 ·have hq2 : q < wr.heap.size := Nat.lt_of_lt_of_le hq hg.size
  rw [h.block q (by simp; omega) (by intro e; have := (ho.lt q e.symm).1; omega), Below.heap_alloc wr _ q hq2]
  exact hg.block q hq (by simp)
theorem info_int : (Tryz.prog.info? 3).map (fun i => (i.zero, i.size, i.bytes)) = some (some (.int .i64 0), 1, 8) := by kernel_rfl
theorem nget_ext {L M : List Int} (hl : L.length = M.length) (h : ∀ j, j < L.length → L.getD j 0 = M.getD j 0) : L = M := by
 refine List.ext_getElem hl fun j h1 h2 => ?_
 have := h j h1
 simpa [List.getD, List.getElem?_eq_getElem h1, List.getElem?_eq_getElem h2] using this
set_option maxHeartbeats 1000000 in
set_option maxRecDepth 100000 in
theorem sameInts_any (a : Option Addr) (n cap : Nat) (L : List Int) (a' : Option Addr) (n' cap' : Nat) (M : List Int) (w : World) (hl : Nt w a L) (hn : L.length = n) (hl' : Nt w a' M) (hn' : M.length = n') (hm : n ≤ 9223372036854775807) :
  Calls Tryz.prog 16 #[.slice a n cap, .slice a' n' cap'] w fun en w' => (∃ b, en = .returned (.bool b) ∧ (b = true ↔ L = M)) ∧ Qt w w' := by
 have HL := hid_intro hl
 have HM := hid_intro hl'
 clear hl hl'
 by_cases h1 : n = n'
 ·subst h1
  go_enter Tryz.func16, Tryz.ntmps16
  go_wp2
  go_loopw [5] (fun si wr => ∃ i : Nat, i ≤ n ∧ si = .int .i64 i ∧ (∀ j, j < i → L.getD j 0 = M.getD j 0) ∧ Qt w wr) (fun si _ => n - (intOf si).toNat)
  case atStart => exact ⟨0, Nat.zero_le _, rfl, fun j hj => by omega, Qt.refl _⟩
  case round =>
   obtain ⟨i, hi, rfl, ha, hq⟩ := hrel
   have HA := hid_intro ha
   have HQ := hid_intro hq
   clear ha hq
   by_cases hlt : i < n
   ·obtain ⟨b1, off, rfl, q2⟩ := HL.out.row i (by omega)
    obtain ⟨b2, off2, rfl, r2⟩ := HM.out.row i (by omega)
    have c0 := (HQ.out.cell _).trans q2
    have c1 := (HQ.out.cell _).trans r2
    have g1 : (i : Int) < (n : Int) := by omega
    have g0 : (0 : Int) ≤ (i : Int) := by omega
    have HX : Hid (L.getD i 0 = M.getD i 0 → ∀ j, j < i + 1 → L.getD j 0 = M.getD j 0) := by
     intro he j hj
     by_cases e : j = i
     ·subst e; exact he
     ·exact HA.out j (by omega)
    have HY : Hid (¬ L.getD i 0 = M.getD i 0 → ¬ L = M) := fun he e => he (by rw [e])
    clear q2 r2
    generalize L.getD i 0 = u at *
    generalize M.getD i 0 = v at *
    by_cases he : u = v
    ·have HX1 := hid_intro (HX.out he)
     have h2 : (u == v) = true := by simp [he]
     clear HX HY
     subst he
     go_wp2
     go_quiet (fail)
     go_wp2
     go_roundw
     case rel => exact ⟨i + 1, by omega, by go_num, HX1.out, HQ.out.trans (Qt.drewN _ _)⟩
     case measure => simp [intOf]; omega
    ·have HY1 := hid_intro (HY.out he)
     have h2 : (u == v) = false := by simp [he]
     clear HX HY
     go_wp2
     go_quiet (fail)
     go_wp2
     go_ret
     exact ⟨⟨false, rfl, by simp [HY1.out]⟩, HQ.out.trans (Qt.drewN _ _)⟩
   ·have hin : i = n := by omega
    subst hin
    have HT : Hid (L = M) := nget_ext (by omega) (fun j hj => HA.out j (by omega))
    go_wp2
    go_ret
    exact ⟨⟨true, rfl, by simp [HT.out]⟩, HQ.out⟩
 ·have HX1 : Hid (¬ L = M) := fun e => h1 (by rw [← hn, ← hn', e])
  have h1' : ¬ (n : Int) = (n' : Int) := by omega
  go_enter Tryz.func16, Tryz.ntmps16
  go_wp2
  go_ret
  exact ⟨⟨false, rfl, by simp [HX1.out]⟩, Qt.refl _⟩
set_option maxHeartbeats 400000 in
theorem num17_any (n : Int) (w : World) : Calls Tryz.prog 19 #[.int .i64 n] w fun en w' => en = .returned (.int .i64 n) ∧ w' = w := by
 go_enter Tryz.func19, Tryz.ntmps19
 go_wp2
 go_ret
 exact ⟨rfl, rfl⟩
end Go.Proofs.YtcfmkpgfeodhaaaGreatDoor
namespace Go.Proofs.YtcfmkpgfeodhaaaGreatDoor
open Go.RowKit Go.Maps
def Wf (l : List Int) : Prop := ∀ z ∈ l, -9223372036854775808 ≤ z ∧ z ≤ 9223372036854775807
theorem wf64 {z : Int} (h : -9223372036854775808 ≤ z ∧ z ≤ 9223372036854775807) : (Lit.int .i64 z).wf = true := WalkArith.wf_i64 (by omega)
theorem of_wf64 {z : Int} (h : (Lit.int .i64 z).wf = true) : -9223372036854775808 ≤ z ∧ z ≤ 9223372036854775807 := by
 have := bounds_i64 h
 omega
theorem Wf.getD {l : List Int} (h : Wf l) {i : Nat} (hi : i < l.length) : -9223372036854775808 ≤ l.getD i 0 ∧ l.getD i 0 ≤ 9223372036854775807 := h _ (nget_mem hi)
theorem Wf.nil : Wf [] := fun z hz => by simp at hz
theorem Wf.take {a : List Int} (h : Wf a) (n : Nat) : Wf (a.take n) := fun z hz => h z (List.mem_of_mem_take hz)
def rp (last c : Int) : List Int → Bool
 | [] => true
 | x :: r => decide (last < x) && decide (x < c) && rp x c r
theorem rp_iff (last c : Int) (l : List Int) : rp last c l = true ↔ RisZ l ∧ ∀ x ∈ l, last < x ∧ x < c := by
 induction l generalizing last with
 | nil => simp [rp, RisZ]
 | cons x r ih =>
  simp only [rp, Bool.and_eq_true, decide_eq_true_eq, ih, RisZ, List.pairwise_cons, List.mem_cons]
  constructor
  ·rintro ⟨⟨h1, h2⟩, h3, h4⟩
   exact ⟨⟨fun y hy => (h4 y hy).1, h3⟩, fun y hy => hy.elim (fun e => e ▸ ⟨h1, h2⟩) (fun hy => ⟨by have := (h4 y hy).1; omega, (h4 y hy).2⟩)⟩
  ·rintro ⟨⟨h1, h2⟩, h3⟩
   exact ⟨h3 x (.inl rfl), h2, fun y hy => ⟨h1 y hy, (h3 y (.inr hy)).2⟩⟩
theorem drop_cons {L : List Int} {i : Nat} (h : i < L.length) : L.drop i = L.getD i 0 :: L.drop (i + 1) := by
 rw [List.drop_eq_getElem_cons h]
 simp [List.getD, List.getElem?_eq_getElem h]
set_option maxHeartbeats 1000000 in
set_option maxRecDepth 100000 in
theorem rise_any (a : Option Addr) (n cap : Nat) (c : Int) (L : List Int) (w : World) (hl : Nt w a L) (hn : L.length = n) (hm : n ≤ 9223372036854775807) :
  Calls Tryz.prog 21 #[.slice a n cap, .int .i64 c] w fun en w' => en = .returned (.bool (rp 1 c L)) ∧ w' = w := by
 have HL := hid_intro hl
 clear hl
 go_enter Tryz.func21, Tryz.ntmps21
 go_wp2
 go_loopw [5, 7, 10] (fun sl _ si wr => ∃ (i : Nat) (last : Int), i ≤ n ∧ si = .int .i64 i ∧ sl = .int .i64 last ∧ rp 1 c L = rp last c (L.drop i) ∧ wr = w) (fun _ _ si _ => n - (intOf si).toNat)
 case atStart => exact ⟨0, 1, Nat.zero_le _, rfl, rfl, rfl, rfl⟩
 case round =>
  obtain ⟨i, last, hi, rfl, rfl, hr, rfl⟩ := hrel
  have HR := hid_intro hr
  clear hr
  by_cases hlt : i < n
  ·obtain ⟨b, off, rfl, c0⟩ := HL.out.row i (by omega)
   have HR2 : Hid (rp 1 c L = (decide (last < L.getD i 0) && decide (L.getD i 0 < c) && rp (L.getD i 0) c (L.drop (i + 1)))) := by
    show _ = _
    rw [HR.out, drop_cons (by omega)]
    rfl
   clear HR
   generalize L.getD i 0 = x at *
   by_cases h1 : x ≤ last
   ·have HR3 : Hid (rp 1 c L = false) := by
     show _ = _
     rw [HR2.out]
     simp [show ¬ last < x by omega]
    clear HR2
    go_wp2
    go_ret
    first | exact ⟨by rw [HR3.out]; rfl, rfl⟩ | exact ⟨HR3.out, trivial⟩ | simp [HR3.out]
   ·by_cases h2 : c ≤ x
    ·have HR3 : Hid (rp 1 c L = false) := by
      show _ = _
      rw [HR2.out]
      simp [show ¬ x < c by omega]
     clear HR2
     go_wp2
     go_ret
     first | exact ⟨by rw [HR3.out]; rfl, rfl⟩ | exact ⟨HR3.out, trivial⟩ | simp [HR3.out]
    ·have HR3 : Hid (rp 1 c L = rp x c (L.drop (i + 1))) := by
      show _ = _
      rw [HR2.out]
      simp [show last < x by omega, show x < c by omega]
     clear HR2
     go_wp2
     go_roundw
     case rel => exact ⟨i + 1, x, by omega, by go_num, rfl, HR3.out, by trivial⟩
     case measure => simp [intOf]; omega
  ·have hin : i = n := by omega
   subst hin
   have HR3 : Hid (rp 1 c L = true) := by
    show _ = _
    rw [HR.out, List.drop_of_length_le (by omega)]
    rfl
   go_wp2
   go_ret
   first | exact ⟨by rw [HR3.out]; rfl, rfl⟩ | exact ⟨HR3.out, trivial⟩ | simp [HR3.out]
structure Po where
 c : Int
 k : Int
 l : List (Int × Int)
 q : List (Int × Int)
def pcell (p : Po) (s q : Nat) : Array Value := #[.int .i64 p.c, .int .i64 p.k, .map (some s), .map (some q)]
structure Pl (w : World) (B s q : Nat) (p : Po) : Prop where
 bx : w.heap[B]? = some (.cells (pcell p s q) 64 (0, 0))
 ms : Im w s p.l
 mq : Im w q p.q
 ne : s ≠ q
theorem Pl.cell {w : World} {B s q : Nat} {p : Po} (h : Pl w B s q p) (i : Nat) : w.cell? ⟨B, i, none⟩ = (pcell p s q)[i]? := cell_of_row w B i _ _ _ h.bx
theorem Pl.c0 {w : World} {B s q : Nat} {p : Po} (h : Pl w B s q p) : w.cell? ⟨B, 0, none⟩ = some (.int .i64 p.c) := h.cell 0
theorem Pl.c1 {w : World} {B s q : Nat} {p : Po} (h : Pl w B s q p) : w.cell? ⟨B, 1, none⟩ = some (.int .i64 p.k) := h.cell 1
theorem Pl.c2 {w : World} {B s q : Nat} {p : Po} (h : Pl w B s q p) : w.cell? ⟨B, 2, none⟩ = some (.map (some s)) := h.cell 2
theorem Pl.c3 {w : World} {B s q : Nat} {p : Po} (h : Pl w B s q p) : w.cell? ⟨B, 3, none⟩ = some (.map (some q)) := h.cell 3
theorem Pl.fz {w : World} {B s q : Nat} {p : Po} (h : Pl w B s q p) (i : Nat) : w.frozen? ⟨B, i, none⟩ = false := frozen_of_row w B i _ _ h.bx
theorem Pl.lt {w : World} {B s q : Nat} {p : Po} (h : Pl w B s q p) : B < w.heap.size := (Array.getElem?_eq_some_iff.1 h.bx).1
theorem Pl.nes {w : World} {B s q : Nat} {p : Po} (h : Pl w B s q p) : s ≠ B := by
 obtain ⟨es, clock, hb, _⟩ := h.ms
 intro e
 rw [e, h.bx] at hb
 cases hb
theorem Pl.neq {w : World} {B s q : Nat} {p : Po} (h : Pl w B s q p) : q ≠ B := by
 obtain ⟨es, clock, hb, _⟩ := h.mq
 intro e
 rw [e, h.bx] at hb
 cases hb
theorem Pl.same {w w' : World} {B s q : Nat} {p : Po} (h : Pl w B s q p) (e : ∀ i, i = B ∨ i = s ∨ i = q → w'.heap[i]? = w.heap[i]?) : Pl w' B s q p :=
 ⟨(e B (.inl rfl)).trans h.bx, h.ms.same (e s (.inr (.inl rfl))), h.mq.same (e q (.inr (.inr rfl))), h.ne⟩
theorem Pl.keptN {w w' : World} {B s q : Nat} {p : Po} (h : Pl w B s q p) (hg : w.grownBy w' none) : Pl w' B s q p :=
 ⟨(hg.block B h.lt (by simp)).trans h.bx, h.ms.keptN hg, h.mq.keptN hg, h.ne⟩
structure Fr (w w' : World) (F : Nat → Prop) : Prop where
 os : w'.os = w.os
 tape : w'.tape = w.tape
 output : w'.output = w.output
 size : w.heap.size ≤ w'.heap.size
 block : ∀ i, i < w.heap.size → ¬ F i → w'.heap[i]? = w.heap[i]?
theorem Fr.refl (w : World) (F : Nat → Prop) : Fr w w F := ⟨rfl, rfl, rfl, Nat.le_refl _, fun _ _ _ => rfl⟩
theorem Fr.of {w w' : World} {row : Option Nat} {F : Nat → Prop} (h : w.grownBy w' row) (hr : ∀ j, row = some j → w.heap.size ≤ j ∨ F j) : Fr w w' F :=
 ⟨h.os, h.tape, h.output, h.size, fun i hi hf => h.block i hi (fun e => by rcases hr i e.symm with h1 | h1; omega; exact hf h1)⟩
theorem Fr.ofN {w w' : World} {F : Nat → Prop} (h : w.grownBy w' none) : Fr w w' F := Fr.of h (fun j e => by cases e)
theorem Fr.trans {a b c : World} {F : Nat → Prop} (h : Fr a b F) (k : Fr b c F) : Fr a c F :=
 ⟨k.os.trans h.os, k.tape.trans h.tape, k.output.trans h.output, Nat.le_trans h.size k.size, fun i hi hf => (k.block i (Nat.lt_of_lt_of_le hi h.size) hf).trans (h.block i hi hf)⟩
theorem Fr.then {a b c : World} {F G : Nat → Prop} (h : Fr a b F) (k : Fr b c G) (hG : ∀ i, G i → i < a.heap.size → F i) : Fr a c F :=
 ⟨k.os.trans h.os, k.tape.trans h.tape, k.output.trans h.output, Nat.le_trans h.size k.size, fun i hi hf => (k.block i (Nat.lt_of_lt_of_le hi h.size) (fun hg => hf (hG i hg hi))).trans (h.block i hi hf)⟩
theorem Fr.wide {w w' : World} {F G : Nat → Prop} (h : Fr w w' F) (k : ∀ i, F i → i < w.heap.size → G i) : Fr w w' G := ⟨h.os, h.tape, h.output, h.size, fun i hi hf => h.block i hi (fun hF => hf (k i hF hi))⟩
theorem Fr.grown {w w' : World} {F : Nat → Prop} (h : Fr w w' F) (k : ∀ i, F i → w.heap.size ≤ i) : w.grownBy w' none := ⟨h.os, h.tape, h.output, h.size, fun i hi _ => h.block i hi (fun hF => by have := k i hF; omega)⟩
theorem Fr.cell {w w' : World} {F : Nat → Prop} (h : Fr w w' F) {a : Addr} {v : Value} (hc : w.cell? a = some v) (hf : ¬ F a.block) : w'.cell? a = some v :=
 (World.cell?_of_block (h.block _ (World.block_lt_of_cell? w _ hc) hf)).trans hc
theorem Fr.nt {w w' : World} {F : Nat → Prop} {a : Option Addr} {xs : List Int} (h : Fr w w' F) (k : Nt w a xs) (hf : ∀ ad, a = some ad → 0 < xs.length → ¬ F ad.block) : Nt w' a xs := by
 refine ⟨fun i hi => ?_⟩
 obtain ⟨b, off, h1, h2⟩ := k.row i hi
 exact ⟨b, off, h1, h.cell h2 (hf ⟨b, off, none⟩ h1 (by omega))⟩
def Bk (B s q : Nat) (i : Nat) : Prop := i = B ∨ i = s ∨ i = q
theorem Fr.pl {w w' : World} {F : Nat → Prop} {B s q : Nat} {p : Po} (h : Fr w w' F) (k : Pl w B s q p) (hf : ∀ i, Bk B s q i → ¬ F i) : Pl w' B s q p :=
 k.same fun i hi => h.block i (by rcases hi with rfl | rfl | rfl; exact k.lt; exact k.ms.lt; exact k.mq.lt) (hf i hi)
set_option maxHeartbeats 400000 in
theorem count_any {w : World} {B s q : Nat} {p : Po} (h : Pl w B s q p) : Calls Tryz.prog 20 #[.pointer (some ⟨B, 0, none⟩)] w fun en w' => en = .returned (.int .i64 p.c) ∧ w' = w := by
 have c0 := h.c0
 have HP := hid_intro h
 clear h
 go_enter Tryz.func20, Tryz.ntmps20
 go_wp2
 go_ret
 exact ⟨rfl, rfl⟩
theorem zeroI (w : World) : (zeroValue 3).run Tryz.prog w = .ok (.int .i64 0) w := by kernel_rfl
theorem wrap64_of {x : Int} (h1 : -9223372036854775808 ≤ x) (h2 : x ≤ 9223372036854775807) : wrap64 x = x := by unfold wrap64; omega
theorem getI_put {l : List (Int × Int)} (h : Ris l) (k v : Int) : getI (putI l k v) k = v := getI_mem (p := (k, v)) (h.put k v) ((mem_putI l k v _).2 (.inl rfl))
theorem del_put {l : List (Int × Int)} (h : Ris l) (k v : Int) : delI (putI l k v) k = delI l k := by
 refine Ris.ext ((h.put k v).del k) (h.del k) fun p => ?_
 rw [mem_delI, mem_delI, mem_putI]
 constructor
 ·rintro ⟨rfl | h1, h2⟩
  ·exact absurd rfl h2
  ·exact h1
 ·rintro ⟨h1, h2⟩
  exact ⟨.inr ⟨h1, h2⟩, h2⟩
def pinQ (q : List (Int × Int)) (v : Int) : List (Int × Int) := putI q v (getI q v + 1)
def unQ (q : List (Int × Int)) (v : Int) : List (Int × Int) := if getI q v = 1 then delI q v else putI q v (getI q v - 1)
set_option maxHeartbeats 400000 in
theorem pin_any {w : World} {B s q : Nat} {p : Po} (v : Int) (h : Pl w B s q p) (hv : -9223372036854775808 ≤ v ∧ v ≤ 9223372036854775807) (hb : getI p.q v < 9223372036854775807) (h0 : 0 ≤ getI p.q v) (hs : p.q.length < 1000000) :
  Calls Tryz.prog 9 #[.pointer (some ⟨B, 0, none⟩), .int .i64 v] w fun en w' => en = .returned (.tuple #[]) ∧ Pl w' B s q { p with q := pinQ p.q v } ∧ Fr w w' (Bk B s q) := by
 have c3 := h.c3
 have HP := hid_intro h
 have HM := hid_intro h.mq
 clear h
 go_enter Tryz.func9, Tryz.ntmps9
 go_wp2_with (first
  | (at_lookup; refine wpList_lookup_own_int _ rfl _ _ 62 rfl 3 3 .i64 keyedI Tryz.underlying62 Tryz.underlying3 (zeroI _) q p.q.length (imD p.q) rfl HM.out _ _ rfl (keyOf_int_mk Tryz.underlying3 (wf64 hv)) ?_; intro c hat hwc)
  | (at_mapUpdate; refine wpList_mapUpdate_own _ rfl _ _ _ 62 rfl 3 3 keyedI Tryz.underlying62 _ q p.q.length (imD p.q) rfl HM.out (by unfold maxLen; omega) _ _ _ rfl rfl (keyOf_int_mk Tryz.underlying3 (wf64 hv)) _ [] (plainElem_int Tryz.underlying3 (wrap64_wf _)) ?_; intro w1 hown1 hg1))
 rw [imD_at] at hat
 simp only [DataW.lit.injEq, Lit.int.injEq, true_and] at hat
 subst hat
 rw [wrap64_of (by omega) (by omega)] at hown1
 refine bodyPost_end (results_none rfl _ _ _) rfl ?_
 exact ⟨rfl, ⟨(hg1.block B HP.out.lt (by intro e; exact HP.out.neq (Option.some.inj e).symm)).trans HP.out.bx, HP.out.ms.kept hg1 (by intro e; exact HP.out.ne (Option.some.inj e)), Im.put hown1, HP.out.ne⟩, Fr.of hg1 (fun j e => .inr (.inr (.inr (Option.some.inj e).symm)))⟩
set_option maxHeartbeats 400000 in
theorem unpin_no {w : World} {B s q : Nat} {p : Po} (v : Int) (h : Pl w B s q p) (hv : -9223372036854775808 ≤ v ∧ v ≤ 9223372036854775807) (h0 : getI p.q v = 0) :
  Calls Tryz.prog 10 #[.pointer (some ⟨B, 0, none⟩), .int .i64 v] w fun en w' => en = .returned (.bool false) ∧ w' = w := by
 have c3 := h.c3
 have HM := hid_intro h.mq
 have H0 := hid_intro h0
 clear h h0
 go_enter Tryz.func10, Tryz.ntmps10
 go_wp2_with (first
  | (at_lookup; refine wpList_lookup_own_int _ rfl _ _ 62 rfl 3 3 .i64 keyedI Tryz.underlying62 Tryz.underlying3 (zeroI _) q p.q.length (imD p.q) rfl HM.out _ _ rfl (keyOf_int_mk Tryz.underlying3 (wf64 hv)) ?_; intro c hat hwc; rw [imD_at, H0.out] at hat; simp only [DataW.lit.injEq, Lit.int.injEq, true_and] at hat; subst hat; clear hwc))
 go_ret
 exact ⟨rfl, rfl⟩
set_option maxHeartbeats 1000000 in
set_option maxRecDepth 100000 in
theorem unpin_yes {w : World} {B s q : Nat} {p : Po} (v : Int) (h : Pl w B s q p) (hv : -9223372036854775808 ≤ v ∧ v ≤ 9223372036854775807) (h0 : 1 ≤ getI p.q v) (hs : p.q.length < 1000000) :
  Calls Tryz.prog 10 #[.pointer (some ⟨B, 0, none⟩), .int .i64 v] w fun en w' => en = .returned (.bool true) ∧ Pl w' B s q { p with q := unQ p.q v } ∧ Fr w w' (Bk B s q) := by
 have c3 := h.c3
 have HP := hid_intro h
 have HM := hid_intro h.mq
 have hw : -9223372036854775808 ≤ getI p.q v ∧ getI p.q v ≤ 9223372036854775807 := by
  cases hh : hasI p.q v with
  | false => rw [getI_none hh]; omega
  | true => exact of_wf64 (h.mq.wf _ (getI_has h.mq.ris hh))
 clear h
 obtain ⟨g, hg⟩ : ∃ g, g = getI p.q v := ⟨_, rfl⟩
 rw [← hg] at h0 hw
 have HG := hid_intro hg
 clear hg
 have e0 : (g == 0) = false := by simp; omega
 have HR := hid_intro HM.out.ris
 have HQ : Hid (unQ p.q v = if g = 1 then delI p.q v else putI p.q v (g - 1)) := by
  show unQ p.q v = _
  unfold unQ
  rw [← HG.out]
 by_cases e1 : g = 1
 ·have HQ1 : Hid (unQ p.q v = delI p.q v) := by
   show _ = _
   rw [HQ.out, if_pos e1]
  clear HQ
  subst e1
  have tok1 : True := trivial
  go_enter Tryz.func10, Tryz.ntmps10
  go_wp2_with (first
   | (at_lookup; have _t := tok1; refine wpList_lookup_own_int _ rfl _ _ 62 rfl 3 3 .i64 keyedI Tryz.underlying62 Tryz.underlying3 (zeroI _) q p.q.length (imD p.q) rfl HM.out _ _ rfl (keyOf_int_mk Tryz.underlying3 (wf64 hv)) ?_; intro c hat hwc; rw [imD_at, ← HG.out] at hat; simp only [DataW.lit.injEq, Lit.int.injEq, true_and] at hat; subst hat; clear hwc)
   | (at_mapUpdate; refine wpList_mapUpdate_own _ rfl _ _ _ 62 rfl 3 3 keyedI Tryz.underlying62 _ q p.q.length (imD p.q) rfl HM.out (by unfold maxLen; omega) _ _ _ rfl rfl (keyOf_int_mk Tryz.underlying3 (wf64 hv)) _ [] (plainElem_int Tryz.underlying3 (wf64 (by omega))) ?_; intro w1 hown1 hg1; clear tok1; have d3 := hg1.cell c3 (by intro e; exact HP.out.neq (Option.some.inj e).symm); have HM1 := hid_intro (Im.put hown1))
   | (at_lookup; refine wpList_lookup_own_int _ rfl _ _ 62 rfl 3 3 .i64 keyedI Tryz.underlying62 Tryz.underlying3 (zeroI _) q _ (imD (putI p.q v 0)) rfl HM1.out _ _ rfl (keyOf_int_mk Tryz.underlying3 (wf64 hv)) ?_; intro c hat hwc; rw [imD_at, getI_put HR.out] at hat; simp only [DataW.lit.injEq, Lit.int.injEq, true_and] at hat; subst hat; clear hwc)
   | (at_delete; refine wpList_delete_own _ rfl _ _ 62 3 rfl 3 keyedI Tryz.underlying62 _ q _ (imD (putI p.q v 0)) rfl HM1.out _ _ rfl (keyOf_int_mk Tryz.underlying3 (wf64 hv)) ?_; intro w2 hown2 hturn2))
  have hg2 := grown_trans hg1 hturn2.grown
  have hm2 := Im.del hown2
  rw [del_put HR.out, ← HQ1.out] at hm2
  go_wp2
  go_ret
  exact ⟨rfl, ⟨(hg2.block B HP.out.lt (by intro e; exact HP.out.neq (Option.some.inj e).symm)).trans HP.out.bx, HP.out.ms.kept hg2 (by intro e; exact HP.out.ne (Option.some.inj e)), hm2, HP.out.ne⟩, Fr.of hg2 (fun j e => .inr (.inr (.inr (Option.some.inj e).symm)))⟩
 ·have HQ1 : Hid (unQ p.q v = putI p.q v (g - 1)) := by
   show _ = _
   rw [HQ.out, if_neg e1]
  clear HQ
  obtain ⟨d, hd⟩ : ∃ d, d = g - 1 := ⟨_, rfl⟩
  have hgd : g - 1 = d := hd.symm
  have HD := hid_intro hd
  have hd1 : 1 ≤ d := by omega
  have hd2 : d ≤ 9223372036854775807 := by omega
  have e2 : (d == 0) = false := by simp; omega
  clear hd e1
  have tok1 : True := trivial
  go_enter Tryz.func10, Tryz.ntmps10
  go_wp2_with (first
   | (at_lookup; have _t := tok1; refine wpList_lookup_own_int _ rfl _ _ 62 rfl 3 3 .i64 keyedI Tryz.underlying62 Tryz.underlying3 (zeroI _) q p.q.length (imD p.q) rfl HM.out _ _ rfl (keyOf_int_mk Tryz.underlying3 (wf64 hv)) ?_; intro c hat hwc; rw [imD_at, ← HG.out] at hat; simp only [DataW.lit.injEq, Lit.int.injEq, true_and] at hat; subst hat; clear hwc)
   | (at_mapUpdate; refine wpList_mapUpdate_own _ rfl _ _ _ 62 rfl 3 3 keyedI Tryz.underlying62 _ q p.q.length (imD p.q) rfl HM.out (by unfold maxLen; omega) _ _ _ rfl rfl (keyOf_int_mk Tryz.underlying3 (wf64 hv)) _ [] (plainElem_int Tryz.underlying3 (wf64 (show _ ∧ _ by omega))) ?_; intro w1 hown1 hg1; clear tok1; have d3 := hg1.cell c3 (by intro e; exact HP.out.neq (Option.some.inj e).symm); have HM1 := hid_intro (Im.put hown1))
   | (at_lookup; refine wpList_lookup_own_int _ rfl _ _ 62 rfl 3 3 .i64 keyedI Tryz.underlying62 Tryz.underlying3 (zeroI _) q _ (imD (putI p.q v d)) rfl HM1.out _ _ rfl (keyOf_int_mk Tryz.underlying3 (wf64 hv)) ?_; intro c hat hwc; rw [imD_at, getI_put HR.out] at hat; simp only [DataW.lit.injEq, Lit.int.injEq, true_and] at hat; subst hat; clear hwc))
  rw [HD.out] at HM1
  rw [← HQ1.out] at HM1
  go_ret
  exact ⟨rfl, ⟨(hg1.block B HP.out.lt (by intro e; exact HP.out.neq (Option.some.inj e).symm)).trans HP.out.bx, HP.out.ms.kept hg1 (by intro e; exact HP.out.ne (Option.some.inj e)), HM1.out, HP.out.ne⟩, Fr.of hg1 (fun j e => .inr (.inr (.inr (Option.some.inj e).symm)))⟩
end Go.Proofs.YtcfmkpgfeodhaaaGreatDoor
