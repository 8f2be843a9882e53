import Derived.Test.YthodgddoolbenaaGreatDoorQ4
import Derived.Test.YthodgddoolbenaaGreatDoorQ15
import Derived.Lib.ConvBytes
import Derived.KernelRfl
import Derived.Deep.Cut
namespace Go.Proofs.YthodgddoolbenaaGreatDoor
open Go.RowKit
def Tz (w : World) : Prop := Lib.TabIs Tryz.prog w "internal/strconv.uint64pow10" .u64 Lib.pow10Tab
theorem tz_named : Tryz.prog.globalNamed "internal/strconv.uint64pow10" = some 1 := by kernel_rfl
theorem Tz.lt {w : World} (h : Tz w) : 1 < w.heap.size := by
 unfold Tz Lib.TabIs World.var? at h
 rw [tz_named] at h
 simp only [Option.bind_some] at h
 rcases Nat.lt_or_ge 1 w.heap.size with h' | h'
 ·exact h'
 ·simp [Array.getElem?_eq_none h'] at h
theorem Tz.kept {w w' : World} {row : Option Nat} (h : Tz w) (hg : w.grownBy w' row) (hr : some 1 ≠ row) : Tz w' := by
 have hb := hg.block 1 h.lt hr
 unfold Tz Lib.TabIs World.var? at h ⊢
 rw [tz_named] at h ⊢
 simp only [Option.bind_some] at h ⊢
 rw [hb]
 exact h
theorem Tz.keptN {w w' : World} (h : Tz w) (hg : w.grownBy w' none) : Tz w' := h.kept hg (by simp)
def lmark (ps : Int) (id j : Nat) : List Int := (Lib.itoa ((id : Int) * 1000 + 2 * (j : Int) + ps)).map fun b => (b.toNat : Int)
def fup (F : Int → Nat → Nat → Value) (ps : Int) (id x : Nat) (v : Value) : Int → Nat → Nat → Value := fun p i y => if p = ps ∧ i = id ∧ y = x then v else F p i y
theorem fup_same (F : Int → Nat → Nat → Value) (ps : Int) (id x : Nat) (v : Value) : fup F ps id x v ps id x = v := by unfold fup; rw [if_pos ⟨rfl, rfl, rfl⟩]
theorem fup_id (F : Int → Nat → Nat → Value) (ps p : Int) {id i : Nat} (x y : Nat) (v : Value) (h : i ≠ id) : fup F ps id x v p i y = F p i y := by unfold fup; rw [if_neg (fun e => h e.2.1)]
theorem fup_x (F : Int → Nat → Nat → Value) (ps p : Int) (id i : Nat) {x y : Nat} (v : Value) (h : y ≠ x) : fup F ps id x v p i y = F p i y := by unfold fup; rw [if_neg (fun e => h e.2.2)]
def Lm1 (w : World) (S : Nat → Prop) (ps : Int) (id x : Nat) (v : Value) : Prop := ∃ b n c, v = .slice (some ⟨b, 0, none⟩) n c ∧ S b ∧ b < w.heap.size ∧ Byt w (some ⟨b, 0, none⟩) n c (lmark ps id x)
theorem Lm1.kept {w w' : World} {S : Nat → Prop} {ps : Int} {id x : Nat} {v : Value} {row : Option Nat} (h : Lm1 w S ps id x v) (hg : w.grownBy w' row) (hr : ∀ i, row = some i → ¬ S i) : Lm1 w' S ps id x v := by
 obtain ⟨b, n, c, e, hs, hb, hy⟩ := h
 exact ⟨b, n, c, e, hs, Nat.lt_of_lt_of_le hb hg.size, hy.kept hg (fun a ha _ e' => by obtain rfl := Option.some.inj ha; exact hr b e'.symm hs)⟩
theorem Lm1.mono {w : World} {S S' : Nat → Prop} {ps : Int} {id x : Nat} {v : Value} (h : Lm1 w S ps id x v) (hs : ∀ b, S b → S' b) : Lm1 w S' ps id x v := by
 obtain ⟨b, n, c, e, h1, hb, hy⟩ := h
 exact ⟨b, n, c, e, hs b h1, hb, hy⟩
def Lmk (w : World) (F : Int → Nat → Nat → Value) (S : Nat → Prop) (ps : Int) (id0 : Nat) (nk : Nat → Nat) : Prop := ∀ k x, x < nk k → Lm1 w S ps (id0 + k + 1) x (F ps (id0 + k + 1) x)
theorem Lmk.kept {w w' : World} {F : Int → Nat → Nat → Value} {S : Nat → Prop} {ps : Int} {id0 : Nat} {nk : Nat → Nat} {row : Option Nat} (h : Lmk w F S ps id0 nk) (hg : w.grownBy w' row) (hr : ∀ i, row = some i → ¬ S i) : Lmk w' F S ps id0 nk := fun k x hx => (h k x hx).kept hg hr
theorem Lmk.keptN {w w' : World} {F : Int → Nat → Nat → Value} {S : Nat → Prop} {ps : Int} {id0 : Nat} {nk : Nat → Nat} (h : Lmk w F S ps id0 nk) (hg : w.grownBy w' none) : Lmk w' F S ps id0 nk := h.kept hg (by simp)
theorem Lmk.up {w : World} {F : Int → Nat → Nat → Value} {S : Nat → Prop} {ps : Int} {id0 : Nat} {nk nk' : Nat → Nat} (h : Lmk w F S ps id0 nk) {i x : Nat} {v : Value} (hv : Lm1 w S ps (id0 + i + 1) x v) (hn : ∀ k y, y < nk' k → (k = i ∧ y = x) ∨ (y < nk k ∧ ¬ (k = i ∧ y = x))) : Lmk w (fup F ps (id0 + i + 1) x v) S ps id0 nk' := fun k y hy => by
 rcases hn k y hy with ⟨rfl, rfl⟩ | ⟨h1, h2⟩
 ·rw [fup_same]; exact hv
 ·have e : fup F ps (id0 + i + 1) x v ps (id0 + k + 1) y = F ps (id0 + k + 1) y := by
   unfold fup
   rw [if_neg (fun e => h2 ⟨by omega, e.2.2⟩)]
  rw [e]; exact h k y h1
theorem Lmk.mono {w : World} {F : Int → Nat → Nat → Value} {S S' : Nat → Prop} {ps : Int} {id0 : Nat} {nk nk' : Nat → Nat} (h : Lmk w F S ps id0 nk) (hs : ∀ b, S b → S' b) (hn : ∀ k, nk' k ≤ nk k) : Lmk w F S' ps id0 nk' := fun k x hx => (h k x (Nat.lt_of_lt_of_le hx (hn k))).mono hs
theorem sort_grown (w : World) (k : Nat) (os : Array Obj) : w.grownBy (Sort.grow (w.drewN k) os) none :=
 ⟨rfl, rfl, rfl, by simp [Sort.grow], fun i hi _ => by
  show (w.heap ++ os)[i]? = _
  rw [Array.getElem?_append_left hi]⟩
set_option maxHeartbeats 400000 in
set_option maxRecDepth 100000 in
theorem mark_texts (B : Nat) (ps : Int) (id j : Nat) (idI jI : Int) (w : World) (h : w.cell? ⟨B, 1, none⟩ = some (.int .i64 ps)) (hp : 0 ≤ ps ∧ ps ≤ 1) (hi : id ≤ 1099511627776) (hj : j ≤ 1099511627776) (e1 : idI = (id : Int)) (e2 : jI = (j : Int)) (ht : Tz w) :
  Calls Tryz.prog 120 #[.pointer (some ⟨B, 0, none⟩), .int .i64 idI, .int .i64 jI] w fun en w' => en = .returned (.string ⟨(Lib.itoa ((id : Int) * 1000 + 2 * (j : Int) + ps)).toArray⟩) ∧ w.grownBy w' none := by
 subst e1 e2
 have hp1 := hp.1
 have hp2 := hp.2
 have HT := hid_intro ht
 clear ht
 go_enter Tryz.func120, Tryz.ntmps120
 go_wp2_with fail
 refine (itoa_call ((id : Int) * 1000 + 2 * (j : Int) + ps) (by omega) (by omega) _ HT.out).mono ?_
 rintro en w1 ⟨rfl, k, os, hw⟩
 have HG : Hid (w.grownBy w1 none) := by rw [hw]; exact sort_grown w k os
 clear hw
 go_wp2
 go_ret
 exact ⟨rfl, HG.out⟩
theorem bytesW_grown (w : World) (e : TypeId) (s : ByteArray) : w.grownBy (Lib.bytesWorld w e s) none :=
 ⟨rfl, rfl, rfl, by rw [Lib.bytesWorld_size]; omega, fun i hi _ => Lib.bytesWorld_at_old w e s i hi⟩
theorem bytesW_byt (w : World) (l : List UInt8) (n c : Nat) (hn : n = l.length) : Byt (Lib.bytesWorld w 5 ⟨l.toArray⟩) (some ⟨w.heap.size, 0, none⟩) n c (l.map fun b => (b.toNat : Int)) := by
 subst hn
 refine ⟨by simp, fun e => by simp at e, fun a ha j u hu => ?_⟩
 obtain rfl := Option.some.inj ha
 have hj : j < l.length := by have := (List.getElem?_eq_some_iff.1 hu).1; simpa using this
 rw [Addr.add_lit, Nat.zero_add]
 have := Lib.bytesWorld_cell w 5 ⟨l.toArray⟩ j (by show j < l.toArray.size; simpa using hj)
 rw [this]
 rw [List.getElem?_map, List.getElem?_map, List.getElem?_eq_getElem hj] at hu
 simp only [Option.map_some, Option.some.injEq] at hu
 rw [← hu]
 simp [List.getD, List.getElem?_eq_getElem hj]
set_option maxHeartbeats 400000 in
set_option maxRecDepth 100000 in
theorem mark_lists (B : Nat) (ps : Int) (id j : Nat) (idI jI : Int) (w : World) (h : w.cell? ⟨B, 1, none⟩ = some (.int .i64 ps)) (hp : 0 ≤ ps ∧ ps ≤ 1) (hi : id ≤ 1099511627776) (hj : j ≤ 1099511627776) (e1 : idI = (id : Int)) (e2 : jI = (j : Int)) (ht : Tz w) :
  Calls Tryz.prog 121 #[.pointer (some ⟨B, 0, none⟩), .int .i64 idI, .int .i64 jI] w fun en w' => (∃ b n c, en = .returned (.slice (some ⟨b, 0, none⟩) n c) ∧ w.heap.size ≤ b ∧ b < w'.heap.size ∧ Byt w' (some ⟨b, 0, none⟩) n c (lmark ps id j)) ∧ w.grownBy w' none := by
 subst e1 e2
 have HT := hid_intro ht
 have HH := hid_intro h
 clear ht h
 go_enter Tryz.func121, Tryz.ntmps121
 go_wp2_with fail
 refine (mark_texts B ps id j _ _ _ HH.out hp hi hj rfl rfl HT.out).mono ?_
 rintro en w1 ⟨rfl, hg⟩
 have HB : Hid (∀ n c, n = (Lib.itoa ((id : Int) * 1000 + 2 * (j : Int) + ps)).length → Byt (Lib.bytesWorld w1 5 ⟨(Lib.itoa ((id : Int) * 1000 + 2 * (j : Int) + ps)).toArray⟩) (some ⟨w1.heap.size, 0, none⟩) n c (lmark ps id j)) := fun n c hn => bytesW_byt w1 _ n c hn
 have HL : Hid ((⟨(Lib.itoa ((id : Int) * 1000 + 2 * (j : Int) + ps)).toArray⟩ : ByteArray).size = (Lib.itoa ((id : Int) * 1000 + 2 * (j : Int) + ps)).length) := by
  show (Lib.itoa ((id : Int) * 1000 + 2 * (j : Int) + ps)).toArray.size = _
  simp
 generalize (⟨(Lib.itoa ((id : Int) * 1000 + 2 * (j : Int) + ps)).toArray⟩ : ByteArray) = s at *
 have hcv := Lib.run_convert_string_bytes (P := Tryz.prog) w1 9 49 5 s (u := .string) Tryz.underlying9 Tryz.underlying49 Tryz.underlying5
 have HG := hid_intro (grown_trans hg (bytesW_grown w1 5 s))
 have HS := hid_intro hg.size
 have HZ := hid_intro (Lib.bytesWorld_size w1 5 s)
 generalize Lib.bytesWorld w1 5 s = W2 at *
 generalize grownCap w1 s.size 0 5 = cap at *
 clear hg
 go_wp2
 go_ret
 exact ⟨⟨_, _, _, rfl, HS.out, by rw [HZ.out]; omega, HB.out _ _ HL.out⟩, HG.out⟩
end Go.Proofs.YthodgddoolbenaaGreatDoor
