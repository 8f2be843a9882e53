import Derived.Test.YthodgddoolbenaaGreatDoorQ22
import Derived.Test.YthodgddoolbenaaGreatDoorQ24
import Derived.Deep.Cut
namespace Go.Proofs.YthodgddoolbenaaGreatDoor
open Go.RowKit
def kdP (F : Int → Nat → Nat → Value) : Kdk := ⟨17, 2, 54, 22, F⟩
theorem Kc.chgP {F F' : Int → Nat → Nat → Value} {w : World} {B : Nat} {ps : Int} {vb : Value} {r c : Nat} {L : List Lst} (h : Kc (kdP F) w B ps vb r c L) : Kc (kdP F') w B ps vb r c L :=
 ⟨h.pass, h.lists, h.row, h.ok, h.apart, h.many⟩
theorem Kwr.chgP {F F' : Int → Nat → Nat → Value} {I : World → Prop} {w : World} {B : Nat} {ps : Int} {vb : Value} {r c : Nat} {L : List Lst} {id0 i j : Nat} (h : Kwr (kdP F) I w B ps vb r c L id0 i j)
  (h1 : ∀ k s x, k < i → L[k]? = some s → x < s.N → F' ps (id0 + k + 1) x = F ps (id0 + k + 1) x) (h2 : ∀ x, x < j → F' ps (id0 + i + 1) x = F ps (id0 + i + 1) x) : Kwr (kdP F') I w B ps vb r c L id0 i j :=
 ⟨h.inv, h.bc.chgP, fun k s hk hs x hx => by
  show _ = some (F' ps (id0 + k + 1) x)
  rw [h1 k s x hk hs hx]; exact h.done k s hk hs x hx, fun s hs x hx => by
  show _ = some (F' ps (id0 + i + 1) x)
  rw [h2 x hx]; exact h.part s hs x hx⟩
theorem Gs.chgP {F F' : Int → Nat → Nat → Value} {Q : Nat → Prop} {H0 : Nat} {I : World → Prop} {w : World} {B : Nat} {ps : Int} {vb vg : Value} {r c base id0 : Nat} {L M : List Lst} {tn : Nat → Nat} (h : Gs (kdP F) Q H0 I w B ps vb vg r c base id0 L M tn)
  (h1 : ∀ k s x, L[k]? = some s → x < s.N → F' ps (id0 + k + 1) x = F ps (id0 + k + 1) x) (h2 : ∀ k m x, M[k]? = some m → x < m.N → F' ps (id0 + k + 1) x = F ps (id0 + k + 1) x) : Gs (kdP F') Q H0 I w B ps vb vg r c base id0 L M tn :=
 ⟨h.inv, h.bc.chgP, h.gl, h.gz, h.own, h.old, h.rB, h.qn, h.qv, h.qm, h.each, h.dif, fun k s hs x hx => by
  show _ = some (F' ps (id0 + k + 1) x)
  rw [h1 k s x hs hx]; exact h.lm k s hs x hx, fun k m hm x hx => by
  show _ = some (F' ps (id0 + k + 1) x)
  rw [h2 k m x hm hx]; exact h.mm k m hm x hx⟩
def Lm2 (w : World) (S : Nat → Prop) (ps : Int) (id x : Nat) (v : Value) : Prop := (x % 2 = 0 ∧ ∃ b n c, v = .slice (some ⟨b, 0, none⟩) n c ∧ S b ∧ b < w.heap.size ∧ Byt w (some ⟨b, 0, none⟩) n c (lmark ps id (x / 2))) ∨ (x % 2 = 1 ∧ v = .slice none 0 0)
theorem Lm2.kept {w w' : World} {S : Nat → Prop} {ps : Int} {id x : Nat} {v : Value} {row : Option Nat} (h : Lm2 w S ps id x v) (hg : w.grownBy w' row) (hr : ∀ i, row = some i → ¬ S i) : Lm2 w' S ps id x v := by
 rcases h with ⟨e0, b, n, c, e, hs, hb, hy⟩ | h
 ·exact .inl ⟨e0, b, n, c, e, hs, Nat.lt_of_lt_of_le hb hg.size, hy.kept hg (fun a ha _ e' => by obtain rfl := Option.some.inj ha; exact hr b e'.symm hs)⟩
 ·exact .inr h
theorem Lm2.mono {w : World} {S S' : Nat → Prop} {ps : Int} {id x : Nat} {v : Value} (h : Lm2 w S ps id x v) (hs : ∀ b, S b → S' b) : Lm2 w S' ps id x v := by
 rcases h with ⟨e0, b, n, c, e, h1, hb, hy⟩ | h
 ·exact .inl ⟨e0, b, n, c, e, hs b h1, hb, hy⟩
 ·exact .inr h
theorem Lm2.key {w : World} {S : Nat → Prop} {ps : Int} {id j : Nat} {v : Value} (h : Lm2 w S ps id (j * 2) v) : ∃ b n c, v = .slice (some ⟨b, 0, none⟩) n c ∧ S b ∧ b < w.heap.size ∧ Byt w (some ⟨b, 0, none⟩) n c (lmark ps id j) := by
 have e : (j * 2) / 2 = j := by omega
 rcases h with ⟨_, h⟩ | ⟨h, _⟩
 ·rw [e] at h; exact h
 ·omega
theorem Lm2.val {w : World} {S : Nat → Prop} {ps : Int} {id j : Nat} {v : Value} (h : Lm2 w S ps id (j * 2 + 1) v) : v = .slice none 0 0 := by
 rcases h with ⟨h, _⟩ | ⟨_, h⟩
 ·omega
 ·exact h
theorem Lm2.key' {w : World} {S : Nat → Prop} {ps : Int} {id j b n c : Nat} (hS : S b) (hb : b < w.heap.size) (hy : Byt w (some ⟨b, 0, none⟩) n c (lmark ps id j)) : Lm2 w S ps id (j * 2) (.slice (some ⟨b, 0, none⟩) n c) := by
 have e : (j * 2) / 2 = j := by omega
 exact .inl ⟨by omega, b, n, c, rfl, hS, hb, by rw [e]; exact hy⟩
theorem Lm2.val' (w : World) (S : Nat → Prop) (ps : Int) (id j : Nat) : Lm2 w S ps id (j * 2 + 1) (.slice none 0 0) := .inr ⟨by omega, rfl⟩
theorem lmark_bt (ps : Int) (id j : Nat) : Bt (lmark ps id j) := fun z hz => by
 obtain ⟨b, _, rfl⟩ := List.mem_map.1 hz
 have := b.toNat_lt
 omega
def Lmk2 (w : World) (F : Int → Nat → Nat → Value) (S : Nat → Prop) (ps : Int) (id0 : Nat) (nk : Nat → Nat) : Prop := ∀ k x, x < nk k → Lm2 w S ps (id0 + k + 1) x (F ps (id0 + k + 1) x)
theorem Lmk2.kept {w w' : World} {F : Int → Nat → Nat → Value} {S : Nat → Prop} {ps : Int} {id0 : Nat} {nk : Nat → Nat} {row : Option Nat} (h : Lmk2 w F S ps id0 nk) (hg : w.grownBy w' row) (hr : ∀ i, row = some i → ¬ S i) : Lmk2 w' F S ps id0 nk := fun k x hx => (h k x hx).kept hg hr
theorem Lmk2.keptN {w w' : World} {F : Int → Nat → Nat → Value} {S : Nat → Prop} {ps : Int} {id0 : Nat} {nk : Nat → Nat} (h : Lmk2 w F S ps id0 nk) (hg : w.grownBy w' none) : Lmk2 w' F S ps id0 nk := h.kept hg (by simp)
theorem Lmk2.up {w : World} {F : Int → Nat → Nat → Value} {S : Nat → Prop} {ps : Int} {id0 : Nat} {nk nk' : Nat → Nat} (h : Lmk2 w F S ps id0 nk) {i x : Nat} {v : Value} (hv : Lm2 w S ps (id0 + i + 1) x v) (hn : ∀ k y, y < nk' k → (k = i ∧ y = x) ∨ (y < nk k ∧ ¬ (k = i ∧ y = x))) : Lmk2 w (fup F ps (id0 + i + 1) x v) S ps id0 nk' := fun k y hy => by
 rcases hn k y hy with ⟨rfl, rfl⟩ | ⟨h1, h2⟩
 ·rw [fup_same]; exact hv
 ·have e : fup F ps (id0 + i + 1) x v ps (id0 + k + 1) y = F ps (id0 + k + 1) y := by
   unfold fup
   rw [if_neg (fun e => h2 ⟨by omega, e.2.2⟩)]
  rw [e]; exact h k y h1
theorem Lmk2.mono {w : World} {F : Int → Nat → Nat → Value} {S S' : Nat → Prop} {ps : Int} {id0 : Nat} {nk nk' : Nat → Nat} (h : Lmk2 w F S ps id0 nk) (hs : ∀ b, S b → S' b) (hn : ∀ k, nk' k ≤ nk k) : Lmk2 w F S' ps id0 nk' := fun k x hx => (h k x (Nat.lt_of_lt_of_le hx (hn k))).mono hs
def Vp2 (w : World) (T : Nat) (a b : Value) : Prop := w.heap[T]? = some (.cells #[a, b] 54 (0, 0))
theorem Vp2.cells {w : World} {T : Nat} {a b : Value} (h : Vp2 w T a b) : w.cell? ⟨T, 0, none⟩ = some a ∧ w.cell? ⟨T, 1, none⟩ = some b := by
 refine ⟨?_, ?_⟩
 ·rw [cell_of_row w T 0 _ _ _ h]; rfl
 ·rw [cell_of_row w T 1 _ _ _ h]; rfl
theorem Vp2.frozen {w : World} {T : Nat} {a b : Value} (h : Vp2 w T a b) (j : Nat) : w.frozen? ⟨T, j, none⟩ = false := frozen_of_row w T j _ _ h
theorem Vp2.new (w : World) (a b : Value) : Vp2 (w.alloc (.cells #[a, b] 54)) w.heap.size a b := heap_alloc_new w _
theorem Vp2.set0 {w : World} {T : Nat} {a b : Value} (h : Vp2 w T a b) (v : Value) : Vp2 (w.setCell ⟨T, 0, none⟩ v) T v b := heap_setCell_same w T 0 _ _ v h
theorem Vp2.set1 {w : World} {T : Nat} {a b : Value} (h : Vp2 w T a b) (v : Value) : Vp2 (w.setCell ⟨T, 1, none⟩ v) T a v := heap_setCell_same w T 1 _ _ v h
theorem pair_size2 : (Tryz.prog.info? 54).map (·.size) = some 2 := by kernel_rfl
theorem ret_pair2 {fn : Func} {p : Tmp} (h : fn.results = #[.cell p 54]) (tmps : Array Value) (w : World) (U : Nat) (a b : Value) (hp : tmps.getD p undef = .pointer (some ⟨U, 0, none⟩)) (hx : Vp2 w U a b) :
  (results fn tmps).run Tryz.prog w = .ok (.agg #[a, b]) w :=
 results_cell_row h tmps w U 54 #[a, b] (0, 0) _ hp hx Tryz.underlying54 rfl pair_size2
set_option maxHeartbeats 1000000 in
set_option maxRecDepth 100000 in
theorem mark_pairs (B : Nat) (ps : Int) (id j : Nat) (idI jI : Int) (w : World) (h : w.cell? ⟨B, 1, none⟩ = some (.int .i64 ps)) (hp : 0 ≤ ps ∧ ps ≤ 1) (hi : id ≤ 1099511627776) (hj : j ≤ 1099511627776) (e1 : idI = (id : Int)) (e2 : jI = (j : Int)) (ht : Tz w) :
  Calls Tryz.prog 123 #[.pointer (some ⟨B, 0, none⟩), .int .i64 idI, .int .i64 jI] w fun en w' => (∃ b n c, en = .returned (.agg #[.slice (some ⟨b, 0, none⟩) n c, .slice none 0 0]) ∧ w.heap.size ≤ b ∧ b < w'.heap.size ∧ Byt w' (some ⟨b, 0, none⟩) n c (lmark ps id j)) ∧ w.grownBy w' none := by
 subst e1 e2
 have ga := World.grownBy_alloc w (.cells #[.slice none 0 0, .slice none 0 0] 54) none
 have HY := hid_intro (Vp2.new w (.slice none 0 0) (.slice none 0 0))
 have HM := hid_intro (mark_lists B ps id j _ _ (w.alloc (.cells #[.slice none 0 0, .slice none 0 0] 54)) (ga.cell h (by simp)) hp hi hj rfl rfl (ht.keptN ga))
 have HG := hid_intro ga
 have hz : (w.alloc (.cells #[.slice none 0 0, .slice none 0 0] 54)).heap.size = w.heap.size + 1 := by simp
 have HZ := hid_intro hz
 clear h ga ht hz
 go_enter Tryz.func123, Tryz.ntmps123
 go_upto_region 1 with fail
 generalize w.alloc (.cells #[.slice none 0 0, .slice none 0 0] 54) = w1 at *
 obtain ⟨U, hU⟩ : ∃ U, w.heap.size = U := ⟨_, rfl⟩
 rw [hU] at HY HZ ⊢
 have HU := hid_intro hU
 clear hU
 go_wp2_with fail
 refine HM.out.mono ?_
 rintro en w2 ⟨⟨b, n, c, rfl, hb0, hb1, hby⟩, hg2⟩
 have HY2 : Hid (Vp2 w2 U (.slice none 0 0) (.slice none 0 0)) := (hg2.block U (by have := HZ.out; omega) (by simp)).trans HY.out
 obtain ⟨y0, y1⟩ := HY2.out.cells
 have f0 := HY2.out.frozen 0
 have f1 := HY2.out.frozen 1
 have hd := (HY2.out.set0 (.slice (some ⟨b, 0, none⟩) n c)).set1 (.slice none 0 0)
 have HD := hid_intro hd
 have gs := grown_trans (kset_grown w2 U 0 (.slice (some ⟨b, 0, none⟩) n c)) (kset_grown _ U 1 (.slice none 0 0))
 have HF := hid_intro (grown_new (grown_trans HG.out hg2) gs (by have := HU.out; omega))
 have HB : Hid (Byt ((w2.setCell ⟨U, 0, none⟩ (.slice (some ⟨b, 0, none⟩) n c)).setCell ⟨U, 1, none⟩ (.slice none 0 0)) (some ⟨b, 0, none⟩) n c (lmark ps id j)) := hby.kept gs (fun a ha _ e => by
  obtain rfl := Option.some.inj ha
  have e' := Option.some.inj e
  simp only at e'
  have := HZ.out
  omega)
 have HB0 : Hid (U ≤ b ∧ b < w2.heap.size) := ⟨by have := HZ.out; omega, hb1⟩
 clear hd gs hby hb0 hb1 hg2
 go_wp2
 refine bodyPost_ret (ret_pair2 rfl _ _ U _ _ rfl HD.out) rfl ?_
 exact ⟨⟨b, n, c, rfl, by have := HU.out; have := HB0.out.1; omega, by have := HB0.out.2; simp; omega, HB.out⟩, HF.out⟩
end Go.Proofs.YthodgddoolbenaaGreatDoor
