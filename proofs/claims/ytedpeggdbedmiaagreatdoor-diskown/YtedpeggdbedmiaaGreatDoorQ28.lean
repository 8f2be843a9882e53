import Derived.Test.YtedpeggdbedmiaaGreatDoorQ27
import Derived.Test.YtedpeggdbedmiaaGreatDoorQ8
import Derived.Test.YtedpeggdbedmiaaGreatDoorQ26
namespace Go.Proofs.YtedpeggdbedmiaaGreatDoor
open Go.RowKit Go.MuLone
def upF (f : Nat → Nat → Prop) (i : Nat) (F : Nat → Prop) : Nat → Nat → Prop := fun j => if j = i then F else f j
def upS (f : Nat → Ds) (i : Nat) (s : Ds) : Nat → Ds := fun j => if j = i then s else f j
theorem upF_same (f : Nat → Nat → Prop) (i : Nat) (F : Nat → Prop) : upF f i F i = F := by unfold upF; rw [if_pos rfl]
theorem upF_far (f : Nat → Nat → Prop) {i j : Nat} (F : Nat → Prop) (h : j ≠ i) : upF f i F j = f j := by unfold upF; rw [if_neg h]
theorem upS_same (f : Nat → Ds) (i : Nat) (s : Ds) : upS f i s i = s := by unfold upS; rw [if_pos rfl]
theorem upS_far (f : Nat → Ds) {i j : Nat} (s : Ds) (h : j ≠ i) : upS f i s j = f j := by unfold upS; rw [if_neg h]
structure Dl (s : Ds) (t : Nat) : Prop where
 off : s.off = false
 left : s.left = 0
 done : s.done ≤ t
 reads : s.reads ≤ t
theorem Dl.wide {s : Ds} {t t' : Nat} (h : Dl s t) (ht : t ≤ t') : Dl s t' := ⟨h.off, h.left, Nat.le_trans h.done ht, Nat.le_trans h.reads ht⟩
structure Dn (w0 w : World) (B base : Nat) (cs : Nat → Value) (L : Nat → List Lst) (ys : Nat → List Value) (vd : Value) (bs : List Nat) (Fs : Nat → Nat → Prop) (ss : Nat → Ds) (t : Nat) : Prop where
 kst : Kst kdS SameS w B base cs L ys
 em : ∀ j, j < 13 → j ≠ 0 → j ≠ 9 → L j = []
 sg : Strg cs (fun k => base ≤ k ∧ ∃ i, i < 9 ∧ Fs i k)
 bl : bs.length = 8
 dz : ∀ i b, bs[i]? = some b → Dz w b (Fs i) (ss i)
 dj : ∀ i j k, i < 9 → j < 9 → Fs i k → Fs j k → i = j
 fb : ∀ i k, i < 9 → Fs i k → w0.heap.size ≤ k ∧ k ≠ B ∧ vd.ownBlock ≠ some k
 vo : w.ownsRow w0.heap.size 41 1 vd 8 (bs.map fun b => .pointer (some ⟨b, 0, none⟩))
 vl : ∀ k, vd.ownBlock = some k → k < base ∧ k ≠ B
 gr : w0.grownBy w none
 b0 : w0.heap.size ≤ B
 li : ∀ i, i < 8 → Dl (ss i) t
 xl : ∀ k, Fs 8 k → k < w.heap.size
theorem Dn.low {w0 w : World} {B base : Nat} {cs : Nat → Value} {L : Nat → List Lst} {ys : Nat → List Value} {vd : Value} {bs : List Nat} {Fs : Nat → Nat → Prop} {ss : Nat → Ds} {t : Nat} (h : Dn w0 w B base cs L ys vd bs Fs ss t) {i k : Nat} (hi : i < 9) (hk : Fs i k) : k < w.heap.size := by
 have hb := h.bl
 by_cases e : i = 8
 ·subst e; exact h.xl k hk
 exact (h.dz i _ (List.getElem?_eq_getElem (by omega))).low k hk
theorem Dn.wide {w0 w : World} {B base : Nat} {cs : Nat → Value} {L : Nat → List Lst} {ys : Nat → List Value} {vd : Value} {bs : List Nat} {Fs : Nat → Nat → Prop} {ss : Nat → Ds} {t t' : Nat} (h : Dn w0 w B base cs L ys vd bs Fs ss t) (ht : t ≤ t') : Dn w0 w B base cs L ys vd bs Fs ss t' :=
 ⟨h.kst, h.em, h.sg, h.bl, h.dz, h.dj, h.fb, h.vo, h.vl, h.gr, h.b0, fun i hi => (h.li i hi).wide ht, h.xl⟩
theorem Dn.keptN {w0 w w' : World} {B base : Nat} {cs : Nat → Value} {L : Nat → List Lst} {ys : Nat → List Value} {vd : Value} {bs : List Nat} {Fs : Nat → Nat → Prop} {ss : Nat → Ds} {t : Nat} (h : Dn w0 w B base cs L ys vd bs Fs ss t) (hg : w.grownBy w' none) : Dn w0 w' B base cs L ys vd bs Fs ss t :=
 ⟨h.kst.keptN kds_ok hg, h.em, h.sg, h.bl, fun i b hb => (h.dz i b hb).keptN hg, h.dj, h.fb, h.vo.kept hg (Classical.em _), h.vl, grown_trans h.gr hg, h.b0, h.li, fun k hk => Nat.lt_of_lt_of_le (h.xl k hk) hg.size⟩
theorem Dn.op {w0 w w' : World} {B base : Nat} {cs : Nat → Value} {L : Nat → List Lst} {ys : Nat → List Value} {vd : Value} {bs : List Nat} {Fs : Nat → Nat → Prop} {ss : Nat → Ds} {t t' : Nat} (h : Dn w0 w B base cs L ys vd bs Fs ss t) {i b : Nat} (hb : bs[i]? = some b) {F' : Nat → Prop} {s' : Ds} (hz : Dz w' b F' s') (hk : Kp w w' (Fs i)) (hF : ∀ k, F' k → Nf (Fs i) w w' k) (hl : Dl s' t') (ht : t ≤ t') :
  ∃ cs', Dn w0 w' B base cs' L ys vd bs (upF Fs i F') (upS ss i s') t' ∧ Kee w w' base cs cs' ∧ ∀ q, q < 42 → cs' q = cs q := by
 have hbl := h.bl
 have hi : i < 8 := by have := (List.getElem?_eq_some_iff.1 hb).1; omega
 have hBl := h.kst.t.box.lt
 have hbB := h.kst.t.bB
 have hb0 := h.b0
 have hsz := hk.size
 obtain ⟨cs', k1, k2, k3, k4⟩ := h.kst.strange (S' := fun k => base ≤ k ∧ ∃ j, j < 9 ∧ upF Fs i F' j k) (T := Fs i) kds_ok h.sg hk (fun k hx => by
   by_cases hc : base ≤ k
   ·exact .inl ⟨hc, i, by omega, hx⟩
   ·exact .inr ⟨by omega, (h.fb i k (by omega) hx).2.1⟩) (fun k hx => by
   obtain ⟨hc, j, hj, hx⟩ := hx
   by_cases e : j = i
   ·subst e
    rw [upF_same] at hx
    rcases hF k hx with y | y
    ·exact .inl ⟨hc, j, hj, y⟩
    ·exact .inr y
   ·rw [upF_far _ _ e] at hx
    exact .inl ⟨hc, j, hj, hx⟩)
 have hvl : ∀ k, vd.ownBlock = some k → k < w.heap.size := fun k e => (h.vo.lt k e).2
 refine ⟨cs', ⟨k2, h.em, k3, h.bl, fun j c hc => ?_, fun j m k hj hm h1 h2 => ?_, fun j k hj hx => ?_, ?_, h.vl, Kp.new h.gr hk (fun k e => (h.fb i k (by omega) e).1), h.b0, fun j hj => ?_, fun k hx => by rw [upF_far _ _ (by omega)] at hx; have := h.xl k hx; omega⟩, k1, k4⟩
 ·by_cases e : j = i
  ·subst e
   rw [upF_same, upS_same]
   rw [hb] at hc
   obtain rfl := Option.some.inj hc
   exact hz
  ·rw [upF_far _ _ e, upS_far _ _ e]
   have hj : j < 8 := by have := (List.getElem?_eq_some_iff.1 hc).1; omega
   exact (h.dz j c hc).kp hk (fun k h1 h2 => e (h.dj j i k (by omega) (by omega) h1 h2))
 ·have hsrc : ∀ a, a < 9 → upF Fs i F' a k → Fs a k ∨ (a = i ∧ w.heap.size ≤ k) := fun a _ hx => by
   by_cases e : a = i
   ·subst e
    rw [upF_same] at hx
    rcases hF k hx with y | y
    ·exact .inl y
    ·exact .inr ⟨rfl, y.1⟩
   ·rw [upF_far _ _ e] at hx
    exact .inl hx
  rcases hsrc j hj h1 with a | ⟨a, a'⟩
  ·rcases hsrc m hm h2 with c | ⟨c, c'⟩
   ·exact h.dj j m k hj hm a c
   ·have := h.low hj a; omega
  ·rcases hsrc m hm h2 with c | ⟨c, c'⟩
   ·have := h.low hm c; omega
   ·omega
 ·by_cases e : j = i
  ·subst e
   rw [upF_same] at hx
   rcases hF k hx with y | y
   ·exact h.fb j k hj y
   ·exact ⟨by have := h.gr.size; omega, by omega, fun e' => by have := hvl k e'; omega⟩
  ·rw [upF_far _ _ e] at hx
   exact h.fb j k hj hx
 ·exact owns_same h.vo (fun k e => hk.block k (hvl k e) (fun hx => (h.fb i k (by omega) hx).2.2 e))
 ·by_cases e : j = i
  ·subst e
   rw [upS_same]
   exact hl
  ·rw [upS_far _ _ e]
   exact (h.li j hj).wide ht
theorem Dn.fresh {w0 w w' : World} {B base : Nat} {cs cs' : Nat → Value} {L L' : Nat → List Lst} {ys ys' : Nat → List Value} {vd : Value} {bs : List Nat} {Fs : Nat → Nat → Prop} {ss ss' : Nat → Ds} {t t' : Nat} (h : Dn w0 w B base cs L ys vd bs Fs ss t) (h' : Dn w0 w' B base cs' L' ys' vd bs Fs ss' t') (e : ∀ q, q < 42 → cs' q = cs q) : ∀ d, w.heap.size ≤ d → Fre base cs' d := fun d hd => by
 have hb := h.kst.t.bB
 refine ⟨by omega, fun q _ hq => ?_⟩
 by_cases h4 : q < 42
 ·rw [e q h4] at hq
  have := (h.kst.t.bk q (by omega) d hq).2
  omega
 ·obtain ⟨⟨_, j, hj, h5⟩, _⟩ := h'.sg.high (by omega) hq
  have := h.low hj h5
  omega
theorem Dn.keep {w0 w w' : World} {B base : Nat} {cs cs' : Nat → Value} {L L' : Nat → List Lst} {ys ys' : Nat → List Value} {vd : Value} {bs : List Nat} {Fs : Nat → Nat → Prop} {ss : Nat → Ds} {t : Nat} (h : Dn w0 w B base cs L ys vd bs Fs ss t) (hf : Kfr w w' B base cs cs') (hk : Kst kdS SameS w' B base cs' L' ys') (he : ∀ j, j < 13 → j ≠ 0 → j ≠ 9 → L' j = []) :
  Dn w0 w' B base cs' L' ys' vd bs Fs ss t := by
 have hbB := h.kst.t.bB
 have hb0 := h.b0
 obtain ⟨s1, s2⟩ := hf.strg h.sg (fun k hx => by
  obtain ⟨_, j, hj, hx⟩ := hx
  exact h.low hj hx)
 have st : ∀ i k, i < 9 → Fs i k → w'.heap[k]? = w.heap[k]? := fun i k hi hx => by
  by_cases hc : base ≤ k
  ·exact s2 k ⟨hc, i, hi, hx⟩
  ·exact hf.low k (h.low hi hx) (by omega) (h.fb i k hi hx).2.1
 have hbl := h.bl
 refine ⟨hk, he, s1, h.bl, fun i b hb => (h.dz i b hb).same hf.size (fun k hx => st i k (by have := (List.getElem?_eq_some_iff.1 hb).1; omega) hx), h.dj, h.fb, owns_same h.vo (fun k e => hf.low k (h.vo.lt k e).2 (h.vl k e).1 (h.vl k e).2), h.vl, hf.grown h.gr h.b0 (by omega), h.b0, h.li, fun k hx => Nat.lt_of_lt_of_le (h.xl k hx) hf.size⟩
theorem Dn.extra {w0 w w' : World} {B base : Nat} {cs : Nat → Value} {L : Nat → List Lst} {ys : Nat → List Value} {vd : Value} {bs : List Nat} {Fs : Nat → Nat → Prop} {ss : Nat → Ds} {t : Nat} (h : Dn w0 w B base cs L ys vd bs Fs ss t) {X : Nat → Prop} (hk : Kp w w' (Fs 8)) (hX : ∀ k, X k → Fs 8 k ∨ w.heap.size ≤ k ∧ k < w'.heap.size) :
  ∃ cs', Dn w0 w' B base cs' L ys vd bs (upF Fs 8 X) ss t := by
 have hbl := h.bl
 have hBl := h.kst.t.box.lt
 have hsz := hk.size
 have hvl : ∀ k, vd.ownBlock = some k → k < w.heap.size := fun k e => (h.vo.lt k e).2
 obtain ⟨cs', k1, k2, k3, k4⟩ := h.kst.strange (S' := fun k => base ≤ k ∧ ∃ j, j < 9 ∧ upF Fs 8 X j k) (T := Fs 8) kds_ok h.sg hk (fun k hx => by
   by_cases hc : base ≤ k
   ·exact .inl ⟨hc, 8, by omega, hx⟩
   ·exact .inr ⟨by omega, (h.fb 8 k (by omega) hx).2.1⟩) (fun k hx => by
   obtain ⟨hc, j, hj, hx⟩ := hx
   by_cases e : j = 8
   ·subst e
    rw [upF_same] at hx
    rcases hX k hx with y | y
    ·exact .inl ⟨hc, 8, by omega, y⟩
    ·exact .inr y
   ·rw [upF_far _ _ e] at hx
    exact .inl ⟨hc, j, hj, hx⟩)
 have hsrc : ∀ a k, a < 9 → upF Fs 8 X a k → Fs a k ∨ (a = 8 ∧ w.heap.size ≤ k ∧ k < w'.heap.size) := fun a k _ hx => by
  by_cases e : a = 8
  ·subst e
   rw [upF_same] at hx
   rcases hX k hx with y | y
   ·exact .inl y
   ·exact .inr ⟨rfl, y⟩
  ·rw [upF_far _ _ e] at hx
   exact .inl hx
 refine ⟨cs', ⟨k2, h.em, k3, h.bl, fun j c hc => ?_, fun j m k hj hm h1 h2 => ?_, fun j k hj hx => ?_, ?_, h.vl, Kp.new h.gr hk (fun k e => (h.fb 8 k (by omega) e).1), h.b0, h.li, fun k hx => ?_⟩⟩
 ·have hj : j < 8 := by have := (List.getElem?_eq_some_iff.1 hc).1; omega
  rw [upF_far _ _ (by omega)]
  exact (h.dz j c hc).kp hk (fun k h1 h2 => by have := h.dj j 8 k (by omega) (by omega) h1 h2; omega)
 ·rcases hsrc j k hj h1 with a | ⟨a, a', _⟩
  ·rcases hsrc m k hm h2 with c | ⟨c, c', _⟩
   ·exact h.dj j m k hj hm a c
   ·have := h.low hj a; omega
  ·rcases hsrc m k hm h2 with c | ⟨c, c', _⟩
   ·have := h.low hm c; omega
   ·omega
 ·rcases hsrc j k hj hx with a | ⟨a, a', _⟩
  ·exact h.fb j k hj a
  ·exact ⟨by have := h.gr.size; omega, by omega, fun e' => by have := hvl k e'; omega⟩
 ·exact owns_same h.vo (fun k e => hk.block k (hvl k e) (fun hx => (h.fb 8 k (by omega) hx).2.2 e))
 ·rcases hsrc 8 k (by omega) hx with a | ⟨_, _, a⟩
  ·have := h.xl k a; omega
  ·exact a
end Go.Proofs.YtedpeggdbedmiaaGreatDoor
namespace Go.Proofs.YtedpeggdbedmiaaGreatDoor
open Go.RowKit Go.MuLone
def bl1 (g n c : Nat) : Lst := ⟨.slice (some ⟨g, 0, none⟩) n c, g, 0, n, c, n, c⟩
theorem rdy_ow {w : World} {base g n c : Nat} {cs : Nat → Value} {zs : List Int} (ho : Ow w g c zs) (hl : zs.length = n) (hn : n ≤ 1099511620000) (hf : Fre base cs g) : Rdy w base cs 1 5 (bl1 g n c) ∧ Tb w base cs (some ⟨g, 0, none⟩) n c zs := by
 obtain ⟨cur, h1, h2, h3⟩ := ho.ex
 have hle := ho.le
 have hmx := ho.max
 refine ⟨⟨⟨by show n ≤ c; omega, by show n = n * 1; omega, by show c = c * 1; omega, by show n ≤ 1099511627776; omega, hmx, ⟨_, rfl, fun _ => rfl⟩⟩, fun j hj => ?_, hn, ⟨cur, _, h1⟩, hf⟩, ⟨ho.byt n hl.symm, fun ad e _ => by obtain rfl := Option.some.inj e; exact hf⟩⟩
 have hj' : j < cur.size := by have : j < c := hj; omega
 refine ⟨⟨cur[j], ?_⟩, ?_⟩
 ·show w.cell? ⟨g, 0 + j, none⟩ = _
  rw [Nat.zero_add, cell_of_row w g j _ _ _ h1]
  exact Array.getElem?_eq_getElem hj'
 ·exact frozen_of_row w g (0 + j) _ _ h1
theorem Rw.ow12 {w : World} {g : Nat} {z : List Int} (h : Rw w g z) (hz : z.length = 4096) : Ow w g 4096 z :=
 ⟨⟨_, h, by simp [hz], fun j hj => by simp [List.getD, List.getElem?_eq_getElem hj]⟩, by omega, by omega⟩
theorem apart_g {s t : Lst} (h : s.C = 0 ∨ s.g ≠ t.g) : s.Apart t := fun i j hi hj e => by
 rcases h with h | h
 ·omega
 ·exact h (by injection e)
theorem lsn_em {L : Nat → List Lst} {D : List Lst} (h : ∀ j, j < 13 → j ≠ 0 → j ≠ 9 → L j = []) (q : Nat) (hq : q = 0 ∨ q = 9) : ∀ j, j < 13 → j ≠ 0 → j ≠ 9 → lsn L q D j = [] := fun j h1 h2 h3 => by
 rw [lsn_far _ _ (by rcases hq with rfl | rfl <;> assumption)]
 exact h j h1 h2 h3
theorem dn_bytes {w0 w : World} {B base : Nat} {cs : Nat → Value} {L : Nat → List Lst} {ys : Nat → List Value} {vd : Value} {bs : List Nat} {Fs : Nat → Nat → Prop} {ss : Nat → Ds} {t g n c : Nat} {zs : List Int} (h : Dn w0 w B base cs L ys vd bs Fs ss t) (hR : Rdy w base cs 1 5 (bl1 g n c) ∧ Tb w base cs (some ⟨g, 0, none⟩) n c zs) (hA : ∀ s ∈ L 0, s.C = 0 ∨ s.g ≠ g) (hm : (L 0).length ≤ 100000) :
  Calls Tryz.prog 10 #[.pointer (some ⟨B, 0, none⟩), .slice (some ⟨g, 0, none⟩) n c] w fun en w' => en = .returned (.tuple #[]) ∧ ∃ cs' ys', Kfr w w' B base cs cs' ∧ Dn w0 w' B base cs' (lsn L 0 [bl1 g n c]) ys' vd bs Fs ss t := by
 refine (kst_bytes kds_ok h.kst rfl rfl (some ⟨g, 0, none⟩) n c zs hR.2 hR.1.n (by omega)).mono ?_
 rintro en w' ⟨rfl, cs', y, hf, h1, _⟩
 exact ⟨rfl, cs', _, hf, h.keep hf (h1 (bl1 g n c) rfl rfl rfl hR.1 (fun s hs => apart_g (hA s hs))) (lsn_em h.em 0 (.inl rfl))⟩
theorem dn_nil {w0 w : World} {B base : Nat} {cs : Nat → Value} {L : Nat → List Lst} {ys : Nat → List Value} {vd : Value} {bs : List Nat} {Fs : Nat → Nat → Prop} {ss : Nat → Ds} {t : Nat} (h : Dn w0 w B base cs L ys vd bs Fs ss t) (hm : (L 0).length ≤ 100000) :
  Calls Tryz.prog 10 #[.pointer (some ⟨B, 0, none⟩), .slice none 0 0] w fun en w' => en = .returned (.tuple #[]) ∧ ∃ cs' ys' s, Kfr w w' B base cs cs' ∧ s.C = 0 ∧ Dn w0 w' B base cs' (lsn L 0 [s]) ys' vd bs Fs ss t := by
 refine (kst_bytes kds_ok h.kst rfl rfl none 0 0 [] (Tb.none' _ _ _) (by omega) (by omega)).mono ?_
 rintro en w' ⟨rfl, cs', y, hf, _, h1⟩
 obtain ⟨s, _, hs, h2⟩ := h1 rfl rfl
 exact ⟨rfl, cs', _, s, hf, hs, h.keep hf h2 (lsn_em h.em 0 (.inl rfl))⟩
theorem dn_writes {w0 wp w : World} {B base : Nat} {cs : Nat → Value} {L : Nat → List Lst} {ys : Nat → List Value} {vd : Value} {bs : List Nat} {Fs : Nat → Nat → Prop} {ss : Nat → Ds} {t g : Nat} {ql : List (Nat × Nat × List Int)} (h : Dn w0 w B base cs L ys vd bs Fs ss t) (hW : Wl wp w g ql) (hfr : ∀ d, wp.heap.size ≤ d → d < w.heap.size → Fre base cs d) (hA : ∀ j, j < 13 → ∀ s ∈ L j, s.C = 0 ∨ s.g < wp.heap.size) (hq : ql.length ≤ 1000) (hm : (L 0).length ≤ 100000) (hm9 : (L 9).length ≤ 100000) :
  Calls Tryz.prog 11 #[.pointer (some ⟨B, 0, none⟩), .slice (some ⟨g, 0, none⟩) ql.length ql.length] w fun en w' => en = .returned (.tuple #[]) ∧ ∃ cs' L' ys', Kfr w w' B base cs cs' ∧ Dn w0 w' B base cs' L' ys' vd bs Fs ss t ∧ (L' 0).length = (L 0).length + ql.length ∧ (L' 9).length = (L 9).length + 1 := by
 have hgl : g < w.heap.size := (Array.getElem?_eq_some_iff.1 hW.row).1
 have hfg : Fre base cs g := hfr g hW.ge hgl
 have hrd : ∀ p ∈ ql, Rdy w base cs 1 5 (bl1 p.2.1 4096 4096) ∧ Tb w base cs (some ⟨p.2.1, 0, none⟩) 4096 4096 p.2.2 := fun p hp => by
  obtain ⟨r1, r2, r3, r4⟩ := hW.rw p hp
  exact rdy_ow (r1.ow12 r3) r3 (by omega) (hfr p.2.1 (by have := hW.ge; omega) r1.lt)
 have hcell : ∀ j p, ql[j]? = some p → w.cell? ⟨g, j * 2, none⟩ = some (.int .i64 p.1) ∧ w.cell? ⟨g, j * 2 + 1, none⟩ = some (.slice (some ⟨p.2.1, 0, none⟩) 4096 4096) := fun j p hj => by
  obtain ⟨q1, q2⟩ := wcells_at ql j p hj
  have hc := fun i => cell_of_row w g i _ _ _ hW.row
  exact ⟨by rw [hc, List.getElem?_toArray, Nat.mul_comm]; exact q1, by rw [hc, List.getElem?_toArray, Nat.mul_comm j 2]; exact q2⟩
 have hwl : (wcells ql).length = ql.length * 2 := wcells_len ql
 refine (kst_writes kds_ok h.kst rfl rfl rfl rfl (some ⟨g, 0, none⟩) ql.length ql.length ql (ql.map fun p => bl1 p.2.1 4096 4096) ⟨fun j p hj => ?_⟩ rfl (by omega) (fun p hp => (hW.rw p hp).2.2.1) (by simp) (fun i hi => ?_) (fun s hs => ?_) ?_ (fun a ha s hs => ?_) (by omega) (by omega)).mono ?_
 ·obtain ⟨c1, c2⟩ := hcell j p hj
  exact ⟨g, rfl, c1, c2, (hrd p (List.mem_of_getElem? hj)).2, hfg⟩
 ·have hg := List.getElem?_eq_getElem hi
  exact ⟨g, _, rfl, by rw [List.getElem?_map, hg]; rfl, (hcell i _ hg).2⟩
 ·obtain ⟨p, hp, rfl⟩ := List.mem_map.1 hs
  exact (hrd p hp).1
 ·rw [List.pairwise_map]
  exact hW.pw.imp (fun {a b} hab => apart_g (.inr (by show a.2.1 ≠ b.2.1; omega)))
 ·obtain ⟨p, hp, rfl⟩ := List.mem_map.1 hs
  refine apart_g ((hA 0 (by omega) a ha).elim .inl (fun y => .inr ?_))
  have h5 := (hW.rw p hp).2.1
  have h6 := hW.ge
  show a.g ≠ p.2.1
  omega
 ·rintro en w' ⟨rfl, cs', YY, y, hf, h1, _⟩
  have hs : Rdy w base cs 2 78 ⟨.slice (some ⟨g, 0, none⟩) ql.length ql.length, g, 0, ql.length, ql.length, ql.length * 2, ql.length * 2⟩ := by
   refine ⟨⟨Nat.le_refl _, rfl, rfl, by show ql.length ≤ 1099511627776; omega, by show ql.length ≤ 9223372036854775807; omega, ⟨_, rfl, fun _ => rfl⟩⟩, fun j hj => ?_, by show ql.length ≤ 1099511620000; omega, ⟨_, _, hW.row⟩, hfg⟩
   have hj' : j < (wcells ql).toArray.size := by have : j < ql.length * 2 := hj; simp; omega
   refine ⟨⟨(wcells ql).toArray[j], ?_⟩, frozen_of_row w g (0 + j) _ _ hW.row⟩
   show w.cell? ⟨g, 0 + j, none⟩ = _
   rw [Nat.zero_add, cell_of_row w g j _ _ _ hW.row]
   exact Array.getElem?_eq_getElem hj'
  have h2 := h1 _ rfl rfl rfl hs (fun a ha => by
   rw [lsn_far _ _ (by omega)] at ha
   exact apart_g ((hA 9 (by omega) a ha).elim .inl (fun y => .inr (by show a.g ≠ g; have := hW.ge; omega))))
  refine ⟨rfl, cs', _, _, hf, h.keep hf h2 (lsn_em (lsn_em h.em 0 (.inl rfl)) 9 (.inr rfl)), ?_, ?_⟩
  ·rw [lsn_far _ _ (by omega), lsn_same]; simp
  ·rw [lsn_same, lsn_far _ _ (by omega)]; simp
end Go.Proofs.YtedpeggdbedmiaaGreatDoor
namespace Go.Proofs.YtedpeggdbedmiaaGreatDoor
open Go.RowKit Go.MuLone
theorem Dl.put {s : Ds} {t : Nat} (h : Dl s t) (i : Nat) (z : List Int) : Dl (s.put i z) (t + 1) :=
 ⟨by show (s.left == 1) = false; rw [h.left]; rfl, by show s.left - 1 = 0; rw [h.left], Nat.succ_le_succ h.done, Nat.le_succ_of_le h.reads⟩
theorem Dl.sync {s : Ds} {t : Nat} (h : Dl s t) : Dl s.sync (t + 1) :=
 ⟨by show (s.left == 1) = false; rw [h.left]; rfl, by show s.left - 1 = 0; rw [h.left], Nat.succ_le_succ h.done, Nat.le_succ_of_le h.reads⟩
theorem Dl.read {s : Ds} {t : Nat} (h : Dl s t) : Dl s.read (t + 1) := ⟨h.off, h.left, Nat.le_succ_of_le h.done, Nat.succ_le_succ h.reads⟩
theorem Dz.ql {w : World} {b : Nat} {F : Nat → Prop} {s : Ds} (h : Dz w b F s) : s.Q.length ≤ s.done := by
 obtain ⟨d, h1, rfl⟩ := h
 have := h1.dm.pc
 simpa [Dd.abs] using this
theorem Dz.ll {w : World} {b : Nat} {F : Nat → Prop} {s : Ds} (h : Dz w b F s) : s.L.length ≤ s.cap := by
 have := h.le
 unfold Ds.pages at this
 have key : ∀ (Q : List (Nat × List Int)) (n : Nat), n ≤ Q.foldl (fun n q => max n (q.1 + 1)) n := fun Q => by
  induction Q with
  | nil => intro n; exact Nat.le_refl _
  | cons q Q ih => intro n; exact Nat.le_trans (Nat.le_max_left _ _) (ih _)
 have := key s.Q s.L.length
 omega
theorem upF_id (f : Nat → Nat → Prop) (i : Nat) : upF f i (f i) = f := by
 funext j
 unfold upF
 split
 ·rename_i e
  rw [e]
 ·rfl
theorem upS_id (f : Nat → Ds) (i : Nat) : upS f i (f i) = f := by
 funext j
 unfold upS
 split
 ·rename_i e
  rw [e]
 ·rfl
theorem dn_write {w0 w W : World} {B base : Nat} {cs : Nat → Value} {L : Nat → List Lst} {ys : Nat → List Value} {vd : Value} {bs : List Nat} {Fs : Nat → Nat → Prop} {ss : Nat → Ds} {t i b : Nat} (h : Dn w0 w B base cs L ys vd bs Fs ss t) (hb : bs[i]? = some b) (ht : t ≤ 1000000) (no x : Int) (hx : 0 ≤ x ∧ x ≤ 255) (h1 : w.grownBy W none) (h2 : Rw W w.heap.size (fp x)) :
  Calls Tryz.prog 6 #[.pointer (some ⟨b, 0, none⟩), .int .i64 no, .slice (some ⟨w.heap.size, 0, none⟩) 4096 4096] W fun e w' => ∃ r cs' Fs' ss', e = .returned (.int .i64 r) ∧ Dn w0 w' B base cs' L ys vd bs Fs' ss' (t + 1) := by
 have hbl := h.bl
 have hi : i < 8 := by have := (List.getElem?_eq_some_iff.1 hb).1; omega
 have h' := h.keptN h1
 have d := h'.dz i b hb
 have li := h.li i hi
 by_cases hr : (ss i).refuse no 4096 = 0
 ·have h0 : 0 ≤ no := by
   unfold Ds.refuse at hr
   by_cases hc : no < 0 ∨ (ss i).pages < no
   ·rw [if_pos hc] at hr; cases hr
   ·omega
  obtain ⟨j, rfl⟩ := Int.eq_ofNat_of_zero_le h0
  refine (dz_write d j _ 4096 (fp x) (h2.all 4096 4096 (fp_len x).symm) (fun ad e hf => ?_) (fp_bt hx) hr (by have := li.done; omega) (by rw [li.left]; omega)).mono ?_
  ·rw [← Option.some.inj e] at hf
   have := (h.dz i b hb).low _ hf
   simp at this
  ·rintro e w' ⟨rfl, hz, hk⟩
   obtain ⟨cs', h3, _⟩ := h'.op hb hz hk (fun k e => e) (li.put j (fp x)) (Nat.le_succ t)
   exact ⟨_, cs', _, _, rfl, h3⟩
 ·refine (dz_write_no d no _ 4096 4096 hr).mono ?_
  rintro e w' ⟨rfl, hz, hk⟩
  obtain ⟨cs', h3, _⟩ := h'.op hb hz hk (fun k e => .inl e) (li.wide (Nat.le_succ t)) (Nat.le_succ t)
  exact ⟨_, cs', _, _, rfl, h3⟩
theorem dn_sync {w0 w : World} {B base : Nat} {cs : Nat → Value} {L : Nat → List Lst} {ys : Nat → List Value} {vd : Value} {bs : List Nat} {Fs : Nat → Nat → Prop} {ss : Nat → Ds} {t i b : Nat} (h : Dn w0 w B base cs L ys vd bs Fs ss t) (hb : bs[i]? = some b) (ht : t ≤ 1000000) :
  Calls Tryz.prog 8 #[.pointer (some ⟨b, 0, none⟩)] w fun e w' => ∃ r cs' Fs' ss', e = .returned (.int .i64 r) ∧ Dn w0 w' B base cs' L ys vd bs Fs' ss' (t + 1) := by
 have hbl := h.bl
 have hi : i < 8 := by have := (List.getElem?_eq_some_iff.1 hb).1; omega
 have li := h.li i hi
 refine (dz_sync (h.dz i b hb) li.off (by rw [li.left]; decide) (by have := li.done; omega) (by rw [li.left]; omega)).mono ?_
 rintro e w' ⟨rfl, hz, hk⟩
 obtain ⟨cs', h3, _⟩ := h.op hb hz hk (fun k e => e) li.sync (Nat.le_succ t)
 exact ⟨_, cs', _, _, rfl, h3⟩
theorem dn_read {w0 w : World} {B base : Nat} {cs : Nat → Value} {L : Nat → List Lst} {ys : Nat → List Value} {vd : Value} {bs : List Nat} {Fs : Nat → Nat → Prop} {ss : Nat → Ds} {t i b : Nat} (h : Dn w0 w B base cs L ys vd bs Fs ss t) (hb : bs[i]? = some b) (ht : t ≤ 1000000) (hp : 0 < (ss i).pages) :
  Calls Tryz.prog 9 #[.pointer (some ⟨b, 0, none⟩), .int .i64 0] w fun e w' => ∃ g z cs' ss', e = .returned (.tuple #[.slice (some ⟨g, 0, none⟩) 4096 4096, .int .i64 0]) ∧ Kee w w' base cs cs' ∧ Dn w0 w' B base cs' L ys vd bs Fs ss' (t + 1) ∧ Rw w' g z ∧ w.heap.size ≤ g ∧ z.length = 4096 ∧ 0 < (ss' i).pages ∧ ∀ d, w.heap.size ≤ d → Fre base cs' d := by
 have hbl := h.bl
 have hi : i < 8 := by have := (List.getElem?_eq_some_iff.1 hb).1; omega
 have li := h.li i hi
 refine (dz_read (h.dz i b hb) 0 hp li.off (by have := li.reads; omega)).mono ?_
 rintro e w' ⟨g, rfl, hr, hg, hl, _, hz, hk⟩
 obtain ⟨cs', h3, h4, h5⟩ := h.op hb hz hk (fun k e => .inl e) li.read (Nat.le_succ t)
 rw [upF_id] at h3
 exact ⟨g, _, cs', _, rfl, h4, h3, hr, hg, hl, by rw [upS_same]; exact hp, h.fresh h3 h5⟩
theorem dn_read_no {w0 w : World} {B base : Nat} {cs : Nat → Value} {L : Nat → List Lst} {ys : Nat → List Value} {vd : Value} {bs : List Nat} {Fs : Nat → Nat → Prop} {ss : Nat → Ds} {t i b : Nat} (h : Dn w0 w B base cs L ys vd bs Fs ss t) (hb : bs[i]? = some b) (hp : (ss i).pages = 0) :
  Calls Tryz.prog 9 #[.pointer (some ⟨b, 0, none⟩), .int .i64 0] w fun e w' => ∃ cs', e = .returned (.tuple #[.slice none 0 0, .int .i64 121]) ∧ Dn w0 w' B base cs' L ys vd bs Fs ss t := by
 have hbl := h.bl
 have hi : i < 8 := by have := (List.getElem?_eq_some_iff.1 hb).1; omega
 refine (dz_read_no (h.dz i b hb) 0 (.inr (by omega))).mono ?_
 rintro e w' ⟨rfl, hz, hk⟩
 obtain ⟨cs', h3, h4, h5⟩ := h.op hb hz hk (fun k e => .inl e) (h.li i hi) (Nat.le_refl t)
 rw [upF_id, upS_id] at h3
 exact ⟨cs', rfl, h3⟩
theorem dn_pending {w0 w : World} {B base : Nat} {cs : Nat → Value} {L : Nat → List Lst} {ys : Nat → List Value} {vd : Value} {bs : List Nat} {Fs : Nat → Nat → Prop} {ss : Nat → Ds} {t i b : Nat} (h : Dn w0 w B base cs L ys vd bs Fs ss t) (hb : bs[i]? = some b) (ht : t ≤ 1000000) :
  Calls Tryz.prog 12 #[.pointer (some ⟨b, 0, none⟩)] w fun e w' => ∃ g ql cs', e = .returned (.slice (some ⟨g, 0, none⟩) ql.length ql.length) ∧ Wl w w' g ql ∧ ql.length ≤ t ∧ Kee w w' base cs cs' ∧ Dn w0 w' B base cs' L ys vd bs Fs ss t ∧ ∀ d, w.heap.size ≤ d → Fre base cs' d := by
 have hbl := h.bl
 have hi : i < 8 := by have := (List.getElem?_eq_some_iff.1 hb).1; omega
 have li := h.li i hi
 refine (dz_pending (h.dz i b hb) (by have := li.done; omega)).mono ?_
 rintro e w' ⟨g, ql, rfl, hw, hq, hz, hk⟩
 have hl : ql.length = (ss i).Q.length := by rw [← hq]; simp
 obtain ⟨cs', h3, h4, h5⟩ := h.op hb hz hk (fun k e => .inl e) li (Nat.le_refl t)
 rw [upF_id, upS_id] at h3
 have := (h.dz i b hb).ql
 exact ⟨g, ql, cs', by rw [hl], hw, by have := li.done; omega, h4, h3, h.fresh h3 h5⟩
theorem dn_durable {w0 w : World} {B base : Nat} {cs : Nat → Value} {L : Nat → List Lst} {ys : Nat → List Value} {vd : Value} {bs : List Nat} {Fs : Nat → Nat → Prop} {ss : Nat → Ds} {t i b : Nat} (h : Dn w0 w B base cs L ys vd bs Fs ss t) (hb : bs[i]? = some b) :
  Calls Tryz.prog 13 #[.pointer (some ⟨b, 0, none⟩)] w fun e w' => ∃ g n C cs', e = .returned (.slice (some ⟨g, 0, none⟩) n C) ∧ Ow w' g C (ss i).L.flatten ∧ (ss i).L.flatten.length = n ∧ n ≤ 4294967296 ∧ w.heap.size ≤ g ∧ Kee w w' base cs cs' ∧ Dn w0 w' B base cs' L ys vd bs Fs ss t ∧ (∀ d, w.heap.size ≤ d → Fre base cs' d) ∧ Kp w w' (Fs i) := by
 have hbl := h.bl
 have hi : i < 8 := by have := (List.getElem?_eq_some_iff.1 hb).1; omega
 have li := h.li i hi
 refine (dz_durable (h.dz i b hb)).mono ?_
 rintro e w' ⟨g, n, C, rfl, hn, ho, hz, hk⟩
 obtain ⟨cs', h3, h4, h5⟩ := h.op hb hz hk (fun k e => .inl e) li (Nat.le_refl t)
 rw [upF_id, upS_id] at h3
 obtain ⟨o1, o2, o3, o4⟩ := Ow.of_owns ho
 have hll := (h.dz i b hb).ll
 have hcp := (h.dz i b hb).cap
 exact ⟨g, n, C, cs', rfl, o1, o2, by omega, o3, h4, h3, h.fresh h3 h5, hk⟩
end Go.Proofs.YtedpeggdbedmiaaGreatDoor
namespace Go.Proofs.YtedpeggdbedmiaaGreatDoor
open Go.RowKit Go.MuLone
theorem info_diskp : (Tryz.prog.info? 41).map (fun i => (i.zero, i.size, i.bytes)) = some (some (.pointer none), 1, 8) := by kernel_rfl
def dz0 : Ds := ⟨20, 0, false, 0, 0, [], []⟩
structure D1 (w0 w : World) (B : Nat) (vd : Value) (bs : List Nat) (Fs : Nat → Nat → Prop) : Prop where
 bx : Kbx w B kcs0
 dz : ∀ i b, bs[i]? = some b → Dz w b (Fs i) dz0
 nf : ∀ i k, bs.length ≤ i → ¬ Fs i k
 dj : ∀ i j k, Fs i k → Fs j k → i = j
 fb : ∀ i k, Fs i k → w0.heap.size ≤ k ∧ k ≠ B ∧ vd.ownBlock ≠ some k
 vo : w.ownsRow w0.heap.size 41 1 vd bs.length (bs.map fun b => .pointer (some ⟨b, 0, none⟩))
 vB : vd.ownBlock ≠ some B
 gr : w0.grownBy w none
 b0 : w0.heap.size ≤ B
theorem D1.low {w0 w : World} {B : Nat} {vd : Value} {bs : List Nat} {Fs : Nat → Nat → Prop} (h : D1 w0 w B vd bs Fs) {i k : Nat} (hk : Fs i k) : k < w.heap.size := by
 by_cases hi : i < bs.length
 ·exact (h.dz i _ (List.getElem?_eq_getElem hi)).low k hk
 ·exact absurd hk (h.nf i k (by omega))
theorem D1.add {w0 w w1 wA w' : World} {B b : Nat} {vd vd' : Value} {bs : List Nat} {Fs : Nat → Nat → Prop} {F : Nat → Prop} (h : D1 w0 w B vd bs Fs) (hg : w.grownBy w1 none) (hz : Dz w1 b F dz0) (hF : ∀ k, F k → w.heap.size ≤ k ∧ k < w1.heap.size) (hA : w1.grownBy wA none)
  (hg' : wA.grownBy w' vd.ownBlock) (own : w'.ownsRow w0.heap.size 41 1 vd' (bs.length + 1) ((bs.map fun b => .pointer (some ⟨b, 0, none⟩)) ++ [.pointer (some ⟨b, 0, none⟩)])) (loc : vd'.ownBlock = vd.ownBlock ∨ vd'.ownBlock = some wA.heap.size) : D1 w0 w' B vd' (bs ++ [b]) (upF Fs bs.length F) := by
 have s0 := h.gr.size
 have s1 := hg.size
 have s2 := hA.size
 have s3 := hg'.size
 have hBl := h.bx.lt
 have hvl : ∀ k, vd.ownBlock = some k → w0.heap.size ≤ k ∧ k < w.heap.size := fun k e => h.vo.lt k e
 have ga := grown_trans hg hA
 have nv : ∀ k, vd'.ownBlock = some k → vd.ownBlock = some k ∨ wA.heap.size ≤ k := fun k e => by
  rcases loc with l | l
  ·exact .inl (by rw [← l]; exact e)
  ·rw [l] at e; exact .inr (by have := Option.some.inj e; omega)
 have src : ∀ i k, upF Fs bs.length F i k → Fs i k ∨ (i = bs.length ∧ F k) := fun i k hx => by
  by_cases e : i = bs.length
  ·subst e; rw [upF_same] at hx; exact .inr ⟨rfl, hx⟩
  ·rw [upF_far _ _ e] at hx; exact .inl hx
 refine ⟨(h.bx.kept ga (by simp)).kept hg' (fun e => h.vB e.symm), fun i c hc => ?_, fun i k hi hx => ?_, fun i j k h1 h2 => ?_, fun i k hx => ?_, ?_, fun e => ?_, ?_, h.b0⟩
 ·rw [List.getElem?_append] at hc
  split at hc
  ·rename_i hi
   rw [upF_far _ _ (by omega)]
   exact ((h.dz i c hc).keptN ga).kept hg' (fun k e hx => (h.fb i k hx).2.2 e)
  ·rename_i hi
   have e : i = bs.length := by have := (List.getElem?_eq_some_iff.1 hc).1; simp at this; omega
   subst e
   rw [Nat.sub_self] at hc
   have e2 : b = c := by simpa using hc
   subst e2
   rw [upF_same]
   exact (hz.keptN hA).kept hg' (fun k e hx => by have := hvl k e; have := (hF k hx).1; omega)
 ·rw [List.length_append] at hi
  have hi' : bs.length + 1 ≤ i := hi
  rcases src i k hx with a | a
  ·exact h.nf i k (by omega) a
  ·omega
 ·rcases src i k h1 with a | ⟨a, a'⟩
  ·rcases src j k h2 with c | ⟨c, c'⟩
   ·exact h.dj i j k a c
   ·have := h.low a; have := (hF k c').1; omega
  ·rcases src j k h2 with c | ⟨c, c'⟩
   ·have := h.low c; have := (hF k a').1; omega
   ·omega
 ·rcases src i k hx with a | ⟨a, a'⟩
  ·obtain ⟨x1, x2, x3⟩ := h.fb i k a
   exact ⟨x1, x2, fun e => (nv k e).elim x3 (fun y => by have := h.low a; omega)⟩
  ·have := hF k a'
   exact ⟨by omega, by omega, fun e => (nv k e).elim (fun y => by have := hvl k y; omega) (fun y => by omega)⟩
 ·rw [List.length_append, List.map_append]; exact own
 ·exact (nv B e).elim h.vB (fun y => by omega)
 ·have g1 := grown_trans h.gr ga
  exact ⟨hg'.os.trans g1.os, hg'.tape.trans g1.tape, hg'.output.trans g1.output, Nat.le_trans g1.size hg'.size, fun q hq hn => (hg'.block q (Nat.lt_of_lt_of_le hq g1.size) (fun e => by have := hvl q e.symm; omega)).trans (g1.block q hq hn)⟩
theorem D1.dn {w0 w : World} {B : Nat} {vd : Value} {bs : List Nat} {Fs : Nat → Nat → Prop} (h : D1 w0 w B vd bs Fs) (hl : bs.length = 8) : Dn w0 w B w.heap.size kcs0 (fun _ => []) (fun _ => []) vd bs Fs (fun _ => dz0) 0 := by
 have hBl := h.bx.lt
 refine ⟨kst_new kds_ok h.bx hBl (Nat.le_refl _), fun j _ _ _ => rfl, fun q hq => ⟨fun hx => ?_, fun _ => kcs0_none q⟩, hl, h.dz, fun i j k _ _ => h.dj i j k, fun i k _ => h.fb i k, by rw [← hl]; exact h.vo, fun k e => ⟨(h.vo.lt k e).2, fun e2 => h.vB (by rw [← e2]; exact e)⟩, h.gr, h.b0, fun i _ => ⟨rfl, rfl, Nat.le_refl _, Nat.le_refl _⟩, fun k hx => h.low hx⟩
 obtain ⟨h1, i, _, h2⟩ := hx
 have := h.low h2
 omega
def Dx (w0 w : World) (B base : Nat) (vd : Value) (bs : List Nat) (t c : Nat) : Prop := ∃ cs L ys Fs ss, Dn w0 w B base cs L ys vd bs Fs ss t ∧ (L 0).length ≤ c ∧ (L 9).length ≤ c
end Go.Proofs.YtedpeggdbedmiaaGreatDoor
