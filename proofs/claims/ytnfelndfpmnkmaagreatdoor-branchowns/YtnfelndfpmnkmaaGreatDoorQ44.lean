import Derived.Test.YtnfelndfpmnkmaaGreatDoorQ18
import Derived.Test.YtnfelndfpmnkmaaGreatDoorQ20
import Derived.Test.YtnfelndfpmnkmaaGreatDoorQ24
import Derived.Test.YtnfelndfpmnkmaaGreatDoorQ43
namespace Go.Proofs.YtnfelndfpmnkmaaGreatDoor
open Go.RowKit
structure Cb (w0 wl : World) (B base : Nat) (w : World) (cs : Nat → Value) (L : Nat → List Lst) (H : Nat) : Prop where
 k : ∃ ys, Kst kdS SameS w B base cs L ys
 g : w0.grownBy w none
 gl : wl.grownBy w (some B)
 lim : ∀ i, ∀ t ∈ L i, t.C = 0 ∨ t.g < H
 no : ∀ i, i ≠ 0 → i ≠ 3 → i ≠ 7 → L i = []
structure Cd (w0 wl : World) (B base : Nat) : Prop where
 b : w0.heap.size ≤ B ∧ B < base
 l : wl.heap.size = base
theorem Cb.n {w0 wl : World} {B base : Nat} {w w' : World} {cs : Nat → Value} {L : Nat → List Lst} {H : Nat} (h : Cb w0 wl B base w cs L H) (hg : w.grownBy w' none) : Cb w0 wl B base w' cs L H := by
 obtain ⟨ys, hk⟩ := h.k
 exact ⟨⟨ys, hk.keptN kds_ok hg⟩, grown_trans h.g hg, grown_ownR h.gl hg (by simp), h.lim, h.no⟩
theorem Cb.f {w0 wl : World} {B base : Nat} {w w' : World} {cs cs' : Nat → Value} {L L' : Nat → List Lst} {H H' : Nat} (hc : Cd w0 wl B base) (h : Cb w0 wl B base w cs L H) (hf : Kfr w w' B base cs cs') (hk : ∃ ys, Kst kdS SameS w' B base cs' L' ys) (hlim : ∀ i, ∀ t ∈ L' i, t.C = 0 ∨ t.g < H') (hno : ∀ i, i ≠ 0 → i ≠ 3 → i ≠ 7 → L' i = []) : Cb w0 wl B base w' cs' L' H' :=
 ⟨hk, hf.grown h.g hc.b.1 (by have := hc.b; omega), ⟨hf.os.trans h.gl.os, hf.tape.trans h.gl.tape, hf.output.trans h.gl.output, Nat.le_trans h.gl.size hf.size, fun i hi hne => (hf.low i (Nat.lt_of_lt_of_le hi h.gl.size) (by have := hc.l; omega) (fun e => hne (by rw [e]))).trans (h.gl.block i hi hne)⟩, hlim, hno⟩
theorem Cb.new {w0 wl : World} {B base : Nat} {w : World} {cs : Nat → Value} {L : Nat → List Lst} {H : Nat} (h : Cb w0 wl B base w cs L H) {d : Nat} (hd : w.heap.size ≤ d) : Fre base cs d := by
 obtain ⟨ys, hk⟩ := h.k
 exact hk.t.new hd
theorem Cb.base {w0 wl : World} {B base : Nat} {w : World} {cs : Nat → Value} {L : Nat → List Lst} {H : Nat} (h : Cb w0 wl B base w cs L H) : base ≤ w.heap.size := by
 obtain ⟨ys, hk⟩ := h.k
 exact hk.t.bB.2
theorem Cb.top {w0 wl : World} {B base : Nat} {w : World} {cs : Nat → Value} {L : Nat → List Lst} {H : Nat} (h : Cb w0 wl B base w cs L H) : Cb w0 wl B base w cs L w.heap.size := by
 refine ⟨h.k, h.g, h.gl, fun i t ht => Or.inr ?_, h.no⟩
 obtain ⟨ys, hk⟩ := h.k
 rcases Nat.lt_or_ge i 13 with hi | hi
 ·exact hk.lt hi ht
 ·rw [h.no i (by omega) (by omega) (by omega)] at ht; simp at ht
theorem Cb.stranger {w0 wl : World} {B base : Nat} {w w' : World} {cs : Nat → Value} {L : Nat → List Lst} {H : Nat} (h : Cb w0 wl B base w cs L H) (hg : w.grownBy w' none) (D : Nat) (hD : w.heap.size ≤ D) (hD2 : D < w'.heap.size) : Kee w w' base cs (kup cs 41 (.slice (some ⟨D, 0, none⟩) 0 0)) ∧ Cb w0 wl B base w' (kup cs 41 (.slice (some ⟨D, 0, none⟩) 0 0)) L H := by
 obtain ⟨ys, hk⟩ := h.k
 obtain ⟨k1, k2⟩ := hk.stranger kds_ok hg D hD hD2
 exact ⟨k1, ⟨⟨ys, k2⟩, grown_trans h.g hg, grown_ownR h.gl hg (by simp), h.lim, h.no⟩⟩
theorem Cb.off {w0 wl : World} {B base : Nat} {w w' : World} {cs : Nat → Value} {L : Nat → List Lst} {H D : Nat} (hc : Cd w0 wl B base) (h : Cb w0 wl B base w cs L H) (hD : (cs 41).ownBlock = some D) (hg : w.grownBy w' (some D)) : Cb w0 wl B base w' cs L H := by
 obtain ⟨ys, hk⟩ := h.k
 have hb := (hk.t.bk 41 (by omega) D hD).1
 have := hc.b
 have := hc.l
 exact ⟨⟨ys, hk.off kds_ok hD hg⟩, grown_new h.g hg (by omega), grown_ownR h.gl hg (fun g e => by have := Option.some.inj e; omega), h.lim, h.no⟩
theorem apart_newB {t s : Lst} {H : Nat} (h : t.C = 0 ∨ t.g < H) (hs : H ≤ s.g) : t.Apart s := fun i j hi hj e => by
 rcases h with h | h
 ·omega
 ·injection e with e1; omega
structure Wr (w : World) (base : Nat) (cs : Nat → Value) (lo : Nat) (t : TypeId) (W : Nat) (v : Value) (n : Nat) (xs : List Value) : Prop where
 own : w.ownsRow lo t W v n xs
 fr : ∀ i, v.ownBlock = some i → Fre base cs i
theorem Wr.kee {w w' : World} {base : Nat} {cs cs' : Nat → Value} {lo : Nat} {t : TypeId} {W : Nat} {v : Value} {n : Nat} {xs : List Value} (h : Wr w base cs lo t W v n xs) (k : Kee w w' base cs cs') : Wr w' base cs' lo t W v n xs :=
 ⟨owns_block h.own (fun i hi => (k.block i (h.own.lt i hi).2 (h.fr i hi)).1), fun i hi => (k.block i (h.own.lt i hi).2 (h.fr i hi)).2⟩
theorem Wr.n {w w' : World} {base : Nat} {cs : Nat → Value} {lo : Nat} {t : TypeId} {W : Nat} {v : Value} {n : Nat} {xs : List Value} (h : Wr w base cs lo t W v n xs) (hg : w.grownBy w' none) : Wr w' base cs lo t W v n xs := h.kee (Kfr.of (B := 0) hg).toKee
structure Sw (w : World) (base : Nat) (cs : Nat → Value) (lo : Nat) (xs : List Value) (L : List (List Int)) : Prop where
 len : xs.length = L.length
 ex : ∃ gf : Nat → Nat, (∀ j, j < L.length → xs[j]? = some (.slice (some ⟨gf j, 0, none⟩) (L.getD j []).length (L.getD j []).length) ∧ Rw w (gf j) (L.getD j []) ∧ lo ≤ gf j ∧ (L.getD j []).length ≤ 20000 ∧ Fre base cs (gf j)) ∧ ∀ j j', j < j' → j' < L.length → gf j < gf j'
theorem Sw.kee {w w' : World} {base : Nat} {cs cs' : Nat → Value} {lo : Nat} {xs : List Value} {L : List (List Int)} (h : Sw w base cs lo xs L) (k : Kee w w' base cs cs') : Sw w' base cs' lo xs L := by
 obtain ⟨gf, h1, h2⟩ := h.ex
 refine ⟨h.len, gf, fun j hj => ?_, h2⟩
 obtain ⟨k1, k2, k3, k4, k5⟩ := h1 j hj
 exact ⟨k1, (k.block _ k2.lt k5).1.trans k2, k3, k4, (k.block _ k2.lt k5).2⟩
theorem Sw.n {w w' : World} {base : Nat} {cs : Nat → Value} {lo : Nat} {xs : List Value} {L : List (List Int)} (h : Sw w base cs lo xs L) (hg : w.grownBy w' none) : Sw w' base cs lo xs L := h.kee (Kfr.of (B := 0) hg).toKee
theorem rdy_own {w : World} {base : Nat} {cs : Nat → Value} {lo : Nat} {t : TypeId} {W g n cap : Nat} {xs : List Value} (h : Wr w base cs lo t W (.slice (some ⟨g, 0, none⟩) n cap) n xs) (hn : n ≤ 5000) : Rdy w base cs W t ⟨.slice (some ⟨g, 0, none⟩) n cap, g, 0, n, cap, n * W, cap * W⟩ := by
 obtain ⟨l1, l2⟩ := kowns_le h.own
 exact ⟨⟨l1, rfl, rfl, by show n ≤ _; omega, l2, _, rfl, fun _ => rfl⟩, fun j hj => ⟨by obtain ⟨u, hu⟩ := kowns_there h.own j hj; exact ⟨u, by rw [Nat.zero_add]; exact hu⟩, by rw [Nat.zero_add]; exact h.own.frozenAt j⟩, by show n ≤ _; omega, blk_own h.own g rfl, h.fr g rfl⟩
theorem keep_c {w0 wl : World} {B base : Nat} {w : World} {cs : Nat → Value} {L : Nat → List Lst} {H G : Nat} {zs : List Int} (hc : Cd w0 wl B base) (h : Cb w0 wl B base w cs L H) (hr : Rw w G zs) (hf : Fre base cs G) (hG : H ≤ G) (hz : zs.length = 4092) (hL : (L 0).length ≤ 1000) :
  Calls Tryz.prog 16 #[.pointer (some ⟨B, 0, none⟩), .slice (some ⟨G, 0, none⟩) 4092 4092] w fun en w' => en = .returned (.tuple #[]) ∧ ∃ cs' s, Cb w0 wl B base w' cs' (lsn L 0 [s]) (G + 1) ∧ Kfr w w' B base cs cs' := by
 obtain ⟨ys, hk⟩ := h.k
 refine (kst_bytes kds_ok hk rfl rfl (some ⟨G, 0, none⟩) 4092 4092 zs ⟨hr.all 4092 4092 hz.symm, fun ad e _ => by obtain rfl := Option.some.inj e; exact hf⟩ (by omega) (by omega)).mono ?_
 rintro en w' ⟨rfl, cs', y, k1, k2, _⟩
 have hsz : ((zs.map (Value.int .u8)).toArray).size = 4092 := by simp [hz]
 have hrd : Rdy w base cs 1 5 ⟨.slice (some ⟨G, 0, none⟩) 4092 4092, G, 0, 4092, 4092, 4092, 4092⟩ := ⟨⟨Nat.le_refl _, by simp, by simp, by simp, by simp, _, rfl, fun _ => rfl⟩, fun j hj => ⟨⟨_, by rw [Nat.zero_add]; exact (cell_of_row w G j _ _ _ hr).trans (Array.getElem?_eq_getElem (show j < _ by rw [hsz]; exact hj))⟩, by rw [Nat.zero_add]; exact frozen_of_row w G j _ _ hr⟩, by simp, ⟨_, _, hr⟩, hf⟩
 refine ⟨rfl, cs', _, h.f hc k1 ⟨_, k2 _ rfl rfl rfl hrd (fun t ht => apart_newB (h.lim 0 t ht) hG)⟩ (fun i t ht => ?_) (fun i h2 h3 h4 => by rw [lsn_far _ _ h2]; exact h.no i h2 h3 h4), k1⟩
 unfold lsn at ht
 split at ht
 ·rcases List.mem_append.1 ht with h1 | h1
  ·rcases h.lim _ t h1 with a | a
   ·exact Or.inl a
   ·exact Or.inr (by omega)
  ·rw [List.mem_singleton.1 h1]; exact Or.inr (by show G < G + 1; omega)
 ·rcases h.lim _ t ht with a | a
  ·exact Or.inl a
  ·exact Or.inr (by omega)
def sls (gf : Nat → Nat) (Z : List (List Int)) : List Lst := (List.range Z.length).map fun j => ⟨.slice (some ⟨gf j, 0, none⟩) (Z.getD j []).length (Z.getD j []).length, gf j, 0, (Z.getD j []).length, (Z.getD j []).length, (Z.getD j []).length, (Z.getD j []).length⟩
theorem sls_get {gf : Nat → Nat} {Z : List (List Int)} {j : Nat} (h : j < Z.length) : (sls gf Z)[j]? = some ⟨.slice (some ⟨gf j, 0, none⟩) (Z.getD j []).length (Z.getD j []).length, gf j, 0, (Z.getD j []).length, (Z.getD j []).length, (Z.getD j []).length, (Z.getD j []).length⟩ := by simp [sls, h]
theorem sls_mem {gf : Nat → Nat} {Z : List (List Int)} {s : Lst} (h : s ∈ sls gf Z) : ∃ j, j < Z.length ∧ s = ⟨.slice (some ⟨gf j, 0, none⟩) (Z.getD j []).length (Z.getD j []).length, gf j, 0, (Z.getD j []).length, (Z.getD j []).length, (Z.getD j []).length, (Z.getD j []).length⟩ := by
 obtain ⟨j, hj, rfl⟩ := List.mem_map.1 h
 exact ⟨j, List.mem_range.1 hj, rfl⟩
theorem keep_s {w0 wl : World} {B base : Nat} {w : World} {cs : Nat → Value} {L : Nat → List Lst} {H lo n cap : Nat} {a : Option Addr} {xs : List Value} {Z : List (List Int)} (hc : Cd w0 wl B base) (h : Cb w0 wl B base w cs L H) (hw : Wr w base cs lo 26 1 (.slice a n cap) n xs) (hs : Sw w base cs lo xs Z) (hzb : ∀ z ∈ Z, Bt z) (hH : H ≤ lo) (hn : n ≤ 5000) (hL : (L 0).length ≤ 1000) (hL3 : (L 3).length ≤ 1000) :
  Calls Tryz.prog 17 #[.pointer (some ⟨B, 0, none⟩), .slice a n cap] w fun en w' => en = .returned (.tuple #[]) ∧ ∃ cs' D s, D.length = n ∧ Cb w0 wl B base w' cs' (lsn (lsn L 0 D) 3 [s]) w'.heap.size ∧ Kfr w w' B base cs cs' := by
 obtain ⟨ys, hk⟩ := h.k
 have hxl : xs.length = n := by have := hw.own.1; simpa using this
 have hzl := hs.len
 obtain ⟨gf, h3, h4⟩ := hs.ex
 have hcell : ∀ j, j < n → ∃ g, a = some ⟨g, 0, none⟩ ∧ Fre base cs g ∧ w.cell? ⟨g, j, none⟩ = some (.slice (some ⟨gf j, 0, none⟩) (Z.getD j []).length (Z.getD j []).length) := fun j hj => by
  obtain ⟨g, c, e, _, _⟩ := hw.own.form (by omega)
  have e' := e
  injection e with e1 _ e3
  subst e1 e3
  exact ⟨g, rfl, hw.fr g rfl, by rw [hw.own.cellAt j (by omega)]; exact (h3 j (by omega)).1⟩
 have htl : Tl w base cs a Z := ⟨fun i hi => by
  obtain ⟨g, e1, e2, e3⟩ := hcell i (by omega)
  obtain ⟨k1, k2, k3, k4, k5⟩ := h3 i hi
  exact ⟨g, 0, _, _, _, e1, by rw [Nat.zero_add]; exact e3, ⟨k2.all _ _ rfl, fun ad e _ => by obtain rfl := Option.some.inj e; exact k5⟩, Nat.le_refl _, by omega, e2⟩⟩
 have hno : ∀ (D : List Lst) (s : Lst), ∀ i, i ≠ 0 → i ≠ 3 → i ≠ 7 → lsn (lsn L 0 D) 3 [s] i = [] := fun D s i h2 h3 h4 => by rw [lsn_far _ _ h3, lsn_far _ _ h2]; exact h.no i h2 h3 h4
 refine (kst_lists kds_ok hk rfl rfl (fun _ _ _ => .nilIface) rfl rfl a n cap Z (sls gf Z) htl hzb (by omega) hn (fun z hz => by
  obtain ⟨j, hj⟩ := List.mem_iff_getElem?.1 hz
  have hl := (List.getElem?_eq_some_iff.1 hj).1
  have := (h3 j hl).2.2.2.1
  have e : Z.getD j [] = z := by rw [List.getD, hj]; rfl
  rw [e] at this
  omega) (by simp only [sls, List.length_map, List.length_range]; omega) (fun i hi => by
  obtain ⟨g, e1, e2, e3⟩ := hcell i hi
  exact ⟨g, 0, _, e1, sls_get (by omega), by rw [Nat.zero_add]; exact e3⟩) (fun s hs => ?_) ?_ (fun t ht s hs => ?_) (by omega) (by omega)).mono ?_
 ·obtain ⟨j, hj, rfl⟩ := sls_mem hs
  obtain ⟨k1, k2, k3, k4, k5⟩ := h3 j hj
  have hsz : (((Z.getD j []).map (Value.int .u8)).toArray).size = (Z.getD j []).length := by simp
  exact ⟨⟨Nat.le_refl _, by simp, by simp, by show (Z.getD j []).length ≤ _; omega, by show (Z.getD j []).length ≤ _; omega, _, rfl, fun _ => rfl⟩, fun i hi => ⟨⟨_, by rw [Nat.zero_add]; exact (cell_of_row w (gf j) i _ _ _ k2).trans (Array.getElem?_eq_getElem (show i < _ by rw [hsz]; exact hi))⟩, by rw [Nat.zero_add]; exact frozen_of_row w (gf j) i _ _ k2⟩, by show (Z.getD j []).length ≤ _; omega, ⟨_, _, k2⟩, k5⟩
 ·rw [List.pairwise_iff_getElem]
  intro i j hi hj hij
  simp only [sls, List.getElem_map, List.getElem_range]
  simp only [sls, List.length_map, List.length_range] at hi hj
  have := h4 i j hij hj
  intro x y _ _ e
  injection e with e1
  simp only at e1
  omega
 ·obtain ⟨j, hj, rfl⟩ := sls_mem hs
  exact apart_newB (h.lim 0 t ht) (Nat.le_trans hH (h3 j hj).2.2.1)
 ·rintro en w' ⟨rfl, cs', YY, y, k1, k2, k3⟩
  have fin : ∀ s, (∃ ys, Kst kdS SameS w' B base cs' (lsn (lsn L 0 (sls gf Z)) 3 [s]) ys) → Cb w0 wl B base w' cs' (lsn (lsn L 0 (sls gf Z)) 3 [s]) w'.heap.size := fun s hs => by
   refine h.f hc k1 hs (fun i t ht => Or.inr ?_) (hno _ s)
   obtain ⟨ys, hks⟩ := hs
   rcases Nat.lt_or_ge i 13 with hi | hi
   ·exact hks.lt hi ht
   ·rw [hno _ s i (by omega) (by omega) (by omega)] at ht; simp at ht
  rcases hw.own.2 with ⟨e, h0⟩ | ⟨g, cap', cur, e, _⟩
  ·injection e with _ _ e3
   subst e3 h0
   obtain ⟨s, _, _, hs⟩ := k3 rfl rfl
   exact ⟨rfl, cs', sls gf Z, s, by simp only [sls, List.length_map, List.length_range]; omega, fin s ⟨_, hs⟩, k1⟩
  ·injection e with e1 _ e3
   subst e1 e3
   have hb1 := (hw.own.lt g rfl).1
   have hq := rdy_own hw hn
   exact ⟨rfl, cs', sls gf Z, _, by simp only [sls, List.length_map, List.length_range]; omega, fin _ ⟨_, k2 ⟨.slice (some ⟨g, 0, none⟩) n cap, g, 0, n, cap, n * 1, cap * 1⟩ rfl rfl rfl hq (fun t ht => apart_newB (h.lim 3 t (by rw [lsn_far _ _ (by omega)] at ht; exact ht)) (show H ≤ g by omega))⟩, k1⟩
theorem keep_k {w0 wl : World} {B base : Nat} {w : World} {cs : Nat → Value} {L : Nat → List Lst} {H H7 lo n cap : Nat} {a : Option Addr} {Z : List Kd} (hc : Cd w0 wl B base) (h : Cb w0 wl B base w cs L H) (hw : Wr w base cs lo 61 2 (.slice a n cap) n (kc Z)) (h7 : ∀ t ∈ L 7, t.C = 0 ∨ t.g < H7) (hH : H7 ≤ lo) (hn : n ≤ 5000) (hL : (L 7).length ≤ 1000) :
  Calls Tryz.prog 18 #[.pointer (some ⟨B, 0, none⟩), .slice a n cap] w fun en w' => en = .returned (.tuple #[]) ∧ ∃ cs' s, Cb w0 wl B base w' cs' (lsn L 7 [s]) w'.heap.size ∧ Kfr w w' B base cs cs' := by
 obtain ⟨ys, hk⟩ := h.k
 have hzn : Z.length = n := by have := hw.own.1; rw [kc_len] at this; omega
 refine (kst_kids kds_ok hk rfl rfl a n cap Z (ty_own hw.own hw.fr) hzn hn (by omega)).mono ?_
 rintro en w' ⟨rfl, cs', y, k1, k2, k3⟩
 have hno : ∀ s : Lst, ∀ i, i ≠ 0 → i ≠ 3 → i ≠ 7 → lsn L 7 [s] i = [] := fun s i h2 h3 h4 => by rw [lsn_far _ _ h4]; exact h.no i h2 h3 h4
 have fin : ∀ s, (∃ ys, Kst kdS SameS w' B base cs' (lsn L 7 [s]) ys) → Cb w0 wl B base w' cs' (lsn L 7 [s]) w'.heap.size := fun s hs => by
  refine h.f hc k1 hs (fun i t ht => Or.inr ?_) (hno s)
  obtain ⟨ys, hks⟩ := hs
  rcases Nat.lt_or_ge i 13 with hi | hi
  ·exact hks.lt hi ht
  ·rw [hno s i (by omega) (by omega) (by omega)] at ht; simp at ht
 rcases hw.own.2 with ⟨e, h0⟩ | ⟨g, cap', cur, e, _⟩
 ·injection e with _ _ e3
  subst e3 h0
  obtain ⟨s, _, _, hs⟩ := k3 rfl rfl
  exact ⟨rfl, cs', s, fin s ⟨_, hs⟩, k1⟩
 ·injection e with e1 _ e3
  subst e1 e3
  have hb1 := (hw.own.lt g rfl).1
  have hq := rdy_own hw hn
  exact ⟨rfl, cs', _, fin _ ⟨_, k2 ⟨.slice (some ⟨g, 0, none⟩) n cap, g, 0, n, cap, n * 2, cap * 2⟩ rfl rfl rfl hq (fun t ht => apart_newB (h7 t ht) (show H7 ≤ g by omega))⟩, k1⟩
theorem Ln.keptB {w w' : World} {base A cap h B : Nat} {gs : List (Nat × Nat)} {xs : List Value} {L : List (List Int)} (k : Ln w base A cap h gs xs L) (hg : w.grownBy w' (some B)) (hB : B < base) : Ln w' base A cap h gs xs L :=
 ⟨k.own.kept hg (Or.inr (fun e => by have := (k.own.lt B e).1; omega)), k.lp.kept hg (fun g _ hb _ e => by have := Option.some.inj e; omega), k.last.kept hg (fun e => by have := Option.some.inj e; have := k.lb; omega), k.lb, k.sz⟩
theorem Lk.keptB {w w' : World} {base A cap B : Nat} {K : List Kd} (k : Lk w base A cap K) (hg : w.grownBy w' (some B)) (hB : B < base) : Lk w' base A cap K :=
 ⟨k.own.kept hg (Or.inr (fun e => by have := (k.own.lt B e).1; omega))⟩
theorem Bp.wait {w w' : World} {a : Option Addr} {n cap : Nat} {b : Option Addr} {m cap2 : Nat} {L : List (List Int)} {K : List Kd} {base : Nat} {cs : Nat → Value} (h : Bp w w' a n cap b m cap2 L K) (hf : ∀ d, w.heap.size ≤ d → Fre base cs d) : ∃ lo xs, w.heap.size ≤ lo ∧ Wr w' base cs lo 26 1 (.slice a n cap) n xs ∧ Sw w' base cs lo xs L ∧ Wr w' base cs lo 61 2 (.slice b m cap2) m (kc K) := by
 obtain ⟨b1, xs, top, h1, h2, h3, h4⟩ := h.ex
 obtain ⟨gf, g1, g2⟩ := h3.ex
 exact ⟨b1, xs, h1, ⟨h2, fun i hi => hf i (by have := (h2.lt i hi).1; omega)⟩, ⟨h3.len, gf, fun j hj => ⟨(g1 j hj).1, (g1 j hj).2.1, (g1 j hj).2.2.1, (g1 j hj).2.2.2.1, hf _ (by have := (g1 j hj).2.2.1; omega)⟩, g2⟩, ⟨h4, fun i hi => hf i (by have := (h4.lt i hi).1; omega)⟩⟩
end Go.Proofs.YtnfelndfpmnkmaaGreatDoor
