import Derived.Test.YthodgddoolbenaaGreatDoorQ5
import Derived.Test.YthodgddoolbenaaGreatDoorQ25
namespace Go.Proofs.YthodgddoolbenaaGreatDoor
open Go.RowKit
theorem kinfo_pairs : (Tryz.prog.info? 22).map (fun i => (i.zero, i.size, i.bytes)) = some (some (.slice none 0 0), 1, 24) := by kernel_rfl
theorem kinfo_pair : (Tryz.prog.info? 54).map (fun i => (i.zero, i.size, i.bytes)) = some (some (.agg #[.slice none 0 0, .slice none 0 0]), 2, 48) := by kernel_rfl
theorem ktwo_newP (w : World) (a b : Value) (t : TypeId) : ∀ j u, [a, b][j]? = some u → (w.alloc (.cells #[a, b] t)).cell? ((⟨w.heap.size, 0, none⟩ : Addr).add j) = some u := by
 intro j u hu
 rw [Addr.add_lit, Nat.zero_add, cell_of_row _ w.heap.size j _ _ (0, 0) (heap_alloc_new w _)]
 simpa using hu
def lst2 : Lst := ⟨.nilIface, 0, 0, 0, 0, 0, 0⟩
def nkm2 (L M : List Lst) (k : Nat) : Nat := max (L.getD k lst2).N (M.getD k lst2).N
structure Lx2 (w : World) (F : Int → Nat → Nat → Value) (SM Q : Nat → Prop) (ps : Int) (id0 base : Nat) (vg : Value) (L M : List Lst) : Prop where
 lk : Lmk2 w F SM ps id0 (nkm2 L M)
 dj : ∀ b, SM b → base ≤ b ∧ b < w.heap.size ∧ Q b ∧ vg.ownBlock ≠ some b ∧ ∀ (k : Nat) (m : Lst), M[k]? = some m → m.g ≠ b
 tz : Tz w
theorem Lx2.kept {w w' : World} {F : Int → Nat → Nat → Value} {SM Q : Nat → Prop} {ps : Int} {id0 base : Nat} {vg : Value} {L M : List Lst} {row : Option Nat} (h : Lx2 w F SM Q ps id0 base vg L M) (hg : w.grownBy w' row) (hr : ∀ i, row = some i → ¬ SM i ∧ i ≠ 1) : Lx2 w' F SM Q ps id0 base vg L M :=
 ⟨h.lk.kept hg (fun i e => (hr i e).1), fun b hb => ⟨(h.dj b hb).1, Nat.lt_of_lt_of_le (h.dj b hb).2.1 hg.size, (h.dj b hb).2.2⟩, h.tz.kept hg (fun e => (hr _ e.symm).2 rfl)⟩
theorem Lx2.keptN {w w' : World} {F : Int → Nat → Nat → Value} {SM Q : Nat → Prop} {ps : Int} {id0 base : Nat} {vg : Value} {L M : List Lst} (h : Lx2 w F SM Q ps id0 base vg L M) (hg : w.grownBy w' none) : Lx2 w' F SM Q ps id0 base vg L M := h.kept hg (by simp)
theorem nkm2_enter {L M : List Lst} {s : Lst} (hs : L[M.length]? = some s) (k : Nat) : nkm2 L (M ++ [s]) k = nkm2 L M k := by
 unfold nkm2
 by_cases e : k < M.length
 ·simp [List.getD, List.getElem?_append_left e]
 ·by_cases e2 : k = M.length
  ·subst e2
   simp [List.getD, hs, lst2]
  ·simp [List.getD, List.getElem?_append_right (show M.length ≤ k by omega), List.getElem?_eq_none (show M.length ≤ k by omega), List.getElem?_eq_none (show [s].length ≤ k - M.length by simp; omega)]
theorem Lx2.enter {w w1 : World} {F : Int → Nat → Nat → Value} {SM Q : Nat → Prop} {ps : Int} {id0 base B q : Nat} {vg vg' : Value} {L M : List Lst} {o : Obj} {s : Lst} (h : Lx2 w F SM Q ps id0 base vg L M) (hs : L[M.length]? = some s) (hold : s.g < base) (hB : B < base) (hBg : B ≠ 1) (hvg : vg.ownBlock ≠ some 1) (hg : (w.alloc o).grownBy w1 vg.ownBlock) (hat : vg'.ownBlock = vg.ownBlock ∨ ∃ i, vg'.ownBlock = some i ∧ w.heap.size < i) :
  Lx2 (w1.setCell ⟨B, q, none⟩ vg') F SM Q ps id0 base vg' L (M ++ [s]) := by
 have h1 := h.keptN (World.grownBy_alloc w o none)
 have h2 := h1.kept hg (fun i e => ⟨fun hb => (h.dj i hb).2.2.2.1 e, fun e' => hvg (by rw [e, e'])⟩)
 have h3 := h2.kept (kset_grown w1 B q vg') (fun i e => by obtain rfl := Option.some.inj e; exact ⟨fun hb => by have := (h.dj _ hb).1; omega, hBg⟩)
 refine ⟨h3.lk.mono (fun b hb => hb) (fun k => by rw [nkm2_enter hs]; exact Nat.le_refl _), fun b hb => ⟨(h3.dj b hb).1, (h3.dj b hb).2.1, (h3.dj b hb).2.2.1, fun e => ?_, fun k m hm => ?_⟩, h3.tz⟩
 ·rcases hat with h' | ⟨i, h', hi⟩
  ·exact (h.dj b hb).2.2.2.1 (by rw [← h']; exact e)
  ·rw [h'] at e
   have := Option.some.inj e
   have := (h.dj b hb).2.1
   omega
 ·rcases Nat.lt_or_ge k M.length with hk | hk
  ·rw [List.getElem?_append_left hk] at hm
   exact (h.dj b hb).2.2.2.2 k m hm
  ·rw [List.getElem?_append_right hk] at hm
   have e : m = s := by
    have := List.mem_of_getElem? hm
    simpa using this
   subst e
   have := (h.dj b hb).1
   omega
structure Ly2 (w : World) (F : Int → Nat → Nat → Value) (SM Q : Nat → Prop) (ps : Int) (id0 base : Nat) (vg : Value) (L M : List Lst) (i : Nat) : Prop where
 lk : Lmk2 w F SM ps id0 (fun k => if k = i then (M.getD i lst2).N + 2 else nkm2 L M k)
 dj : ∀ b, SM b → base ≤ b ∧ b < w.heap.size ∧ Q b ∧ vg.ownBlock ≠ some b ∧ ∀ (k : Nat) (m : Lst), M[k]? = some m → m.g ≠ b
 tz : Tz w
theorem Ly2.kept {w w' : World} {F : Int → Nat → Nat → Value} {SM Q : Nat → Prop} {ps : Int} {id0 base : Nat} {vg : Value} {L M : List Lst} {i : Nat} {row : Option Nat} (h : Ly2 w F SM Q ps id0 base vg L M i) (hg : w.grownBy w' row) (hr : ∀ i, row = some i → ¬ SM i ∧ i ≠ 1) : Ly2 w' F SM Q ps id0 base vg L M i :=
 ⟨h.lk.kept hg (fun i e => (hr i e).1), fun b hb => ⟨(h.dj b hb).1, Nat.lt_of_lt_of_le (h.dj b hb).2.1 hg.size, (h.dj b hb).2.2⟩, h.tz.kept hg (fun e => (hr _ e.symm).2 rfl)⟩
theorem Lx2.mark {w w1 : World} {F F1 : Int → Nat → Nat → Value} {SM Q : Nat → Prop} {ps : Int} {id0 base : Nat} {vg : Value} {L M : List Lst} {i b n c : Nat} {m s : Lst} (h : Lx2 w F SM Q ps id0 base vg L M) (hg : w.grownBy w1 none) (hm : M[i]? = some m) (hs : L[i]? = some s) (hsm : s.N ≤ m.N) (hmN : m.N = m.n * 2) (hb0 : w.heap.size ≤ b) (hb1 : b < w1.heap.size) (hby : Byt w1 (some ⟨b, 0, none⟩) n c (lmark ps (id0 + i + 1) m.n)) (hbase : base ≤ w.heap.size) (hQ : ∀ j, w.heap.size ≤ j → Q j) (hvg : ∀ j, vg.ownBlock = some j → j < w.heap.size) (hmg : ∀ (k : Nat) (m : Lst), M[k]? = some m → m.g < w.heap.size)
  (f0 : F1 ps (id0 + i + 1) m.N = .slice (some ⟨b, 0, none⟩) n c) (f1 : F1 ps (id0 + i + 1) (m.N + 1) = .slice none 0 0) (f2 : ∀ k x, ¬ (k = i ∧ (x = m.N ∨ x = m.N + 1)) → F1 ps (id0 + k + 1) x = F ps (id0 + k + 1) x) :
  Ly2 w1 F1 (fun d => SM d ∨ d = b) Q ps id0 base vg L M i := by
 have h1 := h.keptN hg
 have em : M.getD i lst2 = m := by simp [List.getD, hm]
 have es : L.getD i lst2 = s := by simp [List.getD, hs]
 refine ⟨?_, fun d hd => ?_, h1.tz⟩
 ·have h2 := h1.lk.mono (S' := fun d => SM d ∨ d = b) (nk' := nkm2 L M) (fun d hd => Or.inl hd) (fun k => Nat.le_refl _)
  intro k y hy
  by_cases e : k = i ∧ (y = m.N ∨ y = m.N + 1)
  ·obtain ⟨rfl, e | e⟩ := e
   ·subst e
    rw [f0, hmN]
    exact Lm2.key' (Or.inr rfl) hb1 hby
   ·subst e
    rw [f1, hmN]
    exact Lm2.val' _ _ _ _ _
  ·rw [f2 k y e]
   refine h2 k y ?_
   simp only at hy
   by_cases e2 : k = i
   ·subst e2
    rw [if_pos rfl, em] at hy
    have e3 := fun e3 => e ⟨rfl, e3⟩
    unfold nkm2
    rw [em, es]
    omega
   ·rw [if_neg e2] at hy
    exact hy
 ·rcases hd with hd | rfl
  ·exact h1.dj d hd
  ·exact ⟨by omega, hb1, hQ d hb0, fun e => by have := hvg d e; omega, fun k m hm e => by have := hmg k m hm; omega⟩
theorem Ly2.put {w w' : World} {F : Int → Nat → Nat → Value} {SM Q : Nat → Prop} {ps : Int} {id0 base rg cg : Nat} {L M : List Lst} {i : Nat} {m m' s : Lst} {v : Value} (h : Ly2 w F SM Q ps id0 base (.slice (some ⟨rg, 0, none⟩) M.length cg) L M i) (hm : M[i]? = some m) (hs : L[i]? = some s) (hsm : s.N ≤ m.N) (hN : m'.N = m.N + 2) (hg : m'.g = m.g ∨ ∀ b, SM b → m'.g ≠ b) (hrg : rg ≠ 1) (ew : w' = w.setCell ⟨rg, i, none⟩ v) :
  Lx2 w' F SM Q ps id0 base (.slice (some ⟨rg, 0, none⟩) M.length cg) L (M.set i m') := by
 subst ew
 have em : M.getD i lst2 = m := by simp [List.getD, hm]
 have es : L.getD i lst2 = s := by simp [List.getD, hs]
 have hi := (List.getElem?_eq_some_iff.1 hm).1
 have h1 := h.kept (kset_grown w rg i v) (fun j e => by obtain rfl := Option.some.inj e; exact ⟨fun hb => (h.dj _ hb).2.2.2.1 rfl, hrg⟩)
 refine ⟨h1.lk.mono (fun b hb => hb) (fun k => ?_), fun b hb => ⟨(h1.dj b hb).1, (h1.dj b hb).2.1, (h1.dj b hb).2.2.1, (h1.dj b hb).2.2.2.1, fun k t ht => ?_⟩, h1.tz⟩
 ·unfold nkm2
  by_cases e : k = i
  ·subst e
   rw [if_pos rfl, em, es]
   have : (M.set k m').getD k lst2 = m' := by simp [List.getD, List.getElem?_set_self hi]
   rw [this, hN]
   omega
  ·rw [if_neg e]
   have : (M.set i m').getD k lst2 = M.getD k lst2 := by simp [List.getD, List.getElem?_set_ne (fun e' => e e'.symm)]
   rw [this]
   exact Nat.le_refl _
 ·by_cases e : k = i
  ·subst e
   rw [List.getElem?_set_self hi] at ht
   obtain rfl := Option.some.inj ht
   rcases hg with hg | hg
   ·rw [hg]; exact (h.dj b hb).2.2.2.2 _ _ hm
   ·exact hg b hb
  ·rw [List.getElem?_set_ne (fun e' => e e'.symm)] at ht
   exact (h.dj b hb).2.2.2.2 k t ht
set_option maxHeartbeats 4000000 in
set_option maxRecDepth 100000 in
theorem grow_pairs (B : Nat) (ps : Int) (hp : 0 ≤ ps ∧ ps ≤ 1) (vb vg0 : Value) (r c base id0 : Nat) (L M0 : List Lst) (t : Nat) (Q : Nat → Prop) (HH : Nat) (I : World → Prop) (w : World) (F0 : Int → Nat → Nat → Value) (SM0 : Nat → Prop) (h : Gs (kdP F0) Q HH I w B ps vb vg0 r c base id0 L M0 (ktn t 0)) (hx0 : Lx2 w F0 SM0 Q ps id0 base vg0 L M0) (hgp : 1 < base ∧ 1 ≠ B ∧ ∀ s ∈ L, s.g ≠ 1) (ht : t ≤ 1000) (hM : if t = 0 then M0 = [] else M0.length = L.length) (hrB : r ≠ B) (hid : id0 ≤ 1000000)
  (hbd : ∀ s ∈ L, s.n + t + 1 ≤ 1099511627776)
  (hIg : ∀ w w' row, I w → w.grownBy w' row → (∀ i, row = some i → Q i) → I w') (hIb : ∀ w v, I w → I (w.setCell ⟨B, 19, none⟩ v)) (hIs : ∀ w s j v, s ∈ L → j < s.C → I w → I (w.setCell ⟨s.g, s.o + j, none⟩ v)) :
  Calls Tryz.prog 91 #[.pointer (some ⟨B, 0, none⟩), .int .i64 id0, .int .i64 t] w fun en w' => en = .returned (.int .i64 ((id0 + L.length : Nat) : Int)) ∧ ∃ vg M F SM, M.length = L.length ∧ Gs (kdP F) Q HH I w' B ps vb vg r c base id0 L M (ktn t L.length) ∧ Lx2 w' F SM Q ps id0 base vg L M := by
 obtain ⟨i0, hi0, hz0, hz1, hz2⟩ := info_parts kinfo_pairs
 obtain ⟨i1, hi1, hj0, hj1, hj2⟩ := info_parts kinfo_pair
 have hmany := h.bc.many
 obtain ⟨vo, hvb, hvo⟩ := h.bc.row.val
 rw [List.length_map] at hvb hvo
 have HVO := hid_intro hvo
 have HIG := hid_intro hIg
 have HIS := hid_intro hIs
 have HIB := hid_intro hIb
 have HBD := hid_intro hbd
 have H0 := hid_intro h
 have HM0 := hid_intro hM
 have HX0 := hid_intro hx0
 have HGP := hid_intro hgp
 clear h hvo hIg hIb hIs hbd hM hx0 hgp
 subst hvb
 go_enter Tryz.func91, Tryz.ntmps91
 go_wp2
 go_loopw [1, 7] (fun sid si wr => ∃ i : Nat, i ≤ L.length ∧ si = .int .i64 i ∧ sid = .int .i64 ((id0 + i : Nat) : Int) ∧ ∃ vg M F SM, (if t = 0 then M.length = i else M.length = L.length) ∧ Gs (kdP F) Q HH I wr B ps (.slice vo L.length c) vg r c base id0 L M (ktn t i) ∧ Lx2 wr F SM Q ps id0 base vg L M) (fun _ si _ => L.length - (intOf si).toNat)
 case atStart =>
  refine ⟨0, Nat.zero_le _, rfl, rfl, vg0, M0, F0, SM0, ?_, H0.out, HX0.out⟩
  have := HM0.out
  by_cases e : t = 0
  ·rw [if_pos e] at this ⊢; rw [this]; rfl
  ·rw [if_neg e] at this ⊢; exact this
 case round =>
  obtain ⟨i, hi, rfl, rfl, vg, M, F, SM, hMl, hG, hX⟩ := hrel
  have HX := hid_intro hX
  have HG := hid_intro hG
  have k2 : wr.cell? ⟨B, 17, none⟩ = some (.slice vo L.length c) := hG.bc.lists
  have HML := hid_intro hMl
  clear hG hMl H0 hX HX0
  by_cases hlt : i < L.length
  ·obtain ⟨s, hs⟩ : ∃ s, L[i]? = some s := ⟨L[i], List.getElem?_eq_getElem hlt⟩
   have HS := hid_intro hs
   obtain ⟨ao, hsv, hao⟩ := (HG.out.bc.ok s (List.mem_of_getElem? hs)).1.val
   obtain rfl := HVO.out (by omega)
   have cr : wr.cell? ⟨r, i, none⟩ = some (.slice ao s.n s.c) := by
    rw [← hsv]; exact HG.out.bc.row.cells i _ (by rw [List.getElem?_map, hs]; rfl)
   have HSV := hid_intro hsv
   have p0 : (0 : Int) ≤ (i : Int) := by omega
   have p1 : (i : Int) < (L.length : Int) := by omega
   clear hs hao hsv
   go_upto_if 21 with fail
   go_cut [1, 7] from 9 to 64 (fun s1 s7 wx => s1 = .int .i64 ((id0 : Int) + (i : Int) + 1) ∧ s7 = .int .i64 (i : Int) ∧ ∃ vg M F SM, (if t = 0 then M.length = i + 1 else M.length = L.length) ∧ Gs (kdP F) Q HH I wx B ps (.slice (some ⟨r, 0, none⟩) L.length c) vg r c base id0 L M (ktn t i) ∧ Lx2 wx F SM Q ps id0 base vg L M)
   case first =>
    by_cases ht0 : t = 0
    ·subst ht0
     have HMI : Hid (M.length = i) := by have := HML.out; exact hid_intro (by simpa using this)
     have hMle : M.length ≤ 1000000 := by have := HMI.out; omega
     have k4 : wr.cell? ⟨B, 19, none⟩ = some vg := HG.out.gl
     have f4 : wr.frozen? ⟨B, 19, none⟩ = false := HG.out.gz
     have ka4 : ∀ o : Obj, (wr.alloc o).cell? ⟨B, 19, none⟩ = some vg := fun o => by
      rw [World.cell?_alloc_lt _ _ _ (World.block_lt_of_cell? _ _ k4)]; exact k4
     have ka2 : ∀ o : Obj, (wr.alloc o).cell? ⟨B, 17, none⟩ = some (.slice (some ⟨r, 0, none⟩) L.length c) := fun o => by
      rw [World.cell?_alloc_lt _ _ _ (World.block_lt_of_cell? _ _ k2)]; exact k2
     have kar : ∀ o : Obj, (wr.alloc o).cell? ⟨r, i, none⟩ = some (.slice ao s.n s.c) := fun o => by
      rw [World.cell?_alloc_lt _ _ _ (World.block_lt_of_cell? _ _ cr)]; exact cr
     have HOWN : Hid (∀ (w' : World) (o : Obj), w'.heap = (wr.alloc o).heap → w'.ownsRow base 22 1 vg M.length (M.map Lst.v)) := fun w' o e => by
      have := HG.out.own.alloc o
      unfold World.ownsRow at this ⊢
      rw [e]; exact this
     have HONE : Hid (∀ (w' : World) (t : TypeId), w'.heap = (wr.alloc (.cells #[.slice ao s.n s.c] t)).heap → ∀ j u, [Value.slice ao s.n s.c][j]? = some u → w'.cell? ((⟨wr.heap.size, 0, none⟩ : Addr).add j) = some u) := fun w' t e j u hu => by
      rw [World.cell?_of_block (w := wr.alloc (.cells #[.slice ao s.n s.c] t)) (by rw [e])]
      exact cell_one_new wr _ t j u hu
     have hbw := HG.out.rB.2.2.1
     have HVG := hid_intro HG.out.vgB
     have HRB := hid_intro HG.out.rB
     go_wp2
     go_region_law
      ((refine step_append_lies _ (by rfl) _ _ _ (by rfl) base 22 i0 (.slice none 0 0) 1 24 Tryz.underlying33 hi0 hz0 hz1 hz2 (by rfl) (by decide) vg M.length (M.map Lst.v) (by rfl) (by exact HOWN.out _ _ rfl) ⟨wr.heap.size, 0, none⟩ 1 1 [.slice ao s.n s.c] (by rfl) (by rfl) (by exact HONE.out _ _ rfl) (by intro u hu; simp at hu; subst hu; rfl) (by omega) (by unfold maxLen; omega) (by omega) (by simp; omega) (wr.heap.size + 1) (by simp) ?_; intro g1 c1 w1 hown1 hg1 hat1 hlt1; have nB : some B ≠ vg.ownBlock := (fun e => by have := HVG.out B e.symm; have := HRB.out; omega); have nr : some r ≠ vg.ownBlock := (fun e => by have := HVG.out r e.symm; have := HRB.out; omega); have k4w : w1.cell? ⟨B, 19, none⟩ = some vg := hg1.cell (ka4 _) nB; have k2w : w1.cell? ⟨B, 17, none⟩ = some (.slice (some ⟨r, 0, none⟩) L.length c) := hg1.cell (ka2 _) nB; have krw : w1.cell? ⟨r, i, none⟩ = some (.slice ao s.n s.c) := hg1.cell (kar _) nr; have k2s : ∀ v, (w1.setCell ⟨B, 19, none⟩ v).cell? ⟨B, 17, none⟩ = some (.slice (some ⟨r, 0, none⟩) L.length c) := (fun v => by rw [World.cell?_setCell_other _ _ _ _ (off_ne (by omega))]; exact k2w); have krs : ∀ v, (w1.setCell ⟨B, 19, none⟩ v).cell? ⟨r, i, none⟩ = some (.slice ao s.n s.c) := (fun v => by rw [World.cell?_setCell_other _ _ _ _ (fun e => hrB (by injection e with e1; exact e1.symm))]; exact krw); have hg1' := grown_trans ((((Qt.refl (wr.alloc (.cells #[.slice ao s.n s.c] 22))).drew)).grown _) hg1; have f4w : w1.frozen? ⟨B, 19, none⟩ = false := ((hg1'.frozen_far ⟨B, 19, none⟩ (by simpa using Nat.lt_succ_of_lt (World.block_lt_of_cell? _ _ k4)) nB).trans (((World.grownBy_alloc wr (.cells #[.slice ao s.n s.c] 22) none).frozen_far ⟨B, 19, none⟩ (World.block_lt_of_cell? _ _ k4) (by simp)).trans f4))))
     all_goals
      have HE : Hid (Gs (kdP F) Q HH I (w1.setCell ⟨B, 19, none⟩ (.slice (some ⟨g1, 0, none⟩) (M.length + 1) c1)) B ps (.slice (some ⟨r, 0, none⟩) L.length c) (.slice (some ⟨g1, 0, none⟩) (M.length + 1) c1) r c base id0 L (M ++ [s]) (ktn 0 i)) :=
       HG.out.enter (.cells #[.slice ao s.n s.c] 22) (by rw [HMI.out]; exact HS.out) (by rw [HMI.out]; simp [ktn]) HIG.out HIB.out (by show 19 ≠ 1; decide) hg1' (by rw [HSV.out]; exact hown1) (by
        rcases hat1 with h | h
        ·exact Or.inl h.symm
        ·exact Or.inr ⟨g1, rfl, by omega⟩) hrB
      have HXE : Hid (Lx2 (w1.setCell ⟨B, 19, none⟩ (.slice (some ⟨g1, 0, none⟩) (M.length + 1) c1)) F SM Q ps id0 base (.slice (some ⟨g1, 0, none⟩) (M.length + 1) c1) L (M ++ [s])) :=
       HX.out.enter (by rw [HMI.out]; exact HS.out) (HG.out.old s (List.mem_of_getElem? HS.out)) HRB.out.2.1 (Ne.symm HGP.out.2.1) (fun e => by have := (HVG.out _ e).1; have := HGP.out.1; omega) hg1' (by
        rcases hat1 with h | h
        ·exact Or.inl h.symm
        ·exact Or.inr ⟨g1, rfl, by omega⟩)
      clear k4w k2w krw k2s krs f4w hg1 hg1' hown1 hat1 hlt1
      go_wp2_with fail
      go_meet
      case rel =>
       exact ⟨rfl, rfl, _, M ++ [s], F, SM, by simp [HMI.out], HE.out, HXE.out⟩
    ·have htb : ((t : Int) == 0) = false := by simp; omega
     go_wp2_with fail
     go_meet
     case rel =>
      refine ⟨rfl, rfl, vg, M, F, SM, ?_, HG.out, HX.out⟩
      have := HML.out
      rw [if_neg ht0] at this ⊢
      exact this
   case rest =>
    obtain ⟨rfl, rfl, vg', MM, F', SM', hMl', hG', hX'⟩ := hcut
    have HXW := hid_intro hX'
    have HGW := hid_intro hG'
    have HMC := hid_intro hMl'
    have hiM : i < MM.length := by
     by_cases e : t = 0
     ·rw [if_pos e] at hMl'; omega
     ·rw [if_neg e] at hMl'; omega
    obtain ⟨rg, cg, hvg, _, _⟩ := hG'.own.form (by omega)
    subst hvg
    clear hG' hMl' HG HML k2 cr hX' HX
    obtain ⟨m, hm⟩ : ∃ m, MM[i]? = some m := ⟨MM[i]'(by omega), List.getElem?_eq_getElem (by omega)⟩
    have HMM := hid_intro hm
    clear hm
    have k4 : wc.cell? ⟨B, 19, none⟩ = some (.slice (some ⟨rg, 0, none⟩) MM.length cg) := HGW.out.gl
    have hmk := HGW.out.each i m HMM.out
    obtain ⟨am, hmv, ham⟩ := hmk.1.val
    have cm : wc.cell? ⟨rg, i, none⟩ = some (.slice am m.n m.c) := by
     rw [← hmv]
     have hli := (List.getElem?_eq_some_iff.1 HMM.out).1
     exact (HGW.out.own.cellAt i (by omega)).trans (by rw [List.getElem?_map, HMM.out]; rfl)
    have hliM : (i : Int) < (MM.length : Int) := by omega
    have fm : wc.frozen? ⟨rg, i, none⟩ = false := HGW.out.own.frozenAt i
    have hbdm : m.n + 1 ≤ 1099511627776 := by
     obtain ⟨s', hs', hn', _⟩ := hmk.2.2.2
     have := HBD.out s' (List.mem_of_getElem? hs')
     rw [hn']; unfold ktn; simp; omega
    have hmle := hmk.1.le
    have HNW : Hid (m.N = m.n * 2) := hmk.1.hN
    have HAM := hid_intro ham
    have HMV := hid_intro hmv
    have HIM := hid_intro hiM
    have hrgB : rg ≠ B := by have := HGW.out.vgB rg rfl; have := HGW.out.rB; omega
    clear hmk ham hmv hiM
    go_wp2_with fail
    refine (mark_pairs B ps (id0 + i + 1) m.n _ _ _ HGW.out.bc.pass hp (by omega) (by omega) (by omega) rfl HXW.out.tz).mono ?_
    rintro en w4 ⟨⟨b5, n5, c5, rfl, hb0, hb1, hby⟩, hg4⟩
    have hmN := HNW.out
    have HSS : Hid (∃ s, L[i]? = some s ∧ s.N ≤ m.N) := by
     obtain ⟨a1, _, _, s', hs', hn', _⟩ := HGW.out.each i m HMM.out
     have b1 := (HGW.out.bc.ok s' (List.mem_of_getElem? hs')).1.hN
     have b2 := a1.hN
     refine ⟨s', hs', ?_⟩
     rw [b1, b2, hn']
     exact Nat.mul_le_mul_right _ (by omega)
    have HMG : Hid (∀ (k : Nat) (m : Lst), MM[k]? = some m → m.g < wc.heap.size) := fun k m2 hk => by
     obtain ⟨_, _, _, t2, c4, _, c6⟩ := HGW.out.each k m2 hk
     rcases c6 with c6 | c6
     ·exact c6.2
     ·have := HGW.out.old t2 (List.mem_of_getElem? c4); have := HGW.out.rB; omega
    obtain ⟨sL, hsL, hsN⟩ := HSS.out
    have ga := World.grownBy_alloc w4 (.cells #[.slice (some ⟨b5, 0, none⟩) n5 c5, .slice none 0 0] 54) none
    have hg5 := grown_trans hg4 ga
    obtain ⟨F5, hF5⟩ : ∃ F5, F5 = fup (fup F' ps (id0 + i + 1) m.N (.slice (some ⟨b5, 0, none⟩) n5 c5)) ps (id0 + i + 1) (m.N + 1) (.slice none 0 0) := ⟨_, rfl⟩
    have f0 : F5 ps (id0 + i + 1) m.N = .slice (some ⟨b5, 0, none⟩) n5 c5 := by rw [hF5, fup_x _ _ _ _ _ _ (by omega), fup_same]
    have f1 : F5 ps (id0 + i + 1) (m.N + 1) = .slice none 0 0 := by rw [hF5, fup_same]
    have f2 : ∀ k x, ¬ (k = i ∧ (x = m.N ∨ x = m.N + 1)) → F5 ps (id0 + k + 1) x = F' ps (id0 + k + 1) x := fun k x hx => by
     rw [hF5]
     by_cases e : k = i
     ·subst e
      rw [fup_x _ _ _ _ _ _ (fun e => hx ⟨rfl, .inr e⟩), fup_x _ _ _ _ _ _ (fun e => hx ⟨rfl, .inl e⟩)]
     ·rw [fup_id _ _ _ _ _ _ (by omega), fup_id _ _ _ _ _ _ (by omega)]
    have HYW := hid_intro (HXW.out.mark hg5 HMM.out hsL hsN hmN hb0 (by have := ga.size; omega) (hby.keptN ga) HGW.out.rB.2.2.1 (fun j hj => HGW.out.qn j (Nat.le_trans HGW.out.rB.2.2.2.2 hj)) (fun j e => (HGW.out.vgB j e).2) HMG.out f0 f1 f2)
    have HSL := hid_intro hsL
    have HSN := hid_intro hsN
    have HGWa := hid_intro ((HGW.out.more HIG.out hg5).chgP (F' := F5) (fun k s2 x hk hx => f2 k x (fun e => by
     obtain ⟨rfl, e⟩ := e
     have : s2 = sL := by rw [hsL] at hk; exact (Option.some.inj hk).symm
     subst this
     omega)) (fun k m2 x hk hx => f2 k x (fun e => by
     obtain ⟨rfl, e⟩ := e
     have : m2 = m := by rw [HMM.out] at hk; exact (Option.some.inj hk).symm
     subst this
     omega)))
    have HRG : Hid (rg ≠ 1 ∧ m.g ≠ 1) := by
     refine ⟨fun e => ?_, fun e => ?_⟩
     ·have := (HGW.out.vgB rg rfl).1; have := HGP.out.1; omega
     ·obtain ⟨_, _, _, t2, c4, _, c6⟩ := HGW.out.each i m HMM.out
      rcases c6 with c6 | c6
      ·have := HGP.out.1; omega
      ·exact HGP.out.2.2 t2 (List.mem_of_getElem? c4) (by rw [← c6.1]; exact e)
    have HVS : Hid (∀ (x : Nat) (v : Value), [Value.slice (some ⟨b5, 0, none⟩) n5 c5, .slice none 0 0][x]? = some v → v = (kdP F5).f ps (id0 + i + 1) (m.N + x)) := fun x v hx => by
     match x with
     | 0 =>
      simp only [List.getElem?_cons_zero, Option.some.injEq] at hx
      rw [← hx]
      exact f0.symm
     | 1 =>
      simp only [List.getElem?_cons_succ, List.getElem?_cons_zero, Option.some.injEq] at hx
      rw [← hx]
      exact f1.symm
     | x + 2 => simp at hx
    have HY := hid_intro (Vp2.new w4 (.slice (some ⟨b5, 0, none⟩) n5 c5) (.slice none 0 0))
    have HG45 := hid_intro hg5
    clear HGW HXW HMG hg4 hg5 ga hby hb0 hb1 hsL hsN hmN HSS f0 f1 f2 hF5
    have HGW := HGWa
    clear HGWa
    generalize (fun d => SM' d ∨ d = b5) = SM5 at *
    go_upto_region 8 with fail
    generalize w4.alloc (.cells #[.slice (some ⟨b5, 0, none⟩) n5 c5, .slice none 0 0] 54) = w5 at *
    generalize w4.heap.size = U at *
    have k4 := HG45.out.cell k4 (by simp)
    have cm := HG45.out.cell cm (by simp)
    have fm : w5.frozen? ⟨rg, i, none⟩ = false := HGW.out.own.frozenAt i
    obtain ⟨y0, y1⟩ := HY.out.cells
    have ya : ∀ (o : Obj) (x : Nat) (v : Value), w5.cell? ⟨U, x, none⟩ = some v → (w5.alloc o).cell? ⟨U, x, none⟩ = some v := fun o x v hv => by
     rw [World.cell?_alloc_lt _ _ _ (World.block_lt_of_cell? _ _ hv)]; exact hv
    have ya0 := fun o => ya o 0 _ y0
    have ya1 := fun o => ya o 1 _ y1
    have g0 : (0 : Int) ≤ (i : Int) := by omega
    clear ya HG45
    have HX8 : Hid (Gs (kdP F5) Q HH I (w5.alloc (.cells #[.slice (some ⟨b5, 0, none⟩) n5 c5, .slice none 0 0] 54)).drew B ps (.slice (some ⟨r, 0, none⟩) L.length c) (.slice (some ⟨rg, 0, none⟩) MM.length cg) r c base id0 L MM (ktn t i)) :=
     HGW.out.more HIG.out (grown_trans (World.grownBy_alloc _ _ none) ((Qt.refl _).drew.grown none))
    have kb4 : ∀ o : Obj, (w5.alloc o).cell? ⟨B, 19, none⟩ = some (.slice (some ⟨rg, 0, none⟩) MM.length cg) := fun o => by
     rw [World.cell?_alloc_lt _ _ _ (World.block_lt_of_cell? _ _ k4)]; exact k4
    have kbm : ∀ o : Obj, (w5.alloc o).cell? ⟨rg, i, none⟩ = some (.slice am m.n m.c) := fun o => by
     rw [World.cell?_alloc_lt _ _ _ (World.block_lt_of_cell? _ _ cm)]; exact cm
    have HONE : Hid (∀ (w' : World) (ty : TypeId), w'.heap = (w5.alloc (.cells #[.slice (some ⟨b5, 0, none⟩) n5 c5, .slice none 0 0] ty)).heap → ∀ j u, [Value.slice (some ⟨b5, 0, none⟩) n5 c5, .slice none 0 0][j]? = some u → w'.cell? ((⟨w5.heap.size, 0, none⟩ : Addr).add j) = some u) := fun w' ty e j u hu => by
     rw [World.cell?_of_block (w := w5.alloc (.cells #[.slice (some ⟨b5, 0, none⟩) n5 c5, .slice none 0 0] ty)) (by rw [e])]
     exact ktwo_newP w5 _ _ ty j u hu
    have HYD : Hid (Ly2 (w5.alloc (.cells #[.slice (some ⟨b5, 0, none⟩) n5 c5, .slice none 0 0] 54)).drew F5 SM5 Q ps id0 base (.slice (some ⟨rg, 0, none⟩) MM.length cg) L MM i) := HYW.out.kept (grown_trans (World.grownBy_alloc _ _ none) ((Qt.refl _).drew.grown none)) (by simp)
    rcases Nat.lt_or_ge m.n m.c with hroom | hfull
    ·obtain rfl := HAM.out (by omega)
     have HSP : Hid (∀ (w' : World), w'.heap = (w5.alloc (.cells #[.slice (some ⟨b5, 0, none⟩) n5 c5, .slice none 0 0] 54)).heap → ∀ j, j < [Value.slice (some ⟨b5, 0, none⟩) n5 c5, .slice none 0 0].length → (w'.cell? ⟨m.g, m.o + m.n * 2 + j, none⟩).isSome = true ∧ w'.frozen? ⟨m.g, m.o + m.n * 2 + j, none⟩ = false) := fun w' e j hj => by
      have hj0 : j < 2 := by simpa using hj
      have hok := (HX8.out.each i m HMM.out)
      have hr := hok.1.room hroom
      have hN := HNW.out
      obtain ⟨⟨u, hu⟩, hf⟩ := hok.2.1 (m.N + j) (by have e1 : (kdP F5).W = 2 := rfl; omega)
      rw [show m.o + m.n * 2 + j = m.o + (m.N + j) by omega, World.cell?_of_block (w := (w5.alloc (.cells #[.slice (some ⟨b5, 0, none⟩) n5 c5, .slice none 0 0] 54)).drew) (by rw [e]; rfl), World.frozen?_of_block (w := (w5.alloc (.cells #[.slice (some ⟨b5, 0, none⟩) n5 c5, .slice none 0 0] 54)).drew) (by rw [e]; rfl)]
      rw [hu]; exact ⟨rfl, hf⟩
     have HXX : Hid (∀ X, X = (w5.alloc (.cells #[.slice (some ⟨b5, 0, none⟩) n5 c5, .slice none 0 0] 54)).drew.setCells m.g (m.o + m.n * 2) [.slice (some ⟨b5, 0, none⟩) n5 c5, .slice none 0 0] → Gs (kdP F5) Q HH I X B ps (.slice (some ⟨r, 0, none⟩) L.length c) (.slice (some ⟨rg, 0, none⟩) MM.length cg) r c base id0 L MM (ktn t i) ∧ Kf (kdP F5) Q X (.slice (some ⟨rg, 0, none⟩) MM.length cg) base id0 L MM (ktn t i) ps i ⟨.slice (some ⟨m.g, m.o, none⟩) (m.n + 1) m.c, m.g, m.o, m.n + 1, m.c, m.N + (kdP F5).W, m.C⟩) := fun X hX => by
      rw [hX]
      exact HX8.out.room HMM.out hroom hbdm [Value.slice (some ⟨b5, 0, none⟩) n5 c5, .slice none 0 0] rfl HVS.out _ (by rw [HNW.out]) HIG.out HIS.out
     have HCM : Hid (∀ X, Gs (kdP F5) Q HH I X B ps (.slice (some ⟨r, 0, none⟩) L.length c) (.slice (some ⟨rg, 0, none⟩) MM.length cg) r c base id0 L MM (ktn t i) → X.cell? ⟨rg, i, none⟩ = some (.slice (some ⟨m.g, m.o, none⟩) m.n m.c)) := fun X hX => by
      rw [← HMV.out]; exact (hX.own.cellAt i (by have := HIM.out; omega)).trans (by rw [List.getElem?_map, HMM.out]; rfl)
     go_region_law
      ((refine step_append_room_k (by rfl) _ _ _ (by rfl) 54 i1 2 Tryz.underlying22 hi1 hj1 m.g m.o m.n m.c (by rfl) ⟨w5.heap.size, 0, none⟩ 1 1 [.slice (some ⟨b5, 0, none⟩) n5 c5, .slice none 0 0] (by rfl) (by rfl) (by exact HONE.out _ _ rfl) (by intro u hu; simp at hu; rcases hu with rfl | rfl <;> rfl) (by omega) (by exact HSP.out _ rfl) ?_; intro X hX; have hXR := HXX.out X hX; have HYX := hid_intro (HYD.out.kept (by rw [hX]; exact ksets_grown _ m.g (m.o + m.n * 2) [.slice (some ⟨b5, 0, none⟩) n5 c5, .slice none 0 0] : ((w5.alloc (.cells #[.slice (some ⟨b5, 0, none⟩) n5 c5, .slice none 0 0] 54)).drew).grownBy X (some m.g)) (fun j e => by obtain rfl := Option.some.inj e; exact ⟨fun hb => (HYD.out.dj _ hb).2.2.2.2 i m HMM.out rfl, HRG.out.2⟩)); have k4X : X.cell? ⟨B, 19, none⟩ = some (.slice (some ⟨rg, 0, none⟩) MM.length cg) := hXR.1.gl; have cmX := HCM.out X hXR.1; have fmX : X.frozen? ⟨rg, i, none⟩ = false := hXR.1.own.frozenAt i; have HXR := hid_intro hXR; clear hXR hX))
     all_goals
      have HP := hid_intro (HXR.out.1.put HXR.out.2 HIM.out HIG.out)
      have HPX := hid_intro (HYX.out.put HMM.out HSL.out HSN.out (m' := ⟨.slice (some ⟨m.g, m.o, none⟩) (m.n + 1) m.c, m.g, m.o, m.n + 1, m.c, m.N + (kdP F5).W, m.C⟩) rfl (Or.inl rfl) HRG.out.1 (v := .slice (some ⟨m.g, m.o, none⟩) (m.n + 1) m.c) rfl)
      rw [ktn_next] at HP
      go_wp2
      go_roundw
      case rel =>
       refine ⟨i + 1, by omega, by go_num, by go_num, _, _, F5, SM5, ?_, HP.out, HPX.out⟩
       have h3 := HMC.out
       rw [List.length_set]
       exact h3
      case measure => simp [intOf]; omega
    ·have HOLD : Hid (∀ (w' : World), w'.heap = (w5.alloc (.cells #[.slice (some ⟨b5, 0, none⟩) n5 c5, .slice none 0 0] 54)).heap → ∀ b, am = some b → ∀ j u, ((List.range m.N).map fun j => (kdP F5).f ps (id0 + i + 1) j)[j]? = some u → w'.cell? (b.add j) = some u) := fun w' e b hb j u hu => by
      have hj : j < m.N := by have := (List.getElem?_eq_some_iff.1 hu).1; simpa using this
      have hN := HNW.out
      have hb' := HAM.out (by omega)
      rw [hb] at hb'
      have hb2 := Option.some.inj hb'
      subst hb2
      rw [List.getElem?_map, List.getElem?_range hj] at hu
      have hu' := Option.some.inj hu
      rw [Addr.add_lit, World.cell?_of_block (w := (w5.alloc (.cells #[.slice (some ⟨b5, 0, none⟩) n5 c5, .slice none 0 0] 54)).drew) (by rw [e]; rfl), ← hu']
      exact HX8.out.mm i m HMM.out j hj
     have HNO : Hid (am = none → m.n = 0 ∧ m.c = 0) := fun e => by
      rcases Nat.eq_zero_or_pos m.c with h0 | h0
      ·omega
      ·have := HAM.out h0; rw [e] at this; cases this
     obtain ⟨OL, hOL⟩ : ∃ OL, OL = (List.range m.N).map fun j => (kdP F5).f ps (id0 + i + 1) j := ⟨_, rfl⟩
     have hOLl : OL.length = m.n * 2 := by rw [hOL]; simpa using HNW.out
     have HFULL : Hid (∀ gX cX X H, (w5.alloc (.cells #[.slice (some ⟨b5, 0, none⟩) n5 c5, .slice none 0 0] 54)).drew.grownBy X none → (w5.alloc (.cells #[.slice (some ⟨b5, 0, none⟩) n5 c5, .slice none 0 0] 54)).drew.heap.size ≤ H → X.ownsRow H 54 2 (.slice (some ⟨gX, 0, none⟩) (m.n + 1) cX) (m.n + 1) (OL ++ [.slice (some ⟨b5, 0, none⟩) n5 c5, .slice none 0 0]) → Gs (kdP F5) Q HH I X B ps (.slice (some ⟨r, 0, none⟩) L.length c) (.slice (some ⟨rg, 0, none⟩) MM.length cg) r c base id0 L MM (ktn t i) ∧ Kf (kdP F5) Q X (.slice (some ⟨rg, 0, none⟩) MM.length cg) base id0 L MM (ktn t i) ps i ⟨.slice (some ⟨gX, 0, none⟩) (m.n + 1) cX, gX, 0, m.n + 1, cX, m.N + (kdP F5).W, cX * (kdP F5).W⟩) := fun gX cX X H h1 h2 h3 => by
      rw [hOL] at h3
      exact HX8.out.full HMM.out [Value.slice (some ⟨b5, 0, none⟩) n5 c5, .slice none 0 0] rfl HVS.out HIG.out h1 h2 hbdm h3
     rw [← hOL] at HOLD
     clear hOL
     have HCM : Hid (∀ X, Gs (kdP F5) Q HH I X B ps (.slice (some ⟨r, 0, none⟩) L.length c) (.slice (some ⟨rg, 0, none⟩) MM.length cg) r c base id0 L MM (ktn t i) → X.cell? ⟨rg, i, none⟩ = some (.slice am m.n m.c)) := fun X hX => by
      rw [← HMV.out]; exact (hX.own.cellAt i (by have := HIM.out; omega)).trans (by rw [List.getElem?_map, HMM.out]; rfl)
     go_region_law
      ((refine step_append_grows (by rfl) _ _ _ (by rfl) 54 i1 (.agg #[.slice none 0 0, .slice none 0 0]) 2 48 Tryz.underlying22 hi1 hj0 hj1 hj2 (by rfl) (by decide) am m.n m.c OL (by rfl) HNO.out hOLl (by exact HOLD.out _ rfl) ⟨w5.heap.size, 0, none⟩ 1 1 [.slice (some ⟨b5, 0, none⟩) n5 c5, .slice none 0 0] (by rfl) (by rfl) (by exact HONE.out _ _ rfl) (by intro u hu; simp at hu; rcases hu with rfl | rfl <;> rfl) (by omega) (by unfold maxLen; omega) (by omega) ?_; intro v' X hownX hgX; obtain ⟨gX, cX, hvX, _, _⟩ := hownX.form (by omega); subst hvX; have hXR := HFULL.out gX cX X _ hgX (by exact Nat.le_refl _) hownX; have HYX := hid_intro (HYD.out.kept hgX (by simp)); have HGX : Hid (∀ b, SM5 b → gX ≠ b) := (fun b hb e => by have h8 := (HYD.out.dj b hb).2.1; have h9 := (hownX.lt gX rfl).1; omega); have k4X : X.cell? ⟨B, 19, none⟩ = some (.slice (some ⟨rg, 0, none⟩) MM.length cg) := hXR.1.gl; have cmX := HCM.out X hXR.1; have fmX : X.frozen? ⟨rg, i, none⟩ = false := hXR.1.own.frozenAt i; have HXR := hid_intro hXR; clear hXR hownX hgX))
     all_goals
      have HP := hid_intro (HXR.out.1.put HXR.out.2 HIM.out HIG.out)
      have HPX := hid_intro (HYX.out.put HMM.out HSL.out HSN.out (m' := ⟨.slice (some ⟨gX, 0, none⟩) (m.n + 1) cX, gX, 0, m.n + 1, cX, m.N + (kdP F5).W, cX * (kdP F5).W⟩) rfl (Or.inr HGX.out) HRG.out.1 (v := .slice (some ⟨gX, 0, none⟩) (m.n + 1) cX) rfl)
      rw [ktn_next] at HP
      go_wp2
      go_roundw
      case rel =>
       refine ⟨i + 1, by omega, by go_num, by go_num, _, _, F5, SM5, ?_, HP.out, HPX.out⟩
       have h3 := HMC.out
       rw [List.length_set]
       exact h3
      case measure => simp [intOf]; omega
  ·have hin : i = L.length := by omega
   subst hin
   go_wp2
   go_ret
   refine ⟨rfl, vg, M, F, SM, ?_, HG.out, HX.out⟩
   have := HML.out
   by_cases e : t = 0
   ·rwa [if_pos e] at this
   ·rwa [if_neg e] at this
end Go.Proofs.YthodgddoolbenaaGreatDoor
