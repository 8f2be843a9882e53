import Derived.Test.YtcdkkhbkicejiaaGreatDoorQ27
import Derived.Test.YtcdkkhbkicejiaaGreatDoorQ30
import Derived.Test.YtcdkkhbkicejiaaGreatDoorQ29
import Derived.Test.YtcdkkhbkicejiaaGreatDoorQ7
import Derived.Test.YtcdkkhbkicejiaaGreatDoorQ32
import Derived.Test.YtcdkkhbkicejiaaGreatDoorQ31
import Derived.Test.YtcdkkhbkicejiaaGreatDoorQ25
import Derived.Deep.RegionLaw
import Derived.Deep.AppendLies
import Derived.BigQuiet
import Derived.Test.YtcdkkhbkicejiaaGreatDoorQ33
import Derived.Test.YtcdkkhbkicejiaaGreatDoorQ23
namespace Go.Proofs.YtcdkkhbkicejiaaGreatDoor
open Go.RowKit
structure Bz (w : World) (B : Nat) (qs gs : List Nat) : Prop where
 c0 : w.cell? ⟨B, 0, none⟩ = some (.int .i64 0)
 f1 : w.frozen? ⟨B, 1, none⟩ = false
 no : ∀ q ∈ qs, w.cell? ⟨B, q, none⟩ = some (.slice none 0 0)
 gn : ∀ q ∈ gs, w.cell? ⟨B, q, none⟩ = some (.slice none 0 0) ∧ w.frozen? ⟨B, q, none⟩ = false
theorem Bz.lt {w : World} {B : Nat} {qs gs : List Nat} (h : Bz w B qs gs) : B < w.heap.size := World.block_lt_of_cell? w _ h.c0
theorem Bz.kept {w w' : World} {B : Nat} {qs gs : List Nat} {row : Option Nat} (h : Bz w B qs gs) (hg : w.grownBy w' row) (hne : some B ≠ row) : Bz w' B qs gs := by
 have hb := hg.block B h.lt hne
 exact ⟨hg.cell h.c0 hne, (World.frozen?_of_block hb).trans h.f1, fun q hq => hg.cell (h.no q hq) hne, fun q hq => ⟨hg.cell (h.gn q hq).1 hne, (World.frozen?_of_block hb).trans (h.gn q hq).2⟩⟩
theorem Bz.setB {w : World} {B : Nat} {qs gs : List Nat} (h : Bz w B qs gs) (i : Nat) (v : Value) (h0 : i ≠ 0) (hq : ∀ q ∈ qs, q ≠ i) (hg : ∀ q ∈ gs, q ≠ i) : Bz (w.setCell ⟨B, i, none⟩ v) B qs gs := by
 refine ⟨?_, by simpa using h.f1, fun q hm => ?_, fun q hm => ⟨?_, by simpa using (h.gn q hm).2⟩⟩
 ·rw [World.cell?_setCell_other _ _ _ _ (off_ne h0)]; exact h.c0
 ·rw [World.cell?_setCell_other _ _ _ _ (off_ne (fun e => hq q hm e.symm))]; exact h.no q hm
 ·rw [World.cell?_setCell_other _ _ _ _ (off_ne (fun e => hg q hm e.symm))]; exact (h.gn q hm).1
theorem Bz.less {w : World} {B : Nat} {qs gs gs' : List Nat} (h : Bz w B qs gs) (hs : ∀ q ∈ gs', q ∈ gs) : Bz w B qs gs' := ⟨h.c0, h.f1, h.no, fun q hq => h.gn q (hs q hq)⟩
structure Ks (K : Kdk) (w : World) (B : Nat) (ps : Int) (vb : Value) (r c : Nat) (L : List Lst) (id0 : Nat) : Prop where
 bc : Kc K w B ps vb r c L
 marks : ∀ (k : Nat) (s : Lst), L[k]? = some s → s.Shows w (K.f ps (id0 + k + 1))
theorem Ks.kept {K : Kdk} {w w' : World} {B : Nat} {ps : Int} {vb : Value} {r c : Nat} {L : List Lst} {id0 : Nat} {row : Option Nat} (h : Ks K w B ps vb r c L id0) (hg : w.grownBy w' row) (h1 : some B ≠ row) (h2 : some r ≠ row) (h3 : ∀ s ∈ L, some s.g ≠ row) : Ks K w' B ps vb r c L id0 :=
 ⟨h.bc.kept hg h1 h2 h3, fun k s hk => (h.marks k s hk).kept hg (h3 s (List.mem_of_getElem? hk))⟩
structure Gbk (K : Kdk) (S : Nat → Prop) (w : World) (B : Nat) (ps : Int) (vb vg : Value) (r c base id0 : Nat) (L M : List Lst) (tn : Nat → Nat) : Prop where
 gs : Gs K (fun _ => True) 0 (fun _ => True) w B ps vb vg r c base id0 L M tn
 qv : ∀ i, vg.ownBlock = some i → S i
 qm : ∀ (k : Nat) (m : Lst), M[k]? = some m → base ≤ m.g → S m.g
 sb : ∀ i, S i → base ≤ i ∧ i < w.heap.size
theorem Gbk.use {K : Kdk} {S : Nat → Prop} {w : World} {B : Nat} {ps : Int} {vb vg : Value} {r c base id0 : Nat} {L M : List Lst} {tn : Nat → Nat} (h : Gbk K S w B ps vb vg r c base id0 L M tn) (I : World → Prop) (hI : I w) :
  Gs K (fun i => S i ∨ w.heap.size ≤ i) w.heap.size I w B ps vb vg r c base id0 L M tn := by
 have g := h.gs
 have hr := g.rB
 exact ⟨hI, g.bc, g.gl, g.gz, g.own, g.old, ⟨hr.1, hr.2.1, hr.2.2.1, hr.2.2.2.1, Nat.le_refl _⟩, fun i hi => Or.inr hi, fun i hi => Or.inl (h.qv i hi), fun k m hm hb => Or.inl (h.qm k m hm hb), g.each, g.dif, g.lm, g.mm⟩
theorem Gbk.of {K : Kdk} {S : Nat → Prop} {H : Nat} {I : World → Prop} {w : World} {B : Nat} {ps : Int} {vb vg : Value} {r c base id0 : Nat} {L M : List Lst} {tn : Nat → Nat} (h : Gs K (fun i => S i ∨ H ≤ i) H I w B ps vb vg r c base id0 L M tn) (hS : ∀ i, S i → base ≤ i) (hH : base ≤ H) :
  Gbk K (fun i => (S i ∨ H ≤ i) ∧ i < w.heap.size) w B ps vb vg r c base id0 L M tn := by
 have hr := h.rB
 refine ⟨⟨trivial, h.bc, h.gl, h.gz, h.own, h.old, ⟨hr.1, hr.2.1, hr.2.2.1, hr.2.2.2.1, Nat.zero_le _⟩, fun _ _ => trivial, fun _ _ => trivial, fun _ _ _ _ => trivial, h.each, h.dif, h.lm, h.mm⟩, fun i hi => ⟨h.qv i hi, (h.vgB i hi).2⟩, fun k m hm hb => ⟨h.qm k m hm hb, ?_⟩, fun i hi => ⟨?_, hi.2⟩⟩
 ·obtain ⟨_, _, _, s, hs, _, hc⟩ := h.each k m hm
  rcases hc with hc | hc
  ·exact hc.2
  ·have := h.old s (List.mem_of_getElem? hs); omega
 ·rcases hi.1 with h1 | h1
  ·exact hS i h1
  ·omega
theorem Gbk.kept {K : Kdk} {S : Nat → Prop} {w w' : World} {B : Nat} {ps : Int} {vb vg : Value} {r c base id0 : Nat} {L M : List Lst} {tn : Nat → Nat} {row : Option Nat} (h : Gbk K S w B ps vb vg r c base id0 L M tn) (hg : w.grownBy w' row) (hr : ∀ i, row = some i → i ≠ B ∧ i ≠ r ∧ (∀ s ∈ L, s.g ≠ i) ∧ ¬ S i) :
  Gbk K S w' B ps vb vg r c base id0 L M tn := by
 have g := h.gs
 have hrb := g.rB
 have hsz := hg.size
 have nB : some B ≠ row := fun e => (hr B e.symm).1 rfl
 have nr : some r ≠ row := fun e => (hr r e.symm).2.1 rfl
 have ns : ∀ s ∈ L, some s.g ≠ row := fun s hs e => (hr _ e.symm).2.2.1 s hs rfl
 have nm : ∀ (k : Nat) (m : Lst), M[k]? = some m → some m.g ≠ row := fun k m hm e => by
  obtain ⟨_, _, _, s, hs, _, hc⟩ := g.each k m hm
  rcases hc with hc | hc
  ·exact (hr _ e.symm).2.2.2 (h.qm k m hm hc.1)
  ·exact (hr _ e.symm).2.2.1 s (List.mem_of_getElem? hs) hc.1.symm
 refine ⟨⟨trivial, g.bc.kept hg nB nr ns, hg.cell g.gl nB, (World.frozen?_of_block (hg.block B (by omega) nB)).trans g.gz, g.own.kept hg ?_, g.old, ⟨hrb.1, hrb.2.1, by omega, hrb.2.2.2.1, Nat.zero_le _⟩, fun _ _ => trivial, fun _ _ => trivial, fun _ _ _ _ => trivial, fun k m hm => ?_, g.dif, fun k t hk => (g.lm k t hk).kept hg (ns t (List.mem_of_getElem? hk)), fun k m hm => (g.mm k m hm).kept hg (nm k m hm)⟩, h.qv, h.qm, fun i hi => ?_⟩
 ·cases hv : vg.ownBlock with
  | none => exact Or.inl rfl
  | some i => exact Or.inr (fun e => (hr i e.symm).2.2.2 (h.qv i hv))
 ·obtain ⟨a1, a2, a3, t, a4, a5, a6⟩ := g.each k m hm
  refine ⟨a1, a2.kept hg (nm k m hm), a3, t, a4, a5, ?_⟩
  rcases a6 with a6 | a6
  ·left; omega
  ·exact Or.inr a6
 ·have := h.sb i hi
  omega
theorem Gbk.setB {K : Kdk} {S : Nat → Prop} {w : World} {B : Nat} {ps : Int} {vb vg : Value} {r c base id0 : Nat} {L M : List Lst} {tn : Nat → Nat} (h : Gbk K S w B ps vb vg r c base id0 L M tn) (i : Nat) (v : Value) (h1 : i ≠ 1) (h2 : i ≠ K.q) (h3 : i ≠ K.q + 2) (hrB : r ≠ B) :
  Gbk K S (w.setCell ⟨B, i, none⟩ v) B ps vb vg r c base id0 L M tn := by
 have g := h.gs
 have hrb := g.rB
 have hg := kset_grown w B i v
 have hsz := hg.size
 have ns : ∀ s ∈ L, some s.g ≠ some B := fun s hs e => (g.bc.ok s hs).2.2.1 (Option.some.inj e)
 have nm : ∀ (k : Nat) (m : Lst), M[k]? = some m → some m.g ≠ some B := fun k m hm e => (g.gB hm).1 (Option.some.inj e)
 refine ⟨⟨trivial, g.bc.setB i v h1 h2 hrB, ?_, by simpa using g.gz, g.own.kept hg ?_, g.old, ⟨hrb.1, hrb.2.1, by omega, hrb.2.2.2.1, Nat.zero_le _⟩, fun _ _ => trivial, fun _ _ => trivial, fun _ _ _ _ => trivial, fun k m hm => ?_, g.dif, fun k t hk => (g.lm k t hk).kept hg (ns t (List.mem_of_getElem? hk)), fun k m hm => (g.mm k m hm).kept hg (nm k m hm)⟩, h.qv, h.qm, fun i hi => ?_⟩
 ·rw [World.cell?_setCell_other _ _ _ _ (off_ne h3)]; exact g.gl
 ·cases hv : vg.ownBlock with
  | none => exact Or.inl rfl
  | some j => exact Or.inr (fun e => by have := (g.vgB j hv).1; have := Option.some.inj e; omega)
 ·obtain ⟨a1, a2, a3, t, a4, a5, a6⟩ := g.each k m hm
  refine ⟨a1, a2.set _ _, a3, t, a4, a5, ?_⟩
  rcases a6 with a6 | a6
  ·left; omega
  ·exact Or.inr a6
 ·have := h.sb i hi
  omega
theorem Gbk.tn {K : Kdk} {S : Nat → Prop} {w : World} {B : Nat} {ps : Int} {vb vg : Value} {r c base id0 : Nat} {L M : List Lst} {tn tn' : Nat → Nat} (h : Gbk K S w B ps vb vg r c base id0 L M tn) (he : ∀ k, k < M.length → tn k = tn' k) : Gbk K S w B ps vb vg r c base id0 L M tn' := ⟨h.gs.tn he, h.qv, h.qm, h.sb⟩
theorem kro_of_owns {w : World} {base n : Nat} {v : Value} {xs : List Value} {t : TypeId} (h : w.ownsRow base t 1 v n xs) : ∃ r c, Kro w v r c xs := by
 have hl := h.1
 rw [Nat.mul_one] at hl
 rcases h.2 with ⟨rfl, h0⟩ | ⟨g, cap, cur, rfl, hb, hg, hn, hm, hs, ht⟩
 ·refine ⟨0, 0, ⟨none, by rw [hl, h0], fun hp => by omega⟩, fun i x hx => ?_⟩
  have := (List.getElem?_eq_some_iff.1 hx).1
  omega
 ·refine ⟨g, cap, ⟨_, by rw [hl], fun _ => rfl⟩, fun i x hx => ?_⟩
  have hi := (List.getElem?_eq_some_iff.1 hx).1
  rw [cell_of_row w g i _ _ (0, 0) hg, ← Array.getElem?_toList]
  rw [← ht, List.getElem?_take] at hx
  split at hx
  ·exact hx
  ·cases hx
theorem Gbk.kg {K : Kdk} {S : Nat → Prop} {w : World} {B : Nat} {ps : Int} {vb vg : Value} {r c base id0 : Nat} {L M : List Lst} {tn : Nat → Nat} (h : Gbk K S w B ps vb vg r c base id0 L M tn) : ∃ r2 c2, Kg K w B ps vg r2 c2 M id0 := by
 obtain ⟨r2, c2, hk⟩ := kro_of_owns h.gs.own
 exact ⟨r2, c2, h.gs.gl, hk, fun s hs => by obtain ⟨k, hk⟩ := List.mem_iff_getElem?.1 hs; exact (h.gs.each k s hk).1, h.gs.mm⟩
theorem Ks.gb {K : Kdk} {w : World} {B : Nat} {ps : Int} {vb : Value} {r c : Nat} {L : List Lst} {id0 : Nat} (h : Ks K w B ps vb r c L id0) (base : Nat) (hg : w.cell? ⟨B, K.q + 2, none⟩ = some (.slice none 0 0) ∧ w.frozen? ⟨B, K.q + 2, none⟩ = false) (ho : ∀ s ∈ L, s.g < base) (hr : r < base) (hB : B < base) (hb : base ≤ w.heap.size) : Gbk K (fun _ => False) w B ps vb (.slice none 0 0) r c base id0 L [] (ktn 0 0) :=
 ⟨⟨trivial, h.bc, hg.1, hg.2, ⟨rfl, Or.inl ⟨rfl, rfl⟩⟩, ho, ⟨hr, hB, hb, Nat.zero_le _, Nat.zero_le _⟩, fun _ _ => trivial, fun _ _ => trivial, fun _ _ _ _ => trivial, fun k m hm => by simp at hm, fun k l m m' hm => by simp at hm, h.marks, fun k m hm => by simp at hm⟩, fun i hi => by simp [Value.ownBlock] at hi, fun k m hm => by simp at hm, fun i hi => hi.elim⟩
def kqs : List Nat := [5, 8, 11, 14, 17, 23, 26, 29, 32, 35, 38]
def kgs : List Nat := [4, 22]
theorem write_items_at (B : Nat) (ps : Int) (hp : 0 ≤ ps ∧ ps ≤ 1) (vb : Value) (r c : Nat) (L : List Lst) (id0 : Nat) (idI : Int) (e : idI = (id0 : Int)) (I : World → Prop) (w : World) (hid : id0 ≤ 1000000) (h : Kc kdT w B ps vb r c L) (hI : I w)
  (hIs : ∀ w s j v, s ∈ L → j < s.C → I w → I (w.setCell ⟨s.g, s.o + j, none⟩ v)) (hIq : ∀ w w', w.grownBy w' none → I w → I w') :
  Calls Tryz.prog 65 #[.pointer (some ⟨B, 0, none⟩), .int .i64 idI] w fun en w' => en = .returned (.int .i64 ((id0 + L.length : Nat) : Int)) ∧ Kwr kdT I w' B ps vb r c L id0 L.length 0 := by
 subst e
 exact write_items B ps hp vb r c L id0 I w hid h hI hIs hIq
theorem hold_items_at (B : Nat) (ps : Int) (hp : 0 ≤ ps ∧ ps ≤ 1) (vb vg : Value) (r c r2 c2 : Nat) (L M : List Lst) (id0 : Nat) (idI : Int) (e : idI = (id0 : Int)) (w : World) (hid : id0 ≤ 1000000) (h : Kc kdT w B ps vb r c L) (hg : Kg kdT w B ps vg r2 c2 M id0)
  (hml : M.length = L.length ∨ M.length = 0) (hs : ∀ (k : Nat) (s : Lst), L[k]? = some s → s.Shows w (kdT.f ps (id0 + k + 1))) :
  Calls Tryz.prog 78 #[.pointer (some ⟨B, 0, none⟩), .int .i64 idI] w fun en w' => en = .returned (.tuple #[.int .i64 ((id0 + L.length : Nat) : Int), .bool true]) ∧ w.grownBy w' none := by
 subst e
 exact hold_items B ps hp vb vg r c r2 c2 L M id0 w hid h hg hml hs
set_option maxHeartbeats 4000000 in
set_option maxRecDepth 100000 in
theorem untouched_all (B : Nat) (vb1 vw1 vb2 vw2 : Value) (r1 c1 s1 d1 r2 c2 s2 d2 : Nat) (xs1 ys1 xs2 ys2 : List Value) (w : World) (hz : Bz w B kqs kgs)
  (h12 : w.cell? ⟨B, 2, none⟩ = some vb1) (h13 : w.cell? ⟨B, 3, none⟩ = some vw1) (hb1 : Kro w vb1 r1 c1 xs1) (hw1 : Kro w vw1 s1 d1 ys1) (hl1 : xs1.length = ys1.length) (hm1 : xs1.length ≤ 1000000)
  (hs1 : ∀ (k : Nat) (x y : Value), xs1[k]? = some x → ys1[k]? = some y → ∃ ao n ca bo cb zs, x = .slice ao n ca ∧ y = .slice bo n cb ∧ Byt w ao n ca zs ∧ Byt w bo n cb zs)
  (h22 : w.cell? ⟨B, 20, none⟩ = some vb2) (h23 : w.cell? ⟨B, 21, none⟩ = some vw2) (hb2 : Kro w vb2 r2 c2 xs2) (hw2 : Kro w vw2 s2 d2 ys2) (hl2 : xs2.length = ys2.length) (hm2 : xs2.length ≤ 1000000)
  (hs2 : ∀ (k : Nat) (x y : Value), xs2[k]? = some x → ys2[k]? = some y → ∃ ao n ca bo cb Z, x = .slice ao n ca ∧ y = .slice bo n cb ∧ Il w ao Z ∧ Il w bo Z ∧ Ib Z ∧ Z.length = n ∧ n ≤ 1099511627776) :
  Calls Tryz.prog 23 #[.pointer (some ⟨B, 0, none⟩)] w fun en w' => en = .returned (.bool true) ∧ w.grownBy w' none := by
 have HZ := hid_intro hz
 have HB1 := hid_intro hb1
 have HW1 := hid_intro hw1
 have HS1 := hid_intro hs1
 have HB2 := hid_intro hb2
 have HW2 := hid_intro hw2
 have HS2 := hid_intro hs2
 clear hz hb1 hw1 hs1 hb2 hw2 hs2
 go_enter Tryz.func23, Tryz.ntmps23
 go_wp2_with fail
 refine (untouched_bytes B vb1 vw1 r1 c1 s1 d1 xs1 ys1 _ h12 h13 HB1.out HW1.out hl1 hm1 HS1.out).mono ?_
 rintro en w1 ⟨rfl, hg⟩
 have HG := hid_intro hg
 have HZ1 := hid_intro (HZ.out.kept hg (by simp))
 clear hg HB1 HW1 HS1 HZ
 go_wp2_with fail
 refine (ints_untouched B _ (HZ1.out.no 5 (by decide))).mono ?_
 rintro en w2 ⟨rfl, hw2⟩
 subst hw2
 go_wp2_with fail
 refine (texts_untouched B _ (HZ1.out.no 8 (by decide))).mono ?_
 rintro en w2 ⟨rfl, hw2⟩
 subst hw2
 go_wp2_with fail
 refine (byteLists_untouched B _ (HZ1.out.no 11 (by decide))).mono ?_
 rintro en w2 ⟨rfl, hw2⟩
 subst hw2
 go_wp2_with fail
 refine (intLists_untouched B _ (HZ1.out.no 14 (by decide))).mono ?_
 rintro en w2 ⟨rfl, hw2⟩
 subst hw2
 go_wp2_with fail
 refine (pairs_untouched B _ (HZ1.out.no 17 (by decide))).mono ?_
 rintro en w2 ⟨rfl, hw2⟩
 subst hw2
 go_wp2_with fail
 refine (untouched_items B vb2 vw2 r2 c2 s2 d2 xs2 ys2 _ (HG.out.cell h22 (by simp)) (HG.out.cell h23 (by simp)) (HB2.out.kept HG.out (by simp)) (HW2.out.kept HG.out (by simp)) hl2 hm2 (fun k x y hx hy => by
  obtain ⟨ao, n, ca, bo, cb, Z, e1, e2, e3, e4, e5⟩ := HS2.out k x y hx hy
  exact ⟨ao, n, ca, bo, cb, Z, e1, e2, e3.keptN HG.out, e4.keptN HG.out, e5⟩)).mono ?_
 rintro en w3 ⟨rfl, hg3⟩
 have HG3 := hid_intro (grown_trans HG.out hg3)
 have HZ3 := hid_intro (HZ1.out.kept hg3 (by simp))
 clear hg3 HB2 HW2 HS2 HZ1 HG
 go_wp2_with fail
 refine (kids_untouched B _ (HZ3.out.no 23 (by decide))).mono ?_
 rintro en w2 ⟨rfl, hw2⟩
 subst hw2
 go_wp2_with fail
 refine (nodes_untouched B _ (HZ3.out.no 26 (by decide))).mono ?_
 rintro en w2 ⟨rfl, hw2⟩
 subst hw2
 go_wp2_with fail
 refine (writes_untouched B _ (HZ3.out.no 29 (by decide))).mono ?_
 rintro en w2 ⟨rfl, hw2⟩
 subst hw2
 go_wp2_with fail
 refine (changes_untouched B _ (HZ3.out.no 32 (by decide))).mono ?_
 rintro en w2 ⟨rfl, hw2⟩
 subst hw2
 go_wp2_with fail
 refine (fates_untouched B _ (HZ3.out.no 35 (by decide))).mono ?_
 rintro en w2 ⟨rfl, hw2⟩
 subst hw2
 go_wp2_with fail
 refine (ops_untouched B _ (HZ3.out.no 38 (by decide))).mono ?_
 rintro en w2 ⟨rfl, hw2⟩
 subst hw2
 go_wp2
 go_ret
 exact ⟨rfl, HG3.out⟩
set_option maxHeartbeats 4000000 in
set_option maxRecDepth 100000 in
theorem write_all (B : Nat) (ps : Int) (hp : 0 ≤ ps ∧ ps ≤ 1) (vb1 : Value) (r1 c1 : Nat) (L1 : List Lst) (vb2 : Value) (r2 c2 : Nat) (L2 : List Lst) (w : World) (hz : Bz w B kqs kgs) (h1 : Kc kdB w B ps vb1 r1 c1 L1) (h2 : Kc kdT w B ps vb2 r2 c2 L2)
  (x12 : ∀ s ∈ L1, s.g ≠ r2 ∧ ∀ t ∈ L2, t.g ≠ s.g) (x21 : ∀ s ∈ L2, s.g ≠ r1 ∧ ∀ t ∈ L1, t.g ≠ s.g) (I : World → Prop) (hI : I w)
  (hIs1 : ∀ w s j v, s ∈ L1 → j < s.C → I w → I (w.setCell ⟨s.g, s.o + j, none⟩ v)) (hIs2 : ∀ w s j v, s ∈ L2 → j < s.C → I w → I (w.setCell ⟨s.g, s.o + j, none⟩ v)) (hIq : ∀ w w', w.grownBy w' none → I w → I w') :
  Calls Tryz.prog 24 #[.pointer (some ⟨B, 0, none⟩)] w fun en w' => en = .returned (.tuple #[]) ∧ Bz w' B kqs kgs ∧ Ks kdB w' B ps vb1 r1 c1 L1 0 ∧ Ks kdT w' B ps vb2 r2 c2 L2 (0 + L1.length) ∧ I w' ∧ w.heap.size ≤ w'.heap.size := by
 have k0 := hz.c0
 have hm1 := h1.many
 have hok1 := hid_intro h1.ok
 have hok2 := hid_intro h2.ok
 have HI1 : Hid (∀ v s j u, s ∈ L1 → j < s.C → (Bz v B kqs kgs ∧ Kc kdT v B ps vb2 r2 c2 L2 ∧ I v ∧ w.heap.size ≤ v.heap.size) → (Bz (v.setCell ⟨s.g, s.o + j, none⟩ u) B kqs kgs ∧ Kc kdT (v.setCell ⟨s.g, s.o + j, none⟩ u) B ps vb2 r2 c2 L2 ∧ I (v.setCell ⟨s.g, s.o + j, none⟩ u) ∧ w.heap.size ≤ (v.setCell ⟨s.g, s.o + j, none⟩ u).heap.size)) := fun v s j u hs hj h => by
  have nB := (hok1.out s hs).2.2.1
  have g := kset_grown v s.g (s.o + j) u
  have n1 : some B ≠ some s.g := fun e => nB (Option.some.inj e).symm
  exact ⟨h.1.kept g n1, h.2.1.kept g n1 (fun e => (x12 s hs).1 (Option.some.inj e).symm) (fun t ht e => (x12 s hs).2 t ht (Option.some.inj e)), hIs1 v s j u hs hj h.2.2.1, by simpa using h.2.2.2⟩
 have HQ1 : Hid (∀ v v', v.grownBy v' none → (Bz v B kqs kgs ∧ Kc kdT v B ps vb2 r2 c2 L2 ∧ I v ∧ w.heap.size ≤ v.heap.size) → (Bz v' B kqs kgs ∧ Kc kdT v' B ps vb2 r2 c2 L2 ∧ I v' ∧ w.heap.size ≤ v'.heap.size)) := fun v v' g h =>
  ⟨h.1.kept g (by simp), h.2.1.kept g (by simp) (by simp) (by simp), hIq v v' g h.2.2.1, Nat.le_trans h.2.2.2 g.size⟩
 have HI2 : Hid (∀ v s j u, s ∈ L2 → j < s.C → (Bz v B kqs kgs ∧ Ks kdB v B ps vb1 r1 c1 L1 0 ∧ I v ∧ w.heap.size ≤ v.heap.size) → (Bz (v.setCell ⟨s.g, s.o + j, none⟩ u) B kqs kgs ∧ Ks kdB (v.setCell ⟨s.g, s.o + j, none⟩ u) B ps vb1 r1 c1 L1 0 ∧ I (v.setCell ⟨s.g, s.o + j, none⟩ u) ∧ w.heap.size ≤ (v.setCell ⟨s.g, s.o + j, none⟩ u).heap.size)) := fun v s j u hs hj h => by
  have nB := (hok2.out s hs).2.2.1
  have g := kset_grown v s.g (s.o + j) u
  have n1 : some B ≠ some s.g := fun e => nB (Option.some.inj e).symm
  exact ⟨h.1.kept g n1, h.2.1.kept g n1 (fun e => (x21 s hs).1 (Option.some.inj e).symm) (fun t ht e => (x21 s hs).2 t ht (Option.some.inj e)), hIs2 v s j u hs hj h.2.2.1, by simpa using h.2.2.2⟩
 have HQ2 : Hid (∀ v v', v.grownBy v' none → (Bz v B kqs kgs ∧ Ks kdB v B ps vb1 r1 c1 L1 0 ∧ I v ∧ w.heap.size ≤ v.heap.size) → (Bz v' B kqs kgs ∧ Ks kdB v' B ps vb1 r1 c1 L1 0 ∧ I v' ∧ w.heap.size ≤ v'.heap.size)) := fun v v' g h =>
  ⟨h.1.kept g (by simp), h.2.1.kept g (by simp) (by simp) (by simp), hIq v v' g h.2.2.1, Nat.le_trans h.2.2.2 g.size⟩
 have H1 := hid_intro h1
 have HA : Hid (Bz w B kqs kgs ∧ Kc kdT w B ps vb2 r2 c2 L2 ∧ I w ∧ w.heap.size ≤ w.heap.size) := ⟨hz, h2, hI, Nat.le_refl _⟩
 clear hz h1 h2 hI hIs1 hIs2 hIq hok1 hok2 x12 x21
 go_enter Tryz.func24, Tryz.ntmps24
 go_wp2_with fail
 refine (write_bytes B ps hp vb1 r1 c1 L1 0 _ _ (by omega) H1.out HA.out HI1.out HQ1.out).mono ?_
 rintro en w1 ⟨rfl, hw1⟩
 have HZ1 := hid_intro hw1.inv.1
 have HK2 := hid_intro hw1.inv.2.1
 have HA2 : Hid (Bz w1 B kqs kgs ∧ Ks kdB w1 B ps vb1 r1 c1 L1 0 ∧ I w1 ∧ w.heap.size ≤ w1.heap.size) := ⟨hw1.inv.1, ⟨hw1.bc, fun k s hk => hw1.done k s (List.getElem?_eq_some_iff.1 hk).1 hk⟩, hw1.inv.2.2⟩
 clear hw1 H1 HA HI1 HQ1 k0
 go_wp2_with fail
 refine (ints_write B _ _ (HZ1.out.no 5 (by decide))).mono ?_
 rintro en w2 ⟨rfl, hw2⟩
 subst hw2
 go_wp2_with fail
 refine (texts_write B _ _ (HZ1.out.no 8 (by decide))).mono ?_
 rintro en w2 ⟨rfl, hw2⟩
 subst hw2
 go_wp2_with fail
 refine (byteLists_write B _ _ (HZ1.out.no 11 (by decide))).mono ?_
 rintro en w2 ⟨rfl, hw2⟩
 subst hw2
 go_wp2_with fail
 refine (intLists_write B _ _ (HZ1.out.no 14 (by decide))).mono ?_
 rintro en w2 ⟨rfl, hw2⟩
 subst hw2
 go_wp2_with fail
 refine (pairs_write B _ _ (HZ1.out.no 17 (by decide))).mono ?_
 rintro en w2 ⟨rfl, hw2⟩
 subst hw2
 go_wp2_with fail
 refine (write_items_at B ps hp vb2 r2 c2 L2 (0 + L1.length) _ (by omega) _ _ (by omega) HK2.out HA2.out HI2.out HQ2.out).mono ?_
 rintro en w3 ⟨rfl, hw3⟩
 have HZ3 := hid_intro hw3.inv.1
 have HF : Hid (Bz w3 B kqs kgs ∧ Ks kdB w3 B ps vb1 r1 c1 L1 0 ∧ Ks kdT w3 B ps vb2 r2 c2 L2 (0 + L1.length) ∧ I w3 ∧ w.heap.size ≤ w3.heap.size) := ⟨hw3.inv.1, hw3.inv.2.1, ⟨hw3.bc, fun k s hk => hw3.done k s (List.getElem?_eq_some_iff.1 hk).1 hk⟩, hw3.inv.2.2⟩
 clear hw3 HK2 HA2 HI2 HQ2 HZ1
 go_wp2_with fail
 refine (kids_write B _ _ (HZ3.out.no 23 (by decide))).mono ?_
 rintro en w2 ⟨rfl, hw2⟩
 subst hw2
 go_wp2_with fail
 refine (nodes_write B _ _ (HZ3.out.no 26 (by decide))).mono ?_
 rintro en w2 ⟨rfl, hw2⟩
 subst hw2
 go_wp2_with fail
 refine (writes_write B _ _ (HZ3.out.no 29 (by decide))).mono ?_
 rintro en w2 ⟨rfl, hw2⟩
 subst hw2
 go_wp2_with fail
 refine (changes_write B _ _ (HZ3.out.no 32 (by decide))).mono ?_
 rintro en w2 ⟨rfl, hw2⟩
 subst hw2
 go_wp2_with fail
 refine (fates_write B _ _ (HZ3.out.no 35 (by decide))).mono ?_
 rintro en w2 ⟨rfl, hw2⟩
 subst hw2
 go_wp2_with fail
 refine (ops_write B _ _ (HZ3.out.no 38 (by decide))).mono ?_
 rintro en w2 ⟨rfl, hw2⟩
 subst hw2
 go_wp2
 refine Go.Great.bodyPost_end0 rfl rfl ?_
 exact ⟨rfl, HF.out⟩
set_option maxHeartbeats 4000000 in
set_option maxRecDepth 100000 in
theorem holds_all (B : Nat) (ps : Int) (hp : 0 ≤ ps ∧ ps ≤ 1) (vb1 vg1 : Value) (r1 c1 s1 d1 : Nat) (L1 M1 : List Lst) (vb2 vg2 : Value) (r2 c2 s2 d2 : Nat) (L2 M2 : List Lst) (w : World) (gs : List Nat) (hz : Bz w B kqs gs) (h1 : Ks kdB w B ps vb1 r1 c1 L1 0) (h2 : Ks kdT w B ps vb2 r2 c2 L2 (0 + L1.length))
  (g1 : Kg kdB w B ps vg1 s1 d1 M1 0) (g2 : Kg kdT w B ps vg2 s2 d2 M2 (0 + L1.length)) (m1 : M1.length = L1.length ∨ M1.length = 0) (m2 : M2.length = L2.length ∨ M2.length = 0) :
  Calls Tryz.prog 25 #[.pointer (some ⟨B, 0, none⟩)] w fun en w' => en = .returned (.bool true) ∧ w.grownBy w' none := by
 have k0 := hz.c0
 have hm1 := h1.bc.many
 have HZ := hid_intro hz
 have H1 := hid_intro h1
 have H2 := hid_intro h2
 have HG1 := hid_intro g1
 have HG2 := hid_intro g2
 clear hz h1 h2 g1 g2
 go_enter Tryz.func25, Tryz.ntmps25
 go_wp2_with fail
 refine (hold_bytes B ps hp vb1 vg1 r1 c1 s1 d1 L1 M1 0 _ (by omega) H1.out.bc HG1.out m1 H1.out.marks).mono ?_
 rintro en w1 ⟨rfl, hg⟩
 have HG := hid_intro hg
 have HZ1 := hid_intro (HZ.out.kept hg (by simp))
 clear hg HZ H1 HG1 k0
 go_wp2_with fail
 refine (ints_hold B _ _ (HZ1.out.no 5 (by decide))).mono ?_
 rintro en w2 ⟨rfl, hw2⟩
 subst hw2
 go_wp2_with fail
 refine (texts_hold B _ _ (HZ1.out.no 8 (by decide))).mono ?_
 rintro en w2 ⟨rfl, hw2⟩
 subst hw2
 go_wp2_with fail
 refine (byteLists_hold B _ _ (HZ1.out.no 11 (by decide))).mono ?_
 rintro en w2 ⟨rfl, hw2⟩
 subst hw2
 go_wp2_with fail
 refine (intLists_hold B _ _ (HZ1.out.no 14 (by decide))).mono ?_
 rintro en w2 ⟨rfl, hw2⟩
 subst hw2
 go_wp2_with fail
 refine (pairs_hold B _ _ (HZ1.out.no 17 (by decide))).mono ?_
 rintro en w2 ⟨rfl, hw2⟩
 subst hw2
 go_wp2_with fail
 refine (hold_items_at B ps hp vb2 vg2 r2 c2 s2 d2 L2 M2 (0 + L1.length) _ (by omega) _ (by omega) (H2.out.bc.kept HG.out (by simp) (by simp) (by simp)) (HG2.out.keptN HG.out) m2 (fun k s hk => (H2.out.marks k s hk).kept HG.out (by simp))).mono ?_
 rintro en w3 ⟨rfl, hg3⟩
 have HG3 := hid_intro (grown_trans HG.out hg3)
 have HZ3 := hid_intro (HZ1.out.kept hg3 (by simp))
 clear hg3 HZ1 H2 HG2 HG
 go_wp2_with fail
 refine (kids_hold B _ _ (HZ3.out.no 23 (by decide))).mono ?_
 rintro en w2 ⟨rfl, hw2⟩
 subst hw2
 go_wp2_with fail
 refine (nodes_hold B _ _ (HZ3.out.no 26 (by decide))).mono ?_
 rintro en w2 ⟨rfl, hw2⟩
 subst hw2
 go_wp2_with fail
 refine (writes_hold B _ _ (HZ3.out.no 29 (by decide))).mono ?_
 rintro en w2 ⟨rfl, hw2⟩
 subst hw2
 go_wp2_with fail
 refine (changes_hold B _ _ (HZ3.out.no 32 (by decide))).mono ?_
 rintro en w2 ⟨rfl, hw2⟩
 subst hw2
 go_wp2_with fail
 refine (fates_hold B _ _ (HZ3.out.no 35 (by decide))).mono ?_
 rintro en w2 ⟨rfl, hw2⟩
 subst hw2
 go_wp2_with fail
 refine (ops_hold B _ _ (HZ3.out.no 38 (by decide))).mono ?_
 rintro en w2 ⟨rfl, hw2⟩
 subst hw2
 go_wp2
 go_ret
 exact ⟨rfl, HG3.out⟩
theorem grow_items_at (B : Nat) (ps : Int) (hp : 0 ≤ ps ∧ ps ≤ 1) (vb vg0 : Value) (r c base id0 : Nat) (L M0 : List Lst) (t : Nat) (idI : Int) (e : idI = (id0 : Int)) (Q : Nat → Prop) (HH : Nat) (I : World → Prop) (w : World) (h : Gs kdT Q HH I w B ps vb vg0 r c base id0 L M0 (ktn t 0)) (ht : t ≤ 1000) (hM : if t = 0 then M0 = [] else M0.length = L.length) (hrB : r ≠ B) (hid : id0 ≤ 1000000)
  (hbd : ∀ s ∈ L, s.n + t + 1 ≤ 1099511627776)
  (hIg : ∀ w w' row, I w → w.grownBy w' row → (∀ i, row = some i → Q i) → I w') (hIb : ∀ w v, I w → I (w.setCell ⟨B, kdT.q + 2, none⟩ v)) (hIs : ∀ w s j v, s ∈ L → j < s.C → I w → I (w.setCell ⟨s.g, s.o + j, none⟩ v)) :
  Calls Tryz.prog 91 #[.pointer (some ⟨B, 0, none⟩), .int .i64 idI, .int .i64 t] w fun en w' => en = .returned (.int .i64 ((id0 + L.length : Nat) : Int)) ∧ ∃ vg M, M.length = L.length ∧ Gs kdT Q HH I w' B ps vb vg r c base id0 L M (ktn t L.length) := by
 subst e
 exact grow_items B ps hp vb vg0 r c base id0 L M0 t Q HH I w h ht hM hrB hid hbd hIg hIb hIs
theorem ktn_all (t n : Nat) {M : List Lst} (h : M.length = n) : ∀ k, k < M.length → ktn t n k = ktn (t + 1) 0 k := fun k hk => by
 unfold ktn
 rw [if_pos (by omega), if_neg (by omega)]
theorem Gbk.other {K : Kdk} {S T : Nat → Prop} {H : Nat} {v v' : World} {B : Nat} {ps : Int} {vb vg : Value} {r c base id0 : Nat} {L M : List Lst} {tn : Nat → Nat} {row : Option Nat} (h : Gbk K S v B ps vb vg r c base id0 L M tn) (hg : v.grownBy v' row) (hr : ∀ i, row = some i → T i ∨ H ≤ i) (hT : ∀ i, T i → base ≤ i ∧ ¬ S i) (hH : base ≤ H) (hS : ∀ i, S i → i < H) : Gbk K S v' B ps vb vg r c base id0 L M tn := by
 refine h.kept hg fun i hi => ?_
 have hb : base ≤ i ∧ ¬ S i := by
  rcases hr i hi with h1 | h1
  ·exact hT i h1
  ·exact ⟨by omega, fun h2 => by have := hS i h2; omega⟩
 have := h.gs.rB
 exact ⟨by omega, by omega, fun s hs e => by have := h.gs.old s hs; omega, hb.2⟩
theorem Gbk.place {K : Kdk} {S : Nat → Prop} {v : World} {B : Nat} {ps : Int} {vb vg : Value} {r c base id0 : Nat} {L M : List Lst} {tn : Nat → Nat} (h : Gbk K S v B ps vb vg r c base id0 L M tn) (g o : Nat) (u : Value) (h1 : g ≠ B) (h2 : g ≠ r) (h3 : ∀ s ∈ L, s.g ≠ g) (h4 : g < base) : Gbk K S (v.setCell ⟨g, o, none⟩ u) B ps vb vg r c base id0 L M tn := by
 refine h.kept (kset_grown v g o u) fun i hi => ?_
 obtain rfl := Option.some.inj hi
 exact ⟨h1, h2, h3, fun hs => by have := (h.sb _ hs).1; omega⟩
set_option maxHeartbeats 4000000 in
set_option maxRecDepth 100000 in
theorem grow_all (B : Nat) (ps : Int) (hp : 0 ≤ ps ∧ ps ≤ 1) (vb1 : Value) (r1 c1 : Nat) (L1 : List Lst) (vb2 : Value) (r2 c2 : Nat) (L2 : List Lst) (base : Nat) (w : World) (hz : Bz w B kqs []) (h1 : Gbk kdB (fun _ => False) w B ps vb1 (.slice none 0 0) r1 c1 base 0 L1 [] (ktn 0 0)) (h2 : Gbk kdT (fun _ => False) w B ps vb2 (.slice none 0 0) r2 c2 base (0 + L1.length) L2 [] (ktn 0 0))
  (hr1 : r1 ≠ B) (hr2 : r2 ≠ B) (x12 : ∀ s ∈ L1, s.g ≠ r2 ∧ ∀ t ∈ L2, t.g ≠ s.g) (x21 : ∀ s ∈ L2, s.g ≠ r1 ∧ ∀ t ∈ L1, t.g ≠ s.g) (b1 : ∀ s ∈ L1, s.n ≤ 1099511620000) (b2 : ∀ s ∈ L2, s.n ≤ 1099511620000) (I : World → Prop) (hI : I w)
  (hIg : ∀ v v' row, I v → v.grownBy v' row → (∀ i, row = some i → base ≤ i) → I v') (hIb : ∀ v i u, I v → I (v.setCell ⟨B, i, none⟩ u))
  (hIs1 : ∀ w s j v, s ∈ L1 → j < s.C → I w → I (w.setCell ⟨s.g, s.o + j, none⟩ v)) (hIs2 : ∀ w s j v, s ∈ L2 → j < s.C → I w → I (w.setCell ⟨s.g, s.o + j, none⟩ v)) :
  Calls Tryz.prog 26 #[.pointer (some ⟨B, 0, none⟩)] w fun en w' => en = .returned (.tuple #[]) ∧ ∃ S1 S2 vg1 vg2 M1 M2, M1.length = L1.length ∧ M2.length = L2.length ∧ Gbk kdB S1 w' B ps vb1 vg1 r1 c1 base 0 L1 M1 (ktn 70 0) ∧ Gbk kdT S2 w' B ps vb2 vg2 r2 c2 base (0 + L1.length) L2 M2 (ktn 70 0) ∧ Bz w' B kqs [] ∧ I w' := by
 have hm1 := h1.gs.bc.many
 have hrb := h1.gs.rB
 have hok1 := hid_intro h1.gs.bc.ok
 have hok2 := hid_intro h2.gs.bc.ok
 have old1 := hid_intro h1.gs.old
 have old2 := hid_intro h2.gs.old
 have hB : B < base := hrb.2.1
 have G1 : Hid (∀ (S1 S2 : Nat → Prop) (vg2 : Value) (M2 : List Lst) (tn : Nat → Nat) (H : Nat), (∀ i, S1 i → base ≤ i ∧ ¬ S2 i) → base ≤ H → (∀ i, S2 i → i < H) → ∀ v v' row, (Gbk kdT S2 v B ps vb2 vg2 r2 c2 base (0 + L1.length) L2 M2 tn ∧ Bz v B kqs [] ∧ I v) → v.grownBy v' row → (∀ i, row = some i → S1 i ∨ H ≤ i) → (Gbk kdT S2 v' B ps vb2 vg2 r2 c2 base (0 + L1.length) L2 M2 tn ∧ Bz v' B kqs [] ∧ I v')) := fun S1 S2 vg2 M2 tn H a1 a2 a3 v v' row h hg hr => by
  have hb : ∀ i, row = some i → base ≤ i := fun i hi => by
   rcases hr i hi with h1 | h1
   ·exact (a1 i h1).1
   ·omega
  exact ⟨h.1.other hg hr a1 a2 a3, h.2.1.kept hg (fun e => by have := hb B e.symm; omega), hIg v v' row h.2.2 hg hb⟩
 have G1b : Hid (∀ (S2 : Nat → Prop) (vg2 : Value) (M2 : List Lst) (tn : Nat → Nat), ∀ v u, (Gbk kdT S2 v B ps vb2 vg2 r2 c2 base (0 + L1.length) L2 M2 tn ∧ Bz v B kqs [] ∧ I v) → (Gbk kdT S2 (v.setCell ⟨B, kdB.q + 2, none⟩ u) B ps vb2 vg2 r2 c2 base (0 + L1.length) L2 M2 tn ∧ Bz (v.setCell ⟨B, kdB.q + 2, none⟩ u) B kqs [] ∧ I (v.setCell ⟨B, kdB.q + 2, none⟩ u))) := fun S2 vg2 M2 tn v u h =>
  ⟨h.1.setB _ u (by decide) (by decide) (by decide) hr2, h.2.1.setB _ u (by decide) (by decide) (by decide), hIb v _ u h.2.2⟩
 have G1s : Hid (∀ (S2 : Nat → Prop) (vg2 : Value) (M2 : List Lst) (tn : Nat → Nat), ∀ v s j u, s ∈ L1 → j < s.C → (Gbk kdT S2 v B ps vb2 vg2 r2 c2 base (0 + L1.length) L2 M2 tn ∧ Bz v B kqs [] ∧ I v) → (Gbk kdT S2 (v.setCell ⟨s.g, s.o + j, none⟩ u) B ps vb2 vg2 r2 c2 base (0 + L1.length) L2 M2 tn ∧ Bz (v.setCell ⟨s.g, s.o + j, none⟩ u) B kqs [] ∧ I (v.setCell ⟨s.g, s.o + j, none⟩ u))) := fun S2 vg2 M2 tn v s j u hs hj h =>
  ⟨h.1.place s.g (s.o + j) u (hok1.out s hs).2.2.1 (x12 s hs).1 (x12 s hs).2 (old1.out s hs), h.2.1.kept (kset_grown v s.g (s.o + j) u) (fun e => (hok1.out s hs).2.2.1 (Option.some.inj e).symm), hIs1 v s j u hs hj h.2.2⟩
 have G2 : Hid (∀ (S1 S2 : Nat → Prop) (vg1 : Value) (M1 : List Lst) (tn : Nat → Nat) (H : Nat), (∀ i, S2 i → base ≤ i ∧ ¬ S1 i) → base ≤ H → (∀ i, S1 i → i < H) → ∀ v v' row, (Gbk kdB S1 v B ps vb1 vg1 r1 c1 base 0 L1 M1 tn ∧ Bz v B kqs [] ∧ I v) → v.grownBy v' row → (∀ i, row = some i → S2 i ∨ H ≤ i) → (Gbk kdB S1 v' B ps vb1 vg1 r1 c1 base 0 L1 M1 tn ∧ Bz v' B kqs [] ∧ I v')) := fun S1 S2 vg1 M1 tn H a1 a2 a3 v v' row h hg hr => by
  have hb : ∀ i, row = some i → base ≤ i := fun i hi => by
   rcases hr i hi with h1 | h1
   ·exact (a1 i h1).1
   ·omega
  exact ⟨h.1.other hg hr a1 a2 a3, h.2.1.kept hg (fun e => by have := hb B e.symm; omega), hIg v v' row h.2.2 hg hb⟩
 have G2b : Hid (∀ (S1 : Nat → Prop) (vg1 : Value) (M1 : List Lst) (tn : Nat → Nat), ∀ v u, (Gbk kdB S1 v B ps vb1 vg1 r1 c1 base 0 L1 M1 tn ∧ Bz v B kqs [] ∧ I v) → (Gbk kdB S1 (v.setCell ⟨B, kdT.q + 2, none⟩ u) B ps vb1 vg1 r1 c1 base 0 L1 M1 tn ∧ Bz (v.setCell ⟨B, kdT.q + 2, none⟩ u) B kqs [] ∧ I (v.setCell ⟨B, kdT.q + 2, none⟩ u))) := fun S1 vg1 M1 tn v u h =>
  ⟨h.1.setB _ u (by decide) (by decide) (by decide) hr1, h.2.1.setB _ u (by decide) (by decide) (by decide), hIb v _ u h.2.2⟩
 have G2s : Hid (∀ (S1 : Nat → Prop) (vg1 : Value) (M1 : List Lst) (tn : Nat → Nat), ∀ v s j u, s ∈ L2 → j < s.C → (Gbk kdB S1 v B ps vb1 vg1 r1 c1 base 0 L1 M1 tn ∧ Bz v B kqs [] ∧ I v) → (Gbk kdB S1 (v.setCell ⟨s.g, s.o + j, none⟩ u) B ps vb1 vg1 r1 c1 base 0 L1 M1 tn ∧ Bz (v.setCell ⟨s.g, s.o + j, none⟩ u) B kqs [] ∧ I (v.setCell ⟨s.g, s.o + j, none⟩ u))) := fun S1 vg1 M1 tn v s j u hs hj h =>
  ⟨h.1.place s.g (s.o + j) u (hok2.out s hs).2.2.1 (x21 s hs).1 (x21 s hs).2 (old2.out s hs), h.2.1.kept (kset_grown v s.g (s.o + j) u) (fun e => (hok2.out s hs).2.2.1 (Option.some.inj e).symm), hIs2 v s j u hs hj h.2.2⟩
 have HB1 := hid_intro b1
 have HB2 := hid_intro b2
 have S0 : Hid (∃ S1 S2 vg1 vg2 M1 M2, (if (0 : Nat) = 0 then M1 = [] else M1.length = L1.length) ∧ (if (0 : Nat) = 0 then M2 = [] else M2.length = L2.length) ∧ Gbk kdB S1 w B ps vb1 vg1 r1 c1 base 0 L1 M1 (ktn 0 0) ∧ Gbk kdT S2 w B ps vb2 vg2 r2 c2 base (0 + L1.length) L2 M2 (ktn 0 0) ∧ (∀ i, S1 i → ¬ S2 i) ∧ Bz w B kqs [] ∧ I w) :=
  ⟨_, _, _, _, [], [], rfl, rfl, h1, h2, fun i h => h.elim, hz, hI⟩
 clear h1 h2 hz hI hIg hIb hIs1 hIs2 x12 x21 b1 b2 hok1 hok2 old1 old2 hrb
 go_enter Tryz.func26, Tryz.ntmps26
 go_wp2
 go_loopw [2] (fun st wr => ∃ t : Nat, t ≤ 70 ∧ st = .int .i64 t ∧ ∃ S1 S2 vg1 vg2 M1 M2, (if t = 0 then M1 = [] else M1.length = L1.length) ∧ (if t = 0 then M2 = [] else M2.length = L2.length) ∧ Gbk kdB S1 wr B ps vb1 vg1 r1 c1 base 0 L1 M1 (ktn t 0) ∧ Gbk kdT S2 wr B ps vb2 vg2 r2 c2 base (0 + L1.length) L2 M2 (ktn t 0) ∧ (∀ i, S1 i → ¬ S2 i) ∧ Bz wr B kqs [] ∧ I wr) (fun st _ => 70 - (intOf st).toNat)
 case atStart => exact ⟨0, by omega, rfl, S0.out⟩
 case round =>
  obtain ⟨t, ht, rfl, S1, S2, vg1, vg2, M1, M2, hM1, hM2, hG1, hG2, hdis, hz, hi⟩ := hrel
  have H1 := hid_intro hG1
  have H2 := hid_intro hG2
  have HM1 := hid_intro hM1
  have HM2 := hid_intro hM2
  have HZ := hid_intro hz
  have HI := hid_intro hi
  have HD := hid_intro hdis
  have k0 := hz.c0
  clear hG1 hG2 hM1 hM2 hz hi hdis S0
  by_cases hlt : t < 70
  ·have hbs := H1.out.gs.rB.2.2.1
   go_wp2_with fail
   refine (grow_bytes B ps hp vb1 vg1 r1 c1 base 0 L1 M1 t _ _ _ wr (H1.out.use _ ⟨H2.out, HZ.out, HI.out⟩) (by omega) HM1.out hr1 (by omega) (fun s hs => by have := HB1.out s hs; omega) (G1.out S1 S2 vg2 M2 _ _ (fun i hi => ⟨(H1.out.sb i hi).1, HD.out i hi⟩) hbs (fun i hi => (H2.out.sb i hi).2)) (G1b.out S2 vg2 M2 _) (G1s.out S2 vg2 M2 _)).mono ?_
   rintro en w1 ⟨rfl, vg1', M1', hM1', hg1⟩
   have HN1 := hid_intro hM1'
   have HZ1 := hid_intro hg1.inv.2.1
   have HI1 := hid_intro hg1.inv.2.2
   have H2' := hid_intro hg1.inv.1
   have hsz : wr.heap.size ≤ w1.heap.size := hg1.rB.2.2.2.2
   have H1' := hid_intro ((Gbk.of hg1 (fun i hi => (H1.out.sb i hi).1) hbs).tn (ktn_all t L1.length hM1'))
   have HD1 : Hid (∀ i, S2 i → base ≤ i ∧ ¬ ((S1 i ∨ wr.heap.size ≤ i) ∧ i < w1.heap.size)) := fun i hi => ⟨(H2.out.sb i hi).1, fun h => by
    have := (H2.out.sb i hi).2
    rcases h.1 with h1 | h1
    ·exact HD.out i h1 hi
    ·omega⟩
   clear hM1' hg1 k0 HZ HI H1 H2 HD HM1
   go_wp2_with fail
   refine (ints_grow B _ _ _ (HZ1.out.no 5 (by decide))).mono ?_
   rintro en w2 ⟨rfl, hw2⟩
   subst hw2
   go_wp2_with fail
   refine (texts_grow B _ _ _ (HZ1.out.no 8 (by decide))).mono ?_
   rintro en w2 ⟨rfl, hw2⟩
   subst hw2
   go_wp2_with fail
   refine (byteLists_grow B _ _ _ (HZ1.out.no 11 (by decide))).mono ?_
   rintro en w2 ⟨rfl, hw2⟩
   subst hw2
   go_wp2_with fail
   refine (intLists_grow B _ _ _ (HZ1.out.no 14 (by decide))).mono ?_
   rintro en w2 ⟨rfl, hw2⟩
   subst hw2
   go_wp2_with fail
   refine (pairs_grow B _ _ _ (HZ1.out.no 17 (by decide))).mono ?_
   rintro en w2 ⟨rfl, hw2⟩
   subst hw2
   go_wp2_with fail
   refine (grow_items_at B ps hp vb2 vg2 r2 c2 base (0 + L1.length) L2 M2 t _ (by omega) _ _ _ _ (H2'.out.use _ ⟨H1'.out, HZ1.out, HI1.out⟩) (by omega) HM2.out hr2 (by omega) (fun s hs => by have := HB2.out s hs; omega) (G2.out _ S2 vg1' M1' _ _ HD1.out (by omega) (fun i hi => hi.2)) (G2b.out _ vg1' M1' _) (G2s.out _ vg1' M1' _)).mono ?_
   rintro en w3 ⟨rfl, vg2', M2', hM2', hg2⟩
   have HN2 := hid_intro hM2'
   have HZ3 := hid_intro hg2.inv.2.1
   have HI3 := hid_intro hg2.inv.2.2
   have H1'' := hid_intro hg2.inv.1
   have H2'' := hid_intro ((Gbk.of hg2 (fun i hi => (H2'.out.sb i hi).1) (by omega)).tn (ktn_all t L2.length hM2'))
   have HD2 : Hid (∀ i, ((S1 i ∨ wr.heap.size ≤ i) ∧ i < w2.heap.size) → ¬ ((S2 i ∨ w2.heap.size ≤ i) ∧ i < w3.heap.size)) := fun i h1 h2 => by
    rcases h2.1 with h3 | h3
    ·exact (HD1.out i h3).2 h1
    ·omega
   clear hM2' hg2 HZ1 HI1 H1' H2' HD1 HM2
   go_wp2_with fail
   refine (kids_grow B _ _ _ (HZ3.out.no 23 (by decide))).mono ?_
   rintro en w2 ⟨rfl, hw2⟩
   subst hw2
   go_wp2_with fail
   refine (nodes_grow B _ _ _ (HZ3.out.no 26 (by decide))).mono ?_
   rintro en w2 ⟨rfl, hw2⟩
   subst hw2
   go_wp2_with fail
   refine (writes_grow B _ _ _ (HZ3.out.no 29 (by decide))).mono ?_
   rintro en w2 ⟨rfl, hw2⟩
   subst hw2
   go_wp2_with fail
   refine (changes_grow B _ _ _ (HZ3.out.no 32 (by decide))).mono ?_
   rintro en w2 ⟨rfl, hw2⟩
   subst hw2
   go_wp2_with fail
   refine (fates_grow B _ _ _ (HZ3.out.no 35 (by decide))).mono ?_
   rintro en w2 ⟨rfl, hw2⟩
   subst hw2
   go_wp2_with fail
   refine (ops_grow B _ _ _ (HZ3.out.no 38 (by decide))).mono ?_
   rintro en w2 ⟨rfl, hw2⟩
   subst hw2
   go_wp2
   go_roundw
   case rel =>
    refine ⟨t + 1, by omega, by go_num, _, _, vg1', vg2', M1', M2', ?_, ?_, H1''.out, H2''.out, HD2.out, HZ3.out, HI3.out⟩
    ·rw [if_neg (by omega)]; exact HN1.out
    ·rw [if_neg (by omega)]; exact HN2.out
   case measure => simp [intOf]; omega
  ·have ht70 : t = 70 := by omega
   have HT := hid_intro ht70
   clear ht70
   go_wp2
   refine Go.Great.bodyPost_end0 rfl rfl ?_
   have e := HT.out
   subst e
   refine ⟨rfl, S1, S2, vg1, vg2, M1, M2, ?_, ?_, H1.out, H2.out, HZ.out, HI.out⟩
   ·have := HM1.out
    rwa [if_neg (by omega)] at this
   ·have := HM2.out
    rwa [if_neg (by omega)] at this
set_option maxHeartbeats 4000000 in
set_option maxRecDepth 100000 in
theorem finish_all (B : Nat) (vb1 vw1 vb2 vw2 : Value) (r1 c1 s1 d1 r2 c2 s2 d2 : Nat) (L1 L2 : List Lst) (ys1 ys2 : List Value) (w : World) (hz : Bz w B kqs kgs)
  (h1 : Kc kdB w B 0 vb1 r1 c1 L1) (h13 : w.cell? ⟨B, 3, none⟩ = some vw1) (hw1 : Kro w vw1 s1 d1 ys1) (hl1 : L1.length = ys1.length) (hs1 : ∀ (k : Nat) (x y : Value), (L1.map Lst.v)[k]? = some x → ys1[k]? = some y → ∃ ao n ca bo cb zs, x = .slice ao n ca ∧ y = .slice bo n cb ∧ Byt w ao n ca zs ∧ Byt w bo n cb zs)
  (h2 : Kc kdT w B 0 vb2 r2 c2 L2) (h23 : w.cell? ⟨B, 21, none⟩ = some vw2) (hw2 : Kro w vw2 s2 d2 ys2) (hl2 : L2.length = ys2.length) (hs2 : ∀ (k : Nat) (x y : Value), (L2.map Lst.v)[k]? = some x → ys2[k]? = some y → ∃ ao n ca bo cb Z, x = .slice ao n ca ∧ y = .slice bo n cb ∧ Il w ao Z ∧ Il w bo Z ∧ Ib Z ∧ Z.length = n ∧ n ≤ 1099511627776)
  (o1 : ∀ s ∈ L1, s.g < w.heap.size) (o2 : ∀ s ∈ L2, s.g < w.heap.size) (p1 : r1 < w.heap.size) (p2 : r2 < w.heap.size) (hr1 : r1 ≠ B) (hr2 : r2 ≠ B) (x12 : ∀ s ∈ L1, s.g ≠ r2 ∧ ∀ t ∈ L2, t.g ≠ s.g) (x21 : ∀ s ∈ L2, s.g ≠ r1 ∧ ∀ t ∈ L1, t.g ≠ s.g) (b1 : ∀ s ∈ L1, s.n ≤ 1099511620000) (b2 : ∀ s ∈ L2, s.n ≤ 1099511620000) (I : World → Prop) (hI : I w)
  (hIg : ∀ v v' row, I v → v.grownBy v' row → (∀ i, row = some i → w.heap.size ≤ i) → I v') (hIb : ∀ v i u, I v → I (v.setCell ⟨B, i, none⟩ u))
  (hIs1 : ∀ w s j v, s ∈ L1 → j < s.C → I w → I (w.setCell ⟨s.g, s.o + j, none⟩ v)) (hIs2 : ∀ w s j v, s ∈ L2 → j < s.C → I w → I (w.setCell ⟨s.g, s.o + j, none⟩ v)) :
  Calls Tryz.prog 12 #[.pointer (some ⟨B, 0, none⟩)] w fun en w' => en = .returned (.bool true) ∧ I w' := by
 have hB := hz.lt
 have hm1 := h1.many
 have hm2 := h2.many
 have HZ := hid_intro hz
 have H1 := hid_intro h1
 have H2 := hid_intro h2
 have HW1 := hid_intro hw1
 have HW2 := hid_intro hw2
 have HS1 := hid_intro hs1
 have HS2 := hid_intro hs2
 have HL1 := hid_intro hl1
 have HL2 := hid_intro hl2
 have HO1 := hid_intro o1
 have HO2 := hid_intro o2
 have HB1 := hid_intro b1
 have HB2 := hid_intro b2
 have X12 := hid_intro x12
 have X21 := hid_intro x21
 have HI := hid_intro hI
 have HIG := hid_intro hIg
 have HIB := hid_intro hIb
 have HI1 := hid_intro hIs1
 have HI2 := hid_intro hIs2
 have HIQ : Hid (∀ v v', v.grownBy v' none → I v → I v') := fun v v' g h => hIg v v' none h g (by simp)
 clear hz h1 h2 hw1 hw2 hs1 hs2 hl1 hl2 o1 o2 b1 b2 x12 x21 hI hIg hIb hIs1 hIs2
 go_enter Tryz.func12, Tryz.ntmps12
 go_wp2_with fail
 refine (untouched_all B vb1 vw1 vb2 vw2 r1 c1 s1 d1 r2 c2 s2 d2 (L1.map Lst.v) ys1 (L2.map Lst.v) ys2 w HZ.out H1.out.lists h13 H1.out.row HW1.out (by rw [List.length_map]; exact HL1.out) (by rw [List.length_map]; exact hm1) HS1.out H2.out.lists h23 H2.out.row HW2.out (by rw [List.length_map]; exact HL2.out) (by rw [List.length_map]; exact hm2) HS2.out).mono ?_
 rintro en w1 ⟨rfl, hg1⟩
 have Z1 := hid_intro (HZ.out.kept hg1 (by simp))
 have C1 := hid_intro (H1.out.kept hg1 (by simp) (by simp) (by simp))
 have D1 := hid_intro (H2.out.kept hg1 (by simp) (by simp) (by simp))
 have I1 := hid_intro (HIQ.out _ _ hg1 HI.out)
 have hsz1 := hg1.size
 clear hg1 HZ H1 H2 HW1 HW2 HS1 HS2 HI
 go_wp2_with fail
 refine (write_all B 0 (by omega) vb1 r1 c1 L1 vb2 r2 c2 L2 w1 Z1.out C1.out D1.out X12.out X21.out I I1.out HI1.out HI2.out HIQ.out).mono ?_
 rintro en w2 ⟨rfl, hz2, hk2, hl2, hi2, hsz2⟩
 have Z2 := hid_intro hz2
 have K2 := hid_intro hk2
 have T2 := hid_intro hl2
 have I2 := hid_intro hi2
 clear hz2 hk2 hl2 hi2 Z1 C1 D1 I1
 go_wp2_with fail
 refine (holds_all B 0 (by omega) vb1 _ r1 c1 0 0 L1 [] vb2 _ r2 c2 0 0 L2 [] w2 kgs Z2.out K2.out T2.out (kg_none (Z2.out.gn 4 (by decide)).1) (kg_none (Z2.out.gn 22 (by decide)).1) (Or.inr rfl) (Or.inr rfl)).mono ?_
 rintro en w3 ⟨rfl, hg3⟩
 have Z3 := hid_intro (Z2.out.kept hg3 (by simp))
 have C3 := hid_intro (K2.out.bc.kept hg3 (by simp) (by simp) (by simp))
 have D3 := hid_intro (T2.out.bc.kept hg3 (by simp) (by simp) (by simp))
 have I3 := hid_intro (HIQ.out _ _ hg3 I2.out)
 have hsz3 := hg3.size
 have k1 := C3.out.pass
 have f1 := Z3.out.f1
 have Z4 := hid_intro (Z3.out.setB 1 (.int .i64 1) (by decide) (by decide) (by decide))
 have C4 := hid_intro (C3.out.pass1 1 hr1 (by decide))
 have D4 := hid_intro (D3.out.pass1 1 hr2 (by decide))
 have I4 := hid_intro (HIB.out _ 1 (.int .i64 1) I3.out)
 clear hg3 Z2 K2 T2 I2 Z3 C3 D3 I3
 go_wp2_with fail
 refine (write_all B 1 (by omega) vb1 r1 c1 L1 vb2 r2 c2 L2 _ Z4.out C4.out D4.out X12.out X21.out I I4.out HI1.out HI2.out HIQ.out).mono ?_
 rintro en w5 ⟨rfl, hz5, hk5, hl5, hi5, hsz5⟩
 have Z5 := hid_intro hz5
 have K5 := hid_intro hk5
 have T5 := hid_intro hl5
 have I5 := hid_intro hi5
 have hsz5' : w.heap.size ≤ w5.heap.size := by simp at hsz5; omega
 clear hz5 hk5 hl5 hi5 Z4 C4 D4 I4 k1 f1 hsz5
 go_wp2_with fail
 refine (holds_all B 1 (by omega) vb1 _ r1 c1 0 0 L1 [] vb2 _ r2 c2 0 0 L2 [] w5 kgs Z5.out K5.out T5.out (kg_none (Z5.out.gn 4 (by decide)).1) (kg_none (Z5.out.gn 22 (by decide)).1) (Or.inr rfl) (Or.inr rfl)).mono ?_
 rintro en w6 ⟨rfl, hg6⟩
 have Z6 := hid_intro ((Z5.out.kept hg6 (by simp)))
 have K6 := hid_intro (K5.out.kept hg6 (by simp) (by simp) (by simp))
 have T6 := hid_intro (T5.out.kept hg6 (by simp) (by simp) (by simp))
 have I6 := hid_intro (HIQ.out _ _ hg6 I5.out)
 have hsz6 := hg6.size
 clear hg6 Z5 K5 T5 I5
 go_wp2_with fail
 refine (grow_all B 1 (by omega) vb1 r1 c1 L1 vb2 r2 c2 L2 w.heap.size w6 (Z6.out.less (fun q hq => by cases hq)) (K6.out.gb _ (Z6.out.gn 4 (by decide)) HO1.out p1 hB (by omega)) (T6.out.gb _ (Z6.out.gn 22 (by decide)) HO2.out p2 hB (by omega)) hr1 hr2 X12.out X21.out HB1.out HB2.out I I6.out HIG.out HIB.out HI1.out HI2.out).mono ?_
 rintro en w7 ⟨rfl, S1, S2, vg1, vg2, M1, M2, hn1, hn2, hg1, hg2, hz7, hi7⟩
 obtain ⟨a1, b1, hkg1⟩ := hg1.kg
 obtain ⟨a2, b2, hkg2⟩ := hg2.kg
 have Z7 := hid_intro hz7
 have E1 := hid_intro hkg1
 have E2 := hid_intro hkg2
 have K7 : Hid (Ks kdB w7 B 1 vb1 r1 c1 L1 0) := ⟨hg1.gs.bc, hg1.gs.lm⟩
 have T7 : Hid (Ks kdT w7 B 1 vb2 r2 c2 L2 (0 + L1.length)) := ⟨hg2.gs.bc, hg2.gs.lm⟩
 have I7 := hid_intro hi7
 clear hg1 hg2 hz7 hi7 hkg1 hkg2 Z6 K6 T6 I6
 go_wp2_with fail
 refine (holds_all B 1 (by omega) vb1 vg1 r1 c1 a1 b1 L1 M1 vb2 vg2 r2 c2 a2 b2 L2 M2 w7 [] Z7.out K7.out T7.out E1.out E2.out (Or.inl hn1) (Or.inl hn2)).mono ?_
 rintro en w8 ⟨rfl, hg8⟩
 have I8 := hid_intro (HIQ.out _ _ hg8 I7.out)
 clear hg8 I7 Z7 K7 T7 E1 E2
 go_wp2
 go_ret
 exact ⟨rfl, I8.out⟩
def kup (cs : Nat → Value) (i : Nat) (v : Value) : Nat → Value := fun j => if j = i then v else cs j
theorem kup_same (cs : Nat → Value) (i : Nat) (v : Value) : kup cs i v i = v := by unfold kup; simp
theorem kup_far (cs : Nat → Value) {i j : Nat} (v : Value) (h : j ≠ i) : kup cs i v j = cs j := by unfold kup; simp [h]
structure Kbx (w : World) (B : Nat) (cs : Nat → Value) : Prop where
 cell : ∀ i, i < 41 → w.cell? ⟨B, i, none⟩ = some (cs i)
 fz : ∀ i, i < 41 → w.frozen? ⟨B, i, none⟩ = false
theorem Kbx.lt {w : World} {B : Nat} {cs : Nat → Value} (h : Kbx w B cs) : B < w.heap.size := World.block_lt_of_cell? w _ (h.cell 0 (by omega))
theorem Kbx.kept {w w' : World} {B : Nat} {cs : Nat → Value} {row : Option Nat} (h : Kbx w B cs) (hg : w.grownBy w' row) (hne : some B ≠ row) : Kbx w' B cs :=
 ⟨fun i hi => hg.cell (h.cell i hi) hne, fun i hi => (World.frozen?_of_block (hg.block B h.lt hne)).trans (h.fz i hi)⟩
theorem Kbx.set {w : World} {B : Nat} {cs : Nat → Value} (h : Kbx w B cs) (i : Nat) (hi : i < 41) (v : Value) : Kbx (w.setCell ⟨B, i, none⟩ v) B (kup cs i v) := by
 refine ⟨fun j hj => ?_, fun j hj => by simpa using h.fz j hj⟩
 by_cases e : j = i
 ·subst e
  rw [kup_same]
  exact World.cell?_setCell_same _ _ _ (h.cell j hj)
 ·rw [kup_far cs v e, World.cell?_setCell_other _ _ _ _ (off_ne (fun e' => e e'.symm))]
  exact h.cell j hj
structure Kfq (w w' : World) (P : Nat → Prop) : Prop where
 os : w'.os = w.os
 tape : w'.tape = w.tape
 output : w'.output = w.output
 size : w.heap.size ≤ w'.heap.size
 block : ∀ i, i < w.heap.size → ¬ P i → w'.heap[i]? = w.heap[i]?
theorem Kfq.of {w w' : World} {row : Option Nat} {P : Nat → Prop} (h : w.grownBy w' row) (hr : ∀ i, row = some i → P i) : Kfq w w' P :=
 ⟨h.os, h.tape, h.output, h.size, fun i hi hp => h.block i hi (fun e => hp (hr i e.symm))⟩
theorem Kfq.trans {a b c : World} {P : Nat → Prop} (h : Kfq a b P) (k : Kfq b c P) : Kfq a c P :=
 ⟨k.os.trans h.os, k.tape.trans h.tape, k.output.trans h.output, Nat.le_trans h.size k.size, fun i hi hp => (k.block i (Nat.lt_of_lt_of_le hi h.size) hp).trans (h.block i hi hp)⟩
theorem Kfq.cell {w w' : World} {P : Nat → Prop} (h : Kfq w w' P) {a : Addr} {u : Value} (hc : w.cell? a = some u) (hp : ¬ P a.block) : w'.cell? a = some u :=
 (World.cell?_of_block (h.block a.block (World.block_lt_of_cell? w _ hc) hp)).trans hc
structure Kpk (lt : TypeId) (q : Nat) (w w' : World) (B : Nat) (cs : Nat → Value) (base k : Nat) (xs ys : List Value) (x y : Value) (vb' vw' : Value) : Prop where
 box : Kbx w' B (kup (kup cs q vb') (q + 1) vw')
 ob : w'.ownsRow base lt 1 vb' (k + 1) (xs ++ [x])
 ow : w'.ownsRow base lt 1 vw' (k + 1) (ys ++ [y])
 fr : Kfq w w' (fun i => i = B ∨ (cs q).ownBlock = some i ∨ (cs (q + 1)).ownBlock = some i)
 nb : vb'.ownBlock = (cs q).ownBlock ∨ ∃ r, vb'.ownBlock = some r ∧ w.heap.size ≤ r
 nw : vw'.ownBlock = (cs (q + 1)).ownBlock ∨ ∃ r, vw'.ownBlock = some r ∧ w.heap.size ≤ r
 two : ∀ i, vb'.ownBlock = some i → vw'.ownBlock ≠ some i
theorem Kpk.make {lt : TypeId} {q : Nat} {w w1 w2 w3 w4 : World} {B : Nat} {cs : Nat → Value} {base k : Nat} {xs ys : List Value} {x y : Value} {o o' : Obj} {g1 c1 g4 c4 : Nat} (hq : q + 1 < 41)
  (hB : B < w.heap.size) (how : w.ownsRow base lt 1 (cs (q + 1)) k ys) (hB1 : (cs q).ownBlock ≠ some B) (hB2 : (cs (q + 1)).ownBlock ≠ some B) (hbw : ∀ i, (cs q).ownBlock = some i → (cs (q + 1)).ownBlock ≠ some i)
  (hG1 : (w.alloc o).grownBy w1 (cs q).ownBlock) (hat1 : (cs q).ownBlock = some g1 ∨ g1 = w.heap.size + 1) (hlt1 : g1 < w1.heap.size) (hGW2 : w1.grownBy w2 (some B)) (hs12 : w2.heap.size = w1.heap.size)
  (X2 : Kbx w2 B (kup cs q (.slice (some ⟨g1, 0, none⟩) (k + 1) c1))) (P2 : w2.ownsRow base lt 1 (.slice (some ⟨g1, 0, none⟩) (k + 1) c1) (k + 1) (xs ++ [x]))
  (hg3 : w2.drew.grownBy w3 none) (hs3 : w2.heap.size ≤ w3.heap.size)
  (hown4 : w4.ownsRow base lt 1 (.slice (some ⟨g4, 0, none⟩) (k + 1) c4) (k + 1) (ys ++ [y])) (hg4 : (w3.alloc o').grownBy w4 (cs (q + 1)).ownBlock) (hat4 : (cs (q + 1)).ownBlock = some g4 ∨ g4 = w3.heap.size + 1) :
  Kpk lt q w (w4.setCell ⟨B, q + 1, none⟩ (.slice (some ⟨g4, 0, none⟩) (k + 1) c4)) B cs base k xs ys x y (.slice (some ⟨g1, 0, none⟩) (k + 1) c1) (.slice (some ⟨g4, 0, none⟩) (k + 1) c4) := by
 have hs01 : w.heap.size < w1.heap.size := by have := hG1.size; simp at this; omega
 have hq2 : w2.grownBy w2.drew none := (Qt.refl w2).drew.grown none
 have hvw : ∀ i, (cs (q + 1)).ownBlock = some i → i < w.heap.size := fun i e => (how.lt i e).2
 have hg23 : w2.grownBy (w3.alloc o') none := grown_trans hq2 (grown_trans hg3 (World.grownBy_alloc _ _ none))
 have hset := kset_grown w4 B (q + 1) (.slice (some ⟨g4, 0, none⟩) (k + 1) c4)
 have e1 : some g1 ≠ (cs (q + 1)).ownBlock := fun e => by
  rcases hat1 with h | h
  ·exact hbw g1 h e.symm
  ·have := hvw g1 e.symm; omega
 have e2 : g1 ≠ B := fun e => by
  rcases hat1 with h | h
  ·exact hB1 (by rw [h, e])
  ·omega
 have e4 : g4 ≠ B := fun e => by
  rcases hat4 with h | h
  ·exact hB2 (by rw [h, e])
  ·omega
 refine ⟨((X2.kept hg23 (by simp)).kept hg4 (Ne.symm hB2)).set (q + 1) hq _, ((P2.kept hg23 (Or.inr (by simp [Value.ownBlock]))).kept hg4 (Or.inr e1)).kept hset (Or.inr (by simp [Value.ownBlock]; exact e2)), hown4.kept hset (Or.inr (by simp [Value.ownBlock]; exact e4)), ?_, ?_, ?_, ?_⟩
 ·refine Kfq.trans (Kfq.of (World.grownBy_alloc w o none) (by simp)) (Kfq.trans (Kfq.of hG1 (fun i e => Or.inr (Or.inl e))) (Kfq.trans (Kfq.of hGW2 (fun i e => Or.inl (Option.some.inj e).symm)) (Kfq.trans (Kfq.of hg23 (by simp)) (Kfq.trans (Kfq.of hg4 (fun i e => Or.inr (Or.inr e))) (Kfq.of hset (fun i e => Or.inl (Option.some.inj e).symm))))))
 ·rcases hat1 with h | h
  ·exact Or.inl h.symm
  ·exact Or.inr ⟨g1, rfl, by omega⟩
 ·rcases hat4 with h | h
  ·exact Or.inl h.symm
  ·exact Or.inr ⟨g4, rfl, by omega⟩
 ·intro i hi e
  have hi' : g1 = i := Option.some.inj hi
  have e' : g4 = i := Option.some.inj e
  subst hi'
  rcases hat4 with h | h
  ·exact e1 (by rw [h, e'])
  ·omega
set_option maxHeartbeats 4000000 in
set_option maxRecDepth 100000 in
theorem kkeep_bytes (B : Nat) (cs : Nat → Value) (base k : Nat) (xs ys : List Value) (ao : Option Addr) (n cap : Nat) (zs : List Int) (w : World) (h : Kbx w B cs)
  (hob : w.ownsRow base 42 1 (cs 2) k xs) (how : w.ownsRow base 42 1 (cs 3) k ys) (hbase : base ≤ w.heap.size) (hB1 : (cs 2).ownBlock ≠ some B) (hB2 : (cs 3).ownBlock ≠ some B) (hk : k ≤ 1000000)
  (hby : Byt w ao n cap zs) (hn : n ≤ 1099511627776) (hnb : ∀ a, ao = some a → 0 < n → a.block ≠ B ∧ some a.block ≠ (cs 2).ownBlock ∧ some a.block ≠ (cs 3).ownBlock) (hbw : ∀ i, (cs 2).ownBlock = some i → (cs 3).ownBlock ≠ some i) :
  Calls Tryz.prog 8 #[.pointer (some ⟨B, 0, none⟩), .slice ao n cap] w fun en w' => en = .returned (.tuple #[]) ∧ ∃ vb' vw' g H, w.heap.size ≤ H ∧ Kpk 42 2 w w' B cs base k xs ys (.slice ao n cap) (.slice (some ⟨g, 0, none⟩) n n) vb' vw' ∧ w'.ownsRow H 5 1 (.slice (some ⟨g, 0, none⟩) n n) n (zs.map (Value.int .u8)) := by
 obtain ⟨i0, hi, hz0, hz1, hz2⟩ := info_parts kinfo_rows
 have HX := hid_intro h
 have HOB := hid_intro hob
 have HOW := hid_intro how
 have HBY := hid_intro hby
 clear hby
 have k2 := h.cell 2 (by omega)
 have HBW := hid_intro hbw
 clear h hob how
 go_enter Tryz.func8, Tryz.ntmps8
 go_wp2_with (at_builtin; refine wpList_append_lies _ rfl _ _ 26 rfl base 42 i0 (.slice none 0 0) 1 24 Tryz.underlying26 hi hz0 hz1 hz2 rfl (by decide) (cs 2) k xs rfl (HOB.out.alloc _) ⟨w.heap.size, 0, none⟩ 1 1 [.slice ao n cap] rfl rfl (cell_one_new _ _ _) (by intro u hu; simp at hu; subst hu; rfl) (by omega) (by unfold maxLen; omega) (by omega) (by simp; omega) (w.heap.size + 1) (by simp) ?_)
 intro g1 c1 w1 hown1 hg1 hat1 hlt1
 have X1 : Hid (Kbx w1 B cs) := (HX.out.kept (World.grownBy_alloc _ _ none) (by simp)).kept hg1 (Ne.symm hB1)
 have X2 : Hid (Kbx (w1.setCell ⟨B, 2, none⟩ (.slice (some ⟨g1, 0, none⟩) (k + 1) c1)) B (kup cs 2 (.slice (some ⟨g1, 0, none⟩) (k + 1) c1))) := X1.out.set 2 (by omega) _
 have k2' := X1.out.cell 2 (by omega)
 have f2' := X1.out.fz 2 (by omega)
 have k3' : (w1.setCell ⟨B, 2, none⟩ (.slice (some ⟨g1, 0, none⟩) (k + 1) c1)).cell? ⟨B, 3, none⟩ = some (cs 3) := (X2.out.cell 3 (by omega)).trans (by rw [kup_far _ _ (by omega)])
 have f3' := X2.out.fz 3 (by omega)
 have H1 := hid_intro hown1
 have HG1 := hid_intro hg1
 clear hown1 hg1
 go_wp2
 obtain ⟨w2, hw2⟩ : ∃ w2, w2 = w1.setCell ⟨B, 2, none⟩ (.slice (some ⟨g1, 0, none⟩) (k + 1) c1) := ⟨_, rfl⟩
 rw [← hw2] at X2 k3' f3' ⊢
 have HW2 := hid_intro hw2
 clear hw2
 have hs12 : w2.heap.size = w1.heap.size := by rw [HW2.out]; simp
 have hs01 : w.heap.size < w1.heap.size := by have := HG1.out.size; simp at this; omega
 have hgw2 : w1.grownBy w2 (some B) := by rw [HW2.out]; exact kset_grown _ _ _ _
 have Y2 : Hid (∀ w' : World, w'.heap = w2.heap → Byt w' ao n cap zs) := fun w' e =>
  (((HBY.out.keptN (World.grownBy_alloc _ _ none)).kept HG1.out (fun a ha h0 => (hnb a ha h0).2.1)).kept hgw2 (fun a ha h0 e' => (hnb a ha h0).1 (Option.some.inj e'))).heap e
 have O2 : Hid (w2.ownsRow base 42 1 (cs 3) k ys) :=
  (((HOW.out.alloc _).kept HG1.out (by
   cases hvw : (cs 3).ownBlock with
   | none => exact Or.inl rfl
   | some i => exact Or.inr (fun e => hbw i e.symm hvw))).kept hgw2 (Or.inr hB2))
 have P2 : Hid (w2.ownsRow base 42 1 (.slice (some ⟨g1, 0, none⟩) (k + 1) c1) (k + 1) (xs ++ [.slice ao n cap])) :=
  H1.out.kept hgw2 (Or.inr (fun e => by
   have e' : g1 = B := Option.some.inj e
   have := HX.out.lt
   rcases hat1 with h | h
   ·exact hB1 (by rw [h, e'])
   ·omega))
 have HGW2 := hid_intro hgw2
 clear hgw2
 have HS12 := hid_intro hs12
 have hb2 : base ≤ w2.heap.size := by omega
 have HVW := hid_intro (fun i e => (HOW.out.lt i e).2 : ∀ i, (cs 3).ownBlock = some i → i < w.heap.size)
 clear hs12
 generalize hvw : cs 3 = vw at *
 go_region_law
  ((first
   | (go_simp; go_at_call 9; refine (refBytes_any ao n cap zs _ (by exact Y2.out _ rfl) (by omega)).mono ?_; rintro en w3 ⟨rfl, hown3, hg3, hs3⟩; have kk3 : w3.cell? ⟨B, 3, none⟩ = some vw := hg3.cell (by simpa using k3') (by simp); have nn3 := World.new_ne w3 ⟨B, 3, none⟩ kk3; have kk3o : ∀ o : Obj, (w3.alloc o).cell? ⟨B, 3, none⟩ = some vw := (fun o => by rw [World.cell?_alloc_lt _ _ _ (World.block_lt_of_cell? _ _ kk3)]; exact kk3); have ff3 : w3.frozen? ⟨B, 3, none⟩ = false := (hg3.frozen_far ⟨B, 3, none⟩ (by simpa using World.block_lt_of_cell? _ _ k3') (by simp)).trans (by simpa using f3'))
   | (refine step_append_lies _ (by rfl) _ _ _ (by rfl) base 42 i0 (.slice none 0 0) 1 24 Tryz.underlying26 hi hz0 hz1 hz2 (by rfl) (by decide) vw k ys (by rfl) (by exact ((O2.out.kept ((Qt.refl w2).drew.grown none) (by cases vw.ownBlock <;> simp)).kept hg3 (by cases vw.ownBlock <;> simp)).alloc _) ⟨w3.heap.size, 0, none⟩ 1 1 [.slice (some ⟨w2.heap.size, 0, none⟩) n n] (by rfl) (by rfl) (by exact cell_one_new _ _ _) (by intro u hu; simp at hu; subst hu; rfl) (by omega) (by unfold maxLen; omega) (by omega) (by have h9 := hg3.size; simp at h9; simp; omega) (w3.heap.size + 1) (by simp) ?_; intro g4 c4 w4 hown4 hg4 hat4 hlt4; have kk4 : w4.cell? ⟨B, 3, none⟩ = some vw := hg4.cell (by rw [World.cell?_alloc_lt _ _ _ (World.block_lt_of_cell? _ _ kk3)]; exact kk3) (Ne.symm hB2); have ff4 : w4.frozen? ⟨B, 3, none⟩ = false := (hg4.frozen_far ⟨B, 3, none⟩ (by have := World.block_lt_of_cell? _ _ kk3; simp at this ⊢; omega) (Ne.symm hB2)).trans ((World.frozen?_of_block ((World.grownBy_alloc w3 _ none).block B (World.block_lt_of_cell? _ _ kk3) (by simp))).trans ff3))))
 all_goals
  refine Go.Great.bodyPost_end0 rfl rfl ?_
  subst hvw
  have hs3' : w2.heap.size ≤ w3.heap.size := by have := hg3.size; simpa using this
  have hset := kset_grown w4 B 3 (.slice (some ⟨g4, 0, none⟩) (k + 1) c4)
  have hKP := Kpk.make (q := 2) (by omega) HX.out.lt HOW.out hB1 hB2 HBW.out HG1.out hat1 hlt1 HGW2.out HS12.out X2.out P2.out hg3 hs3' hown4 hg4 hat4
  have hBl := HX.out.lt
  have hS := HS12.out
  have hVW := HVW.out
  exact ⟨rfl, _, _, w2.heap.size, w2.heap.size, by omega, hKP, ((hown3.alloc _).kept hg4 (Or.inr (fun e => by have := hVW _ e.symm; simp at this; omega))).kept hset (Or.inr (fun e => by have := Option.some.inj e; simp at this; omega))⟩
def Fre (B : Nat) (cs : Nat → Value) (d : Nat) : Prop := d ≠ B ∧ ∀ q, q < 41 → (cs q).ownBlock ≠ some d
structure Kfr (w w' : World) (B : Nat) (cs cs' : Nat → Value) : Prop where
 os : w'.os = w.os
 tape : w'.tape = w.tape
 output : w'.output = w.output
 size : w.heap.size ≤ w'.heap.size
 block : ∀ d, d < w.heap.size → Fre B cs d → w'.heap[d]? = w.heap[d]? ∧ Fre B cs' d
theorem Kfr.of {w w' : World} {B : Nat} {cs : Nat → Value} (h : w.grownBy w' none) : Kfr w w' B cs cs :=
 ⟨h.os, h.tape, h.output, h.size, fun d hd hf => ⟨h.block d hd (by simp), hf⟩⟩
theorem Kfr.trans {a b c : World} {B : Nat} {cs cs' cs'' : Nat → Value} (h : Kfr a b B cs cs') (k : Kfr b c B cs' cs'') : Kfr a c B cs cs'' :=
 ⟨k.os.trans h.os, k.tape.trans h.tape, k.output.trans h.output, Nat.le_trans h.size k.size, fun d hd hf => by
  obtain ⟨h1, h2⟩ := h.block d hd hf
  obtain ⟨k1, k2⟩ := k.block d (Nat.lt_of_lt_of_le hd h.size) h2
  exact ⟨k1.trans h1, k2⟩⟩
theorem Kfr.cell {w w' : World} {B : Nat} {cs cs' : Nat → Value} (h : Kfr w w' B cs cs') {a : Addr} {u : Value} (hc : w.cell? a = some u) (hf : Fre B cs a.block) : w'.cell? a = some u :=
 (World.cell?_of_block (h.block a.block (World.block_lt_of_cell? w _ hc) hf).1).trans hc
theorem Kfr.there {w w' : World} {B : Nat} {cs cs' : Nat → Value} {s : Lst} (h : Kfr w w' B cs cs') (ht : s.There w) (hf : Fre B cs s.g) : s.There w' := by
 intro j hj
 obtain ⟨⟨u, hu⟩, hz⟩ := ht j hj
 exact ⟨⟨u, h.cell hu hf⟩, (World.frozen?_of_block (h.block s.g (World.block_lt_of_cell? w _ hu) hf).1).trans hz⟩
def Blk (w : World) (t : TypeId) (g : Nat) : Prop := ∃ cur fr, w.heap[g]? = some (.cells cur t fr)
theorem Blk.lt {w : World} {t : TypeId} {g : Nat} (h : Blk w t g) : g < w.heap.size := by
 obtain ⟨cur, fr, h⟩ := h
 exact (Array.getElem?_eq_some_iff.1 h).1
theorem Blk.kfr {w w' : World} {B : Nat} {cs cs' : Nat → Value} {t : TypeId} {g : Nat} (h : Blk w t g) (k : Kfr w w' B cs cs') (hf : Fre B cs g) : Blk w' t g := by
 have hl := h.lt
 obtain ⟨cur, fr, h⟩ := h
 exact ⟨cur, fr, (k.block g hl hf).1.trans h⟩
theorem Blk.ne {w : World} {t u : TypeId} {g d : Nat} (h : Blk w t g) (k : Blk w u d) (hne : t ≠ u) : g ≠ d := by
 rintro rfl
 obtain ⟨c1, f1, h1⟩ := h
 obtain ⟨c2, f2, h2⟩ := k
 rw [h1] at h2
 simp only [Option.some.injEq, Obj.cells.injEq] at h2
 exact hne h2.2.1
structure Tb (w : World) (B : Nat) (cs : Nat → Value) (ao : Option Addr) (n c : Nat) (zs : List Int) : Prop where
 by' : Byt w ao n c zs
 fr : ∀ ad, ao = some ad → 0 < n → Fre B cs ad.block ∧ Blk w 5 ad.block
theorem Tb.kfr {w w' : World} {B : Nat} {cs cs' : Nat → Value} {ao : Option Addr} {n c : Nat} {zs : List Int} (h : Tb w B cs ao n c zs) (k : Kfr w w' B cs cs') : Tb w' B cs' ao n c zs := by
 refine ⟨⟨h.by'.len, h.by'.nil, fun ad had j u hu => ?_⟩, fun ad had hn => ?_⟩
 ·have hj : j < zs.length := by have := (List.getElem?_eq_some_iff.1 hu).1; simpa using this
  refine k.cell (h.by'.cells ad had j u hu) ?_
  have hb : (ad.add j).block = ad.block := by unfold Addr.add; split <;> rfl
  rw [hb]
  exact (h.fr ad had (by have := h.by'.len; omega)).1
 ·obtain ⟨f1, f2⟩ := h.fr ad had hn
  exact ⟨(k.block ad.block f2.lt f1).2, f2.kfr k f1⟩
structure Ti (w : World) (B : Nat) (cs : Nat → Value) (a : Option Addr) (Z : List It) : Prop where
 row : ∀ i, i < Z.length → ∃ b off ao n c bo m d, a = some ⟨b, off, none⟩ ∧ w.cell? ⟨b, off + i * 4, none⟩ = some (.slice ao n c) ∧ w.cell? ⟨b, off + i * 4 + 1, none⟩ = some (.slice bo m d) ∧ w.cell? ⟨b, off + i * 4 + 2, none⟩ = some (.int .i64 (Z.getD i it0).size) ∧ w.cell? ⟨b, off + i * 4 + 3, none⟩ = some (.int .i64 (Z.getD i it0).first) ∧ Tb w B cs ao n c (Z.getD i it0).key ∧ n ≤ c ∧ c ≤ 9223372036854775807 ∧ Tb w B cs bo m d (Z.getD i it0).val ∧ m ≤ d ∧ d ≤ 9223372036854775807 ∧ Fre B cs b ∧ Blk w 52 b
theorem Ti.kfr {w w' : World} {B : Nat} {cs cs' : Nat → Value} {a : Option Addr} {Z : List It} (h : Ti w B cs a Z) (k : Kfr w w' B cs cs') : Ti w' B cs' a Z := by
 refine ⟨fun i hi => ?_⟩
 obtain ⟨b, off, ao, n, c, bo, m, d, h1, h2, h3, h4, h5, h6, h7, h8, h9, h10, h11, h12, h13⟩ := h.row i hi
 exact ⟨b, off, ao, n, c, bo, m, d, h1, k.cell h2 h12, k.cell h3 h12, k.cell h4 h12, k.cell h5 h12, h6.kfr k, h7, h8, h9.kfr k, h10, h11, (k.block b (World.block_lt_of_cell? w _ h2) h12).2, h13.kfr k h12⟩
theorem Ti.il {w : World} {B : Nat} {cs : Nat → Value} {a : Option Addr} {Z : List It} (h : Ti w B cs a Z) : Il w a Z := by
 refine ⟨fun i hi => ?_⟩
 obtain ⟨b, off, ao, n, c, bo, m, d, h1, h2, h3, h4, h5, h6, h7, h8, h9, h10, h11, _, _⟩ := h.row i hi
 exact ⟨b, off, ao, n, c, bo, m, d, h1, h2, h3, h4, h5, h6.by', h7, h8, h9.by', h10, h11⟩
theorem blk_u8 {w : World} {d : Nat} (h : U8 w d) : Blk w 5 d := by
 obtain ⟨cur, h⟩ := h
 exact ⟨cur, _, h⟩
theorem Blk.row {w w' : World} {t : TypeId} {g : Nat} {row : Option Nat} (h : Blk w t g) (hg : w.grownBy w' row) (hne : some g ≠ row) : Blk w' t g := by
 have hl := h.lt
 obtain ⟨cur, fr, h⟩ := h
 exact ⟨cur, fr, (hg.block g hl hne).trans h⟩
theorem Blk.off {w : World} {t u : TypeId} {g : Nat} {row : Option Nat} (h : Blk w t g) (hr : ∀ i, row = some i → Blk w u i) (hne : t ≠ u) : some g ≠ row := fun e => h.ne (hr g e.symm) hne rfl
theorem Tb.row {w w' : World} {B : Nat} {cs : Nat → Value} {ao : Option Addr} {n c : Nat} {zs : List Int} {row : Option Nat} (h : Tb w B cs ao n c zs) (hg : w.grownBy w' row) (hr : ∀ i, row = some i → Blk w 42 i) : Tb w' B cs ao n c zs :=
 ⟨h.by'.kept hg (fun ad e h0 => (h.fr ad e h0).2.off hr (by decide)), fun ad e h0 => ⟨(h.fr ad e h0).1, (h.fr ad e h0).2.row hg ((h.fr ad e h0).2.off hr (by decide))⟩⟩
theorem Ti.row' {w w' : World} {B : Nat} {cs : Nat → Value} {a : Option Addr} {Z : List It} {row : Option Nat} (h : Ti w B cs a Z) (hg : w.grownBy w' row) (hr : ∀ i, row = some i → Blk w 42 i) : Ti w' B cs a Z := by
 refine ⟨fun i hi => ?_⟩
 obtain ⟨b, off, ao, n, c, bo, m, d, h1, h2, h3, h4, h5, h6, h7, h8, h9, h10, h11, h12, h13⟩ := h.row i hi
 have hb := h13.off hr (by decide)
 exact ⟨b, off, ao, n, c, bo, m, d, h1, hg.cell h2 hb, hg.cell h3 hb, hg.cell h4 hb, hg.cell h5 hb, h6.row hg hr, h7, h8, h9.row hg hr, h10, h11, h12, h13.row hg hb⟩
theorem Ti.zero (w : World) (B : Nat) (cs : Nat → Value) (a : Option Addr) : Ti w B cs a [] := ⟨fun i hi => by simp at hi⟩
def SameB (w : World) (B : Nat) (cs : Nat → Value) (s : Lst) (y : Value) : Prop := ∃ ao bo cb zs, s.v = .slice ao s.n s.c ∧ y = .slice bo s.n cb ∧ Tb w B cs ao s.n s.c zs ∧ Tb w B cs bo s.n cb zs
def SameT (w : World) (B : Nat) (cs : Nat → Value) (s : Lst) (y : Value) : Prop := ∃ ao bo cb Z, s.v = .slice ao s.n s.c ∧ y = .slice bo s.n cb ∧ Ti w B cs ao Z ∧ Ti w B cs bo Z ∧ Ib Z ∧ Z.length = s.n
structure Kpn (K : Kdk) (w : World) (B base N0 : Nat) (cs : Nat → Value) (L : List Lst) (ys : List Value) (Same : World → Nat → (Nat → Value) → Lst → Value → Prop) : Prop where
 ob : w.ownsRow base K.lt 1 (cs K.q) L.length (L.map Lst.v)
 ow : w.ownsRow base K.lt 1 (cs (K.q + 1)) L.length ys
 two : ∀ i, (cs K.q).ownBlock = some i → (cs (K.q + 1)).ownBlock ≠ some i
 ok : ∀ s ∈ L, s.Ok K.W ∧ s.There w ∧ s.n ≤ 1099511620000 ∧ Blk w K.et s.g ∧ Fre B cs s.g ∧ N0 ≤ s.g
 ap : L.Pairwise Lst.Apart
 same : ∀ (k : Nat) (s : Lst) (y : Value), L[k]? = some s → ys[k]? = some y → Same w B cs s y
structure Kpt (w : World) (B base N0 : Nat) (cs : Nat → Value) : Prop where
 box : Kbx w B cs
 c0 : cs 0 = .int .i64 0
 c1 : cs 1 = .int .i64 0
 no : ∀ q ∈ kqs ++ kgs, cs q = .slice none 0 0
 bB : B < base ∧ base ≤ w.heap.size ∧ N0 ≤ B
 un : ∀ q p, q < 41 → p < 41 → q ≠ p → ∀ i, (cs q).ownBlock = some i → (cs p).ownBlock ≠ some i
 bk : ∀ q, q < 41 → ∀ i, (cs q).ownBlock = some i → base ≤ i ∧ i < w.heap.size
theorem Kpt.notB {w : World} {B base N0 : Nat} {cs : Nat → Value} (h : Kpt w B base N0 cs) (q : Nat) (hq : q < 41) : (cs q).ownBlock ≠ some B := fun e => by
 have := (h.bk q hq B e).1
 have := h.bB.1
 omega
theorem Kpt.keptN {w w' : World} {B base N0 : Nat} {cs : Nat → Value} (h : Kpt w B base N0 cs) (hg : w.grownBy w' none) : Kpt w' B base N0 cs :=
 ⟨h.box.kept hg (by simp), h.c0, h.c1, h.no, ⟨h.bB.1, Nat.le_trans h.bB.2.1 hg.size, h.bB.2.2⟩, h.un, fun q hq i hi => ⟨(h.bk q hq i hi).1, Nat.lt_of_lt_of_le (h.bk q hq i hi).2 hg.size⟩⟩
theorem Kpn.kfr {K : Kdk} {w w' : World} {B base N0 : Nat} {cs cs' : Nat → Value} {L : List Lst} {ys : List Value} {Same : World → Nat → (Nat → Value) → Lst → Value → Prop} (h : Kpn K w B base N0 cs L ys Same) (k : Kfr w w' B cs cs') (e1 : cs' K.q = cs K.q) (e2 : cs' (K.q + 1) = cs (K.q + 1))
  (hr : ∀ i, ((cs K.q).ownBlock = some i ∨ (cs (K.q + 1)).ownBlock = some i) → w'.heap[i]? = w.heap[i]?) (hs : ∀ s y, Same w B cs s y → Same w' B cs' s y) : Kpn K w' B base N0 cs' L ys Same := by
 have own : ∀ {v : Value} {n : Nat} {xs : List Value}, w.ownsRow base K.lt 1 v n xs → (∀ i, v.ownBlock = some i → w'.heap[i]? = w.heap[i]?) → w'.ownsRow base K.lt 1 v n xs := by
  intro v n xs ho hh
  refine ⟨ho.1, ?_⟩
  rcases ho.2 with h1 | ⟨g, cap, cur, e, h2, h3, h4⟩
  ·exact Or.inl h1
  ·exact Or.inr ⟨g, cap, cur, e, h2, (hh g (by rw [e]; rfl)).trans h3, h4⟩
 refine ⟨by rw [e1]; exact own h.ob (fun i hi => hr i (Or.inl hi)), by rw [e2]; exact own h.ow (fun i hi => hr i (Or.inr hi)), by rw [e1, e2]; exact h.two, fun s hs' => ?_, h.ap, fun j s y h1 h2 => hs s y (h.same j s y h1 h2)⟩
 obtain ⟨a1, a2, a3, a4, a5, a6⟩ := h.ok s hs'
 exact ⟨a1, k.there a2 a5, a3, a4.kfr k a5, (k.block s.g a4.lt a5).2, a6⟩
theorem SameB.kfr {w w' : World} {B : Nat} {cs cs' : Nat → Value} (k : Kfr w w' B cs cs') : ∀ s y, SameB w B cs s y → SameB w' B cs' s y := by
 rintro s y ⟨ao, bo, cb, zs, h1, h2, h3, h4⟩
 exact ⟨ao, bo, cb, zs, h1, h2, h3.kfr k, h4.kfr k⟩
theorem SameT.kfr {w w' : World} {B : Nat} {cs cs' : Nat → Value} (k : Kfr w w' B cs cs') : ∀ s y, SameT w B cs s y → SameT w' B cs' s y := by
 rintro s y ⟨ao, bo, cb, Z, h1, h2, h3, h4, h5⟩
 exact ⟨ao, bo, cb, Z, h1, h2, h3.kfr k, h4.kfr k, h5⟩
theorem Kpn.keptN {K : Kdk} {w w' : World} {B base N0 : Nat} {cs : Nat → Value} {L : List Lst} {ys : List Value} {Same : World → Nat → (Nat → Value) → Lst → Value → Prop} (h : Kpn K w B base N0 cs L ys Same) (hg : w.grownBy w' none) (hs : ∀ s y, Same w B cs s y → Same w' B cs s y) : Kpn K w' B base N0 cs L ys Same :=
 h.kfr (Kfr.of hg) rfl rfl (fun i hi => hg.block i (by rcases hi with hi | hi; exact (h.ob.lt i hi).2; exact (h.ow.lt i hi).2) (by simp)) hs
theorem Kpk.frame {lt : TypeId} {q : Nat} {w w' : World} {B : Nat} {cs : Nat → Value} {base N0 k : Nat} {xs ys : List Value} {x y vb' vw' : Value} (hp : Kpk lt q w w' B cs base k xs ys x y vb' vw') (h : Kpt w B base N0 cs) (hq : q + 1 < 41) (hq1 : 1 < q) (hn : ∀ p ∈ kqs ++ kgs, p ≠ q ∧ p ≠ q + 1) :
  Kpt w' B base N0 (kup (kup cs q vb') (q + 1) vw') ∧ Kfr w w' B cs (kup (kup cs q vb') (q + 1) vw') ∧ (∀ p, p < 41 → p ≠ q → p ≠ q + 1 → ∀ i, (cs p).ownBlock = some i → w'.heap[i]? = w.heap[i]?) := by
 have hsz := hp.fr.size
 have far : ∀ p, p ≠ q → p ≠ q + 1 → kup (kup cs q vb') (q + 1) vw' p = cs p := fun p h1 h2 => by rw [kup_far _ _ h2, kup_far _ _ h1]
 have at0 : kup (kup cs q vb') (q + 1) vw' q = vb' := by rw [kup_far _ _ (by omega), kup_same]
 have at1 : kup (kup cs q vb') (q + 1) vw' (q + 1) = vw' := kup_same _ _ _
 have nbb : ∀ i, vb'.ownBlock = some i → (cs q).ownBlock = some i ∨ w.heap.size ≤ i := fun i hi => by
  rcases hp.nb with e | ⟨r, e, hr⟩
  ·exact Or.inl (by rw [← e, hi])
  ·rw [e] at hi; have := Option.some.inj hi; exact Or.inr (by omega)
 have nww : ∀ i, vw'.ownBlock = some i → (cs (q + 1)).ownBlock = some i ∨ w.heap.size ≤ i := fun i hi => by
  rcases hp.nw with e | ⟨r, e, hr⟩
  ·exact Or.inl (by rw [← e, hi])
  ·rw [e] at hi; have := Option.some.inj hi; exact Or.inr (by omega)
 have src : ∀ p, p < 41 → ∀ i, (kup (kup cs q vb') (q + 1) vw' p).ownBlock = some i → (cs p).ownBlock = some i ∨ (w.heap.size ≤ i ∧ (p = q ∨ p = q + 1)) := fun p _ i hi => by
  by_cases e1 : p = q
  ·subst e1; rw [at0] at hi; rcases nbb i hi with h1 | h1; exact Or.inl h1; exact Or.inr ⟨h1, Or.inl rfl⟩
  ·by_cases e2 : p = q + 1
   ·subst e2; rw [at1] at hi; rcases nww i hi with h1 | h1; exact Or.inl h1; exact Or.inr ⟨h1, Or.inr rfl⟩
   ·rw [far p e1 e2] at hi; exact Or.inl hi
 refine ⟨⟨hp.box, by rw [far 0 (by omega) (by omega)]; exact h.c0, by rw [far 1 (by omega) (by omega)]; exact h.c1, fun p hpm => by rw [far p (hn p hpm).1 (hn p hpm).2]; exact h.no p hpm, ⟨h.bB.1, by have := h.bB.2.1; omega, h.bB.2.2⟩, fun p r hp1 hr1 hpr i h1 h2 => ?_, fun p hp1 i hi => ?_⟩, ⟨hp.fr.os, hp.fr.tape, hp.fr.output, hsz, fun d hd hf => ⟨hp.fr.block d hd ?_, hf.1, fun p hp1 e => ?_⟩⟩, fun p hp1 h1 h2 i hi => hp.fr.block i (h.bk p hp1 i hi).2 ?_⟩
 ·rcases src p hp1 i h1 with a | ⟨a, ap⟩
  ·rcases src r hr1 i h2 with b | ⟨b, _⟩
   ·exact h.un p r hp1 hr1 hpr i a b
   ·have := (h.bk p hp1 i a).2; omega
  ·rcases src r hr1 i h2 with b | ⟨b, br⟩
   ·have := (h.bk r hr1 i b).2; omega
   ·rcases ap with rfl | rfl
    ·rcases br with rfl | rfl
     ·exact hpr rfl
     ·rw [at0] at h1; rw [at1] at h2; exact hp.two i h1 h2
    ·rcases br with rfl | rfl
     ·rw [at1] at h1; rw [at0] at h2; exact hp.two i h2 h1
     ·exact hpr rfl
 ·rcases src p hp1 i hi with a | ⟨a, ap⟩
  ·have := h.bk p hp1 i a; omega
  ·have := h.bB.2.1
   refine ⟨by omega, ?_⟩
   rcases ap with rfl | rfl
   ·rw [at0] at hi; exact (hp.ob.lt i hi).2
   ·rw [at1] at hi; exact (hp.ow.lt i hi).2
 ·rintro (e | e | e)
  ·exact hf.1 e
  ·exact hf.2 q (by omega) e
  ·exact hf.2 (q + 1) hq e
 ·rcases src p hp1 d e with a | ⟨a, _⟩
  ·exact hf.2 p hp1 a
  ·omega
 ·rintro (e | e | e)
  ·subst e; exact h.notB p hp1 hi
  ·exact h.un p q hp1 (by omega) h1 i hi e
  ·exact h.un p (q + 1) hp1 hq h2 i hi e
theorem Kpn.snoc {K : Kdk} {w w' : World} {B base N0 : Nat} {cs : Nat → Value} {L : List Lst} {ys : List Value} {Same : World → Nat → (Nat → Value) → Lst → Value → Prop} {x y vb' vw' : Value} (h : Kpn K w B base N0 cs L ys Same) (hp : Kpk K.lt K.q w w' B cs base L.length (L.map Lst.v) ys x y vb' vw') (k : Kfr w w' B cs (kup (kup cs K.q vb') (K.q + 1) vw'))
  (hs : ∀ s y, Same w B cs s y → Same w' B (kup (kup cs K.q vb') (K.q + 1) vw') s y) (s : Lst) (hv : s.v = x) (hok : s.Ok K.W) (ht : s.There w') (hn : s.n ≤ 1099511620000) (hty : Blk w' K.et s.g) (hf : Fre B (kup (kup cs K.q vb') (K.q + 1) vw') s.g) (hN : N0 ≤ s.g) (hap : ∀ t ∈ L, t.Apart s) (hsm : Same w' B (kup (kup cs K.q vb') (K.q + 1) vw') s y) :
  Kpn K w' B base N0 (kup (kup cs K.q vb') (K.q + 1) vw') (L ++ [s]) (ys ++ [y]) Same := by
 have at0 : kup (kup cs K.q vb') (K.q + 1) vw' K.q = vb' := by rw [kup_far _ _ (by omega), kup_same]
 have at1 : kup (kup cs K.q vb') (K.q + 1) vw' (K.q + 1) = vw' := kup_same _ _ _
 have hyl : ys.length = L.length := by have := h.ow.1; simpa using this
 refine ⟨?_, ?_, by rw [at0, at1]; exact hp.two, fun t ht' => ?_, ?_, fun j t z hj hz => ?_⟩
 ·rw [at0, List.length_append, List.map_append, show ([s].map Lst.v) = [x] by simp [hv]]
  exact hp.ob
 ·rw [at1, List.length_append]
  exact hp.ow
 ·rcases List.mem_append.1 ht' with h1 | h1
  ·obtain ⟨a1, a2, a3, a4, a5, a6⟩ := h.ok t h1
   exact ⟨a1, k.there a2 a5, a3, a4.kfr k a5, (k.block t.g a4.lt a5).2, a6⟩
  ·obtain rfl := List.mem_singleton.1 h1
   exact ⟨hok, ht, hn, hty, hf, hN⟩
 ·rw [List.pairwise_append]
  exact ⟨h.ap, List.pairwise_singleton _ _, fun t ht1 u hu => by obtain rfl := List.mem_singleton.1 hu; exact hap t ht1⟩
 ·rcases Nat.lt_or_ge j L.length with hlt | hge
  ·rw [List.getElem?_append_left hlt] at hj
   rw [List.getElem?_append_left (by omega)] at hz
   exact hs t z (h.same j t z hj hz)
  ·have hj0 : j = L.length := by
    have := (List.getElem?_eq_some_iff.1 hj).1
    rw [List.length_append] at this
    simp at this
    omega
   subst hj0
   rw [List.getElem?_append_right (by omega)] at hj
   rw [List.getElem?_append_right (by omega)] at hz
   simp at hj
   rw [hyl] at hz
   simp at hz
   subst hj hz
   exact hsm
theorem blk_own {w : World} {base sz n : Nat} {t : TypeId} {v : Value} {xs : List Value} (h : w.ownsRow base t sz v n xs) : ∀ i, v.ownBlock = some i → Blk w t i := fun i hi => by
 rcases h.2 with ⟨e, _⟩ | ⟨g, cap, cur, e, _, hg, _⟩
 ·rw [e] at hi; cases hi
 ·rw [e] at hi
  obtain rfl := Option.some.inj hi
  exact ⟨cur, _, hg⟩
theorem kpt_bytes {w : World} {B base N0 : Nat} {cs : Nat → Value} {L1 : List Lst} {ys1 : List Value} (hT : Kpt w B base N0 cs) (h1 : Kpn kdB w B base N0 cs L1 ys1 SameB) (ao : Option Addr) (n c : Nat) (zs : List Int) (hby : Tb w B cs ao n c zs) (hn : n ≤ 1099511620000) (hm : L1.length ≤ 1000000) :
  Calls Tryz.prog 8 #[.pointer (some ⟨B, 0, none⟩), .slice ao n c] w fun en w' => en = .returned (.tuple #[]) ∧ ∃ cs' y g, Kpt w' B base N0 cs' ∧ Kfr w w' B cs cs' ∧ (∀ p, p < 41 → p ≠ 2 → p ≠ 3 → cs' p = cs p ∧ ∀ i, (cs p).ownBlock = some i → w'.heap[i]? = w.heap[i]?) ∧ w.heap.size ≤ g ∧ Blk w' 5 g ∧ Fre B cs' g ∧
   (∀ s : Lst, s.v = .slice ao n c → s.n = n → s.c = c → s.Ok 1 → s.There w' → Blk w' 5 s.g → Fre B cs' s.g → N0 ≤ s.g → (∀ t ∈ L1, t.Apart s) → Kpn kdB w' B base N0 cs' (L1 ++ [s]) (ys1 ++ [y]) SameB) := by
 refine (kkeep_bytes B cs base L1.length (L1.map Lst.v) ys1 ao n c zs w hT.box h1.ob h1.ow hT.bB.2.1 (hT.notB 2 (by omega)) (hT.notB 3 (by omega)) hm hby.by' (by omega) (fun a ha h0 => ?_) h1.two).mono ?_
 ·have := (hby.fr a ha h0).1
  exact ⟨this.1, fun e => this.2 2 (by omega) e.symm, fun e => this.2 3 (by omega) e.symm⟩
 ·rintro en w' ⟨rfl, vb', vw', g, H, hH, hp, hown⟩
  obtain ⟨k1, k2, k3⟩ := hp.frame hT (by omega) (by omega) (by decide)
  have hgl := hown.lt g rfl
  have hbg : Blk w' 5 g := blk_own hown g rfl
  have hB := hT.box.lt
  have hfg : Fre B (kup (kup cs 2 vb') (2 + 1) vw') g := by
   refine ⟨by omega, fun q hq e => ?_⟩
   by_cases e2 : q = 2
   ·subst e2
    have : vb'.ownBlock = some g := by rw [kup_far _ _ (by omega), kup_same] at e; exact e
    exact (blk_own hp.ob g this).ne hbg (by decide) rfl
   ·by_cases e3 : q = 3
    ·subst e3
     have : vw'.ownBlock = some g := by rw [kup_same] at e; exact e
     exact (blk_own hp.ow g this).ne hbg (by decide) rfl
    ·rw [kup_far _ _ e3, kup_far _ _ e2] at e
     have := (hT.bk q hq g e).2
     omega
  refine ⟨rfl, kup (kup cs 2 vb') (2 + 1) vw', .slice (some ⟨g, 0, none⟩) n n, g, k1, k2, fun p hp1 h2 h3 => ⟨by rw [kup_far _ _ h3, kup_far _ _ h2], k3 p hp1 h2 h3⟩, by omega, hbg, hfg, fun s e1 e2 e3 hok ht hty hf hN hap => ?_⟩
  subst e2 e3
  exact h1.snoc hp k2 (SameB.kfr k2) s e1 hok ht hn hty hf hN hap ⟨ao, some ⟨g, 0, none⟩, s.n, zs, e1, rfl, hby.kfr k2, ⟨Byt.of_owns hown, fun ad e _ => by obtain rfl := Option.some.inj e; exact ⟨hfg, hbg⟩⟩⟩
theorem Lq.ti {w : World} {B H A c : Nat} {cs : Nat → Value} {gk gv : Nat → Nat × Nat} {xs : List Value} {L : List It} (h : Lq w H A c gk gv xs L) (hf : ∀ d, H ≤ d → (U8 w d ∨ d = A) → Fre B cs d) : Ti w B cs (some ⟨A, 0, none⟩) L := by
 refine ⟨fun j hj => ?_⟩
 obtain ⟨a1, a2, a3, a4⟩ := h.lm.cells (ys := []) (by rw [List.append_nil]; exact h.own) j hj
 obtain ⟨k1, k2⟩ := h.lm.ko j hj
 obtain ⟨l1, l2, _⟩ := h.lm.lo j hj
 have e1 := k1.le
 have e2 := k2.le
 have m1 := k1.max
 have m2 := k2.max
 rw [List.length_append] at e1 e2
 exact ⟨A, 0, _, _, _, _, _, _, rfl, by rw [Nat.zero_add]; exact a1, by rw [Nat.zero_add]; exact a2, by rw [Nat.zero_add]; exact a3, by rw [Nat.zero_add]; exact a4, ⟨ow_part k1 _ rfl, fun ad e _ => by obtain rfl := Option.some.inj e; exact ⟨hf _ l1 (Or.inl k1.u8), blk_u8 k1.u8⟩⟩, by omega, by omega, ⟨ow_part k2 _ rfl, fun ad e _ => by obtain rfl := Option.some.inj e; exact ⟨hf _ l2 (Or.inl k2.u8), blk_u8 k2.u8⟩⟩, by omega, by omega, hf A (h.own.lt A rfl).1 (Or.inr rfl), blk_own h.own A rfl⟩
theorem items_end {w wr w2 w3 w4 : World} {B base N0 : Nat} {cs cz : Nat → Value} {L1 L2 D : List Lst} {ys1 ys2 : List Value} {a : Option Addr} {n cap : Nat} {Z : List It} {vb' : Value} {A cA g4 c4 : Nat} {gk gv : Nat → Nat × Nat} {zs3 : List Value} {o' : Obj}
  (hT : Kpt wr B base N0 cz) (h1 : Kpn kdB wr B base N0 cz (L1 ++ D) ys1 SameB) (h2 : Kpn kdT wr B base N0 cz L2 ys2 SameT) (hti : Ti wr B cz a Z) (hib : Ib Z) (hzn : Z.length = n)
  (hp : Kpk 22 20 wr (w4.setCell ⟨B, 21, none⟩ (.slice (some ⟨g4, 0, none⟩) (L2.length + 1) c4)) B cz base L2.length (L2.map Lst.v) ys2 (.slice a n cap) (.slice (some ⟨A, 0, none⟩) n cA) vb' (.slice (some ⟨g4, 0, none⟩) (L2.length + 1) c4))
  (hq3 : Lq w3 w2.drew.heap.size A cA gk gv zs3 Z) (hs2 : wr.heap.size ≤ w2.heap.size) (hg4 : (w3.alloc o').grownBy w4 (cz 21).ownBlock) (hset : w4.grownBy (w4.setCell ⟨B, 21, none⟩ (.slice (some ⟨g4, 0, none⟩) (L2.length + 1) c4)) (some B))
  (hvw : ∀ i, (cz 21).ownBlock = some i → i < wr.heap.size) (hkf : Kfr w wr B cs cz) :
  ∃ cs' ys1' y A, Kpt (w4.setCell ⟨B, 21, none⟩ (.slice (some ⟨g4, 0, none⟩) (L2.length + 1) c4)) B base N0 cs' ∧ Kpn kdB (w4.setCell ⟨B, 21, none⟩ (.slice (some ⟨g4, 0, none⟩) (L2.length + 1) c4)) B base N0 cs' (L1 ++ D) ys1' SameB ∧ Kfr w (w4.setCell ⟨B, 21, none⟩ (.slice (some ⟨g4, 0, none⟩) (L2.length + 1) c4)) B cs cs' ∧ w.heap.size ≤ A ∧ Blk (w4.setCell ⟨B, 21, none⟩ (.slice (some ⟨g4, 0, none⟩) (L2.length + 1) c4)) 52 A ∧ Fre B cs' A ∧
   (∀ s : Lst, s.v = .slice a n cap → s.n = n → s.c = cap → s.Ok 4 → s.There (w4.setCell ⟨B, 21, none⟩ (.slice (some ⟨g4, 0, none⟩) (L2.length + 1) c4)) → s.n ≤ 1099511620000 → Blk (w4.setCell ⟨B, 21, none⟩ (.slice (some ⟨g4, 0, none⟩) (L2.length + 1) c4)) 52 s.g → Fre B cs' s.g → N0 ≤ s.g → (∀ t ∈ L2, t.Apart s) → Kpn kdT (w4.setCell ⟨B, 21, none⟩ (.slice (some ⟨g4, 0, none⟩) (L2.length + 1) c4)) B base N0 cs' (L2 ++ [s]) (ys2 ++ [y]) SameT) := by
 obtain ⟨k1, k2, k3⟩ := hp.frame hT (by omega) (by omega) (by decide)
 have hB := hT.box.lt
 have hq4 := hq3.keptN (World.grownBy_alloc w3 o' none)
 have hsd : w2.drew.heap.size = w2.heap.size := rfl
 have hq5 : Lq w4 w2.drew.heap.size A cA gk gv zs3 Z := by
  cases hv : (cz 21).ownBlock with
  | none => rw [hv] at hg4; exact hq4.keptN hg4
  | some i => rw [hv] at hg4; exact hq4.below hg4 (by have := hvw i hv; omega)
 have hq6 := hq5.below hset (by omega)
 generalize w4.setCell ⟨B, 21, none⟩ (.slice (some ⟨g4, 0, none⟩) (L2.length + 1) c4) = w' at *
 have hbA : Blk w' 52 A := blk_own hq6.own A rfl
 have hA := (hq6.own.lt A rfl).1
 have hF : ∀ d, w2.drew.heap.size ≤ d → (U8 w' d ∨ d = A) → Fre B (kup (kup cz 20 vb') (20 + 1) (.slice (some ⟨g4, 0, none⟩) (L2.length + 1) c4)) d := by
  intro d hd ht
  have hbd : Blk w' 5 d ∨ Blk w' 52 d := by
   rcases ht with ⟨cur, h⟩ | rfl
   ·exact Or.inl ⟨cur, _, h⟩
   ·exact Or.inr hbA
  have ne : ∀ {v : Value} {m : Nat} {xs : List Value}, w'.ownsRow base 22 1 v m xs → v.ownBlock ≠ some d := fun ho e => by
   rcases hbd with h | h
   ·exact (blk_own ho d e).ne h (by decide) rfl
   ·exact (blk_own ho d e).ne h (by decide) rfl
  refine ⟨by omega, fun q hq e => ?_⟩
  by_cases e2 : q = 20
  ·subst e2
   rw [kup_far _ _ (by omega), kup_same] at e
   exact ne hp.ob e
  ·by_cases e3 : q = 21
   ·subst e3
    rw [kup_same] at e
    exact ne hp.ow e
   ·rw [kup_far _ _ e3, kup_far _ _ e2] at e
    have := (hT.bk q hq d e).2
    omega
 refine ⟨kup (kup cz 20 vb') (20 + 1) (.slice (some ⟨g4, 0, none⟩) (L2.length + 1) c4), ys1, .slice (some ⟨A, 0, none⟩) n cA, A, k1, h1.kfr k2 (by rw [kup_far _ _ (by decide), kup_far _ _ (by decide)]) (by rw [kup_far _ _ (by decide), kup_far _ _ (by decide)]) (fun i hi => ?_) (SameB.kfr k2), hkf.trans k2, by have := hkf.size; omega, hbA, hF A hA (Or.inr rfl), fun s e1 e2 e3 hok ht hn hty hf hN hap => ?_⟩
 ·rcases hi with hi | hi
  ·exact k3 2 (by omega) (by omega) (by omega) i hi
  ·exact k3 3 (by omega) (by omega) (by omega) i hi
 ·subst e2 e3
  exact h2.snoc hp k2 (SameT.kfr k2) s e1 hok ht hn hty hf hN hap ⟨a, some ⟨A, 0, none⟩, cA, Z, e1, rfl, hti.kfr k2, hq6.ti hF, hib, hzn⟩
set_option maxHeartbeats 4000000 in
set_option maxRecDepth 100000 in
theorem kpt_items {w : World} {B base N0 : Nat} {cs : Nat → Value} {L1 L2 : List Lst} {ys1 ys2 : List Value} (hT : Kpt w B base N0 cs) (h1 : Kpn kdB w B base N0 cs L1 ys1 SameB) (h2 : Kpn kdT w B base N0 cs L2 ys2 SameT) (a : Option Addr) (n cap : Nat) (Z : List It) (D : List Lst) (hti : Ti w B cs a Z) (hib : Ib Z) (hzn : Z.length = n) (hn : n ≤ 5000) (hzs : ∀ x ∈ Z, x.key.length ≤ 100000 ∧ x.val.length ≤ 100000)
  (hDl : D.length = 2 * n) (hD : ∀ i, i < n → ∃ b off k v, a = some ⟨b, off, none⟩ ∧ D[2 * i]? = some k ∧ D[2 * i + 1]? = some v ∧ w.cell? ⟨b, off + i * 4, none⟩ = some k.v ∧ w.cell? ⟨b, off + i * 4 + 1, none⟩ = some v.v)
  (hDo : ∀ s ∈ D, s.Ok 1 ∧ s.There w ∧ s.n ≤ 1099511620000 ∧ Blk w 5 s.g ∧ Fre B cs s.g ∧ N0 ≤ s.g) (hDp : D.Pairwise Lst.Apart) (hDa : ∀ t ∈ L1, ∀ s ∈ D, t.Apart s) (hm : L1.length + 2 * n ≤ 1000000) (hm2 : L2.length ≤ 1000000) :
  Calls Tryz.prog 11 #[.pointer (some ⟨B, 0, none⟩), .slice a n cap] w fun en w' => en = .returned (.tuple #[]) ∧ ∃ cs' ys1' y A, Kpt w' B base N0 cs' ∧ Kpn kdB w' B base N0 cs' (L1 ++ D) ys1' SameB ∧ Kfr w w' B cs cs' ∧ w.heap.size ≤ A ∧ Blk w' 52 A ∧ Fre B cs' A ∧
   (∀ s : Lst, s.v = .slice a n cap → s.n = n → s.c = cap → s.Ok 4 → s.There w' → s.n ≤ 1099511620000 → Blk w' 52 s.g → Fre B cs' s.g → N0 ≤ s.g → (∀ t ∈ L2, t.Apart s) → Kpn kdT w' B base N0 cs' (L2 ++ [s]) (ys2 ++ [y]) SameT) := by
 obtain ⟨i0, hi, hz0, hz1, hz2⟩ := info_parts kinfo_items
 have S0 : Hid (∃ cz ys, Kpt w B base N0 cz ∧ Kpn kdB w B base N0 cz (L1 ++ D.take (2 * 0)) ys SameB ∧ Kpn kdT w B base N0 cz L2 ys2 SameT ∧ Ti w B cz a Z ∧ Kfr w w B cs cz) :=
  ⟨cs, ys1, hT, by simpa using h1, h2, hti, Kfr.of ((Qt.refl _).grown none)⟩
 have HD := hid_intro hD
 have HDO := hid_intro hDo
 have HTI0 := hid_intro hti
 have AP : Hid (∀ j k, D[j]? = some k → ∀ t ∈ L1 ++ D.take j, t.Apart k) := fun j k hk t ht => by
  rcases List.mem_append.1 ht with h | h
  ·exact hDa t h k (List.mem_of_getElem? hk)
  ·obtain ⟨i, hi⟩ := List.mem_iff_getElem?.1 h
   have hil := (List.getElem?_eq_some_iff.1 hi).1
   rw [List.length_take] at hil
   rw [List.getElem?_take, if_pos (by omega)] at hi
   exact ls_pair hDp hi hk (by omega)
 clear hT h1 h2 hti hD hDo hDp hDa
 go_enter Tryz.func11, Tryz.ntmps11
 go_wp2
 go_loopw [4] (fun si wr => ∃ i : Nat, i ≤ n ∧ si = .int .i64 i ∧ ∃ cz ys, Kpt wr B base N0 cz ∧ Kpn kdB wr B base N0 cz (L1 ++ D.take (2 * i)) ys SameB ∧ Kpn kdT wr B base N0 cz L2 ys2 SameT ∧ Ti wr B cz a Z ∧ Kfr w wr B cs cz) (fun si _ => n - (intOf si).toNat)
 case atStart => exact ⟨0, Nat.zero_le _, rfl, S0.out⟩
 case round =>
  obtain ⟨i, hi', rfl, cz, ys, hT, h1, h2, hti, hkf⟩ := hrel
  have HT := hid_intro hT
  have H1 := hid_intro h1
  have H2 := hid_intro h2
  have HTI := hid_intro hti
  have HKF := hid_intro hkf
  clear hT h1 h2 hti hkf S0
  by_cases hlt : i < n
  ·obtain ⟨b, off, k, v, rfl, hk, hv, ck, cv⟩ := HD.out i hlt
   obtain ⟨b', off', ao, m, c, bo, m2, d, e, q1, q2, _, _, q6, _, _, q9, _, _, q12, _⟩ := HTI.out.row i (by omega)
   simp only [Option.some.injEq, Addr.mk.injEq, and_true] at e
   obtain ⟨rfl, rfl⟩ := e
   obtain ⟨ak, ek, _⟩ := (HDO.out k (List.mem_of_getElem? hk)).1.val
   obtain ⟨av, ev, _⟩ := (HDO.out v (List.mem_of_getElem? hv)).1.val
   have fb : Fre B cs b := by
    obtain ⟨b2, off2, _, _, _, _, _, _, e2, _, _, _, _, _, _, _, _, _, _, r12, _⟩ := HTI0.out.row i (by omega)
    simp only [Option.some.injEq, Addr.mk.injEq, and_true] at e2
    obtain ⟨rfl, rfl⟩ := e2
    exact r12
   have ck' := HKF.out.cell ck fb
   have cv' := HKF.out.cell cv fb
   rw [q1] at ck'
   rw [q2] at cv'
   have e1 := Option.some.inj ck'
   have e2 := Option.some.inj cv'
   rw [ek] at e1
   rw [ev] at e2
   simp only [Value.slice.injEq] at e1 e2
   obtain ⟨rfl, rfl, rfl⟩ := e1
   obtain ⟨rfl, rfl, rfl⟩ := e2
   have hk0 := HDO.out k (List.mem_of_getElem? hk)
   have hv0 := HDO.out v (List.mem_of_getElem? hv)
   have g0 : (0 : Int) ≤ (i : Int) := by omega
   have g1 : (i : Int) < (n : Int) := by omega
   have HQ6 := hid_intro q6
   have HQ9 := hid_intro q9
   have hLk : (L1 ++ D.take (2 * i)).length ≤ 1000000 := by rw [List.length_append, List.length_take]; omega
   have HK := hid_intro hk
   have HV := hid_intro hv
   have HEK := hid_intro ek
   have HEV := hid_intro ev
   have HK0 := hid_intro hk0
   have HV0 := hid_intro hv0
   have HQ2 := hid_intro q2
   have HQ12 := hid_intro q12
   have hkn := hk0.2.2.1
   have hvn := hv0.2.2.1
   clear ck cv ck' cv' q6 q9 hk hv ek ev hk0 hv0 q12
   go_wp2_with fail
   refine (kpt_bytes HT.out H1.out ao k.n k.c _ HQ6.out hkn hLk).mono ?_
   rintro en w1 ⟨rfl, c1, y1, gc, k1, k2, k3, _, _, _, k4⟩
   have HT1 := hid_intro k1
   have HF1 := hid_intro k2
   have HKF1 := hid_intro (HKF.out.trans k2)
   have H11 := hid_intro (k4 k HEK.out rfl rfl HK0.out.1 (HKF1.out.there HK0.out.2.1 HK0.out.2.2.2.2.1) (HK0.out.2.2.2.1.kfr HKF1.out HK0.out.2.2.2.2.1) (HKF1.out.block k.g HK0.out.2.2.2.1.lt HK0.out.2.2.2.2.1).2 HK0.out.2.2.2.2.2 (AP.out _ k HK.out))
   have H21 := hid_intro (H2.out.kfr k2 (k3 20 (by omega) (by omega) (by omega)).1 (k3 21 (by omega) (by omega) (by omega)).1 (fun i hi => by rcases hi with hi | hi; exact (k3 20 (by omega) (by omega) (by omega)).2 i hi; exact (k3 21 (by omega) (by omega) (by omega)).2 i hi) (SameT.kfr k2))
   have HTI1 := hid_intro (HTI.out.kfr k2)
   have HQ91 := hid_intro (HQ9.out.kfr k2)
   have q21 := k2.cell HQ2.out HQ12.out
   have etk : D.take (2 * i + 1) = D.take (2 * i) ++ [k] := by
    rw [List.take_add_one, HK.out]; rfl
   rw [List.append_assoc, ← etk] at H11
   have hLk1 : (L1 ++ D.take (2 * i + 1)).length ≤ 1000000 := by rw [List.length_append, List.length_take]; omega
   clear k1 k2 k3 k4 HT H1 H2 HTI HKF HQ6 HQ9 q1 q2 HQ2 etk HF1
   go_wp2_with fail
   refine (kpt_bytes HT1.out H11.out bo v.n v.c _ HQ91.out hvn hLk1).mono ?_
   rintro en w3 ⟨rfl, c3, y3, gc3, k1, k2, k3, _, _, _, k4⟩
   have HT3 := hid_intro k1
   have HKF3 := hid_intro (HKF1.out.trans k2)
   have H13 := hid_intro (k4 v HEV.out rfl rfl HV0.out.1 (HKF3.out.there HV0.out.2.1 HV0.out.2.2.2.2.1) (HV0.out.2.2.2.1.kfr HKF3.out HV0.out.2.2.2.2.1) (HKF3.out.block v.g HV0.out.2.2.2.1.lt HV0.out.2.2.2.2.1).2 HV0.out.2.2.2.2.2 (AP.out _ v HV.out))
   have H23 := hid_intro (H21.out.kfr k2 (k3 20 (by omega) (by omega) (by omega)).1 (k3 21 (by omega) (by omega) (by omega)).1 (fun i hi => by rcases hi with hi | hi; exact (k3 20 (by omega) (by omega) (by omega)).2 i hi; exact (k3 21 (by omega) (by omega) (by omega)).2 i hi) (SameT.kfr k2))
   have HTI3 := hid_intro (HTI1.out.kfr k2)
   have etv : D.take (2 * (i + 1)) = D.take (2 * i + 1) ++ [v] := by
    rw [show 2 * (i + 1) = 2 * i + 1 + 1 by omega, List.take_add_one, HV.out]; rfl
   rw [List.append_assoc, ← etv] at H13
   clear k1 k2 k3 k4 HT1 H11 H21 HTI1 HKF1 HQ91 etv q21
   go_wp2
   go_roundw
   case rel => exact ⟨i + 1, by omega, by go_num, c3, _, HT3.out, H13.out, H23.out, HTI3.out, HKF3.out⟩
   case measure => simp [intOf]; omega
  ·have hin : n = i := by omega
   subst hin
   have etl : D.take (2 * n) = D := List.take_of_length_le (by omega)
   rw [etl] at H1
   have HP1 := H1
   clear H1 etl
   have HX := hid_intro HT.out.box
   have HOB : Hid (wr.ownsRow base 22 1 (cz 20) L2.length (L2.map Lst.v)) := H2.out.ob
   have HOW : Hid (wr.ownsRow base 22 1 (cz 21) L2.length ys2) := H2.out.ow
   have hB1 := HT.out.notB 20 (by omega)
   have hB2 := HT.out.notB 21 (by omega)
   have hbase := HT.out.bB.2.1
   have hbw : ∀ i, (cz 20).ownBlock = some i → (cz 21).ownBlock ≠ some i := H2.out.two
   have HBW := hid_intro hbw
   have k2 := HX.out.cell 20 (by omega)
   go_wp2_with (at_builtin; refine wpList_append_lies _ rfl _ _ 32 rfl base 22 i0 (.slice none 0 0) 1 24 Tryz.underlying32 hi hz0 hz1 hz2 rfl (by decide) (cz 20) L2.length (L2.map Lst.v) rfl (HOB.out.alloc _) ⟨wr.heap.size, 0, none⟩ 1 1 [.slice a n cap] rfl rfl (cell_one_new _ _ _) (by intro u hu; simp at hu; subst hu; rfl) (by omega) (by unfold maxLen; omega) (by omega) (by simp; omega) (wr.heap.size + 1) (by simp) ?_)
   intro g1 c1 w1 hown1 hg1 hat1 hlt1
   have X1 : Hid (Kbx w1 B cz) := (HX.out.kept (World.grownBy_alloc _ _ none) (by simp)).kept hg1 (Ne.symm hB1)
   have X2 : Hid (Kbx (w1.setCell ⟨B, 20, none⟩ (.slice (some ⟨g1, 0, none⟩) (L2.length + 1) c1)) B (kup cz 20 (.slice (some ⟨g1, 0, none⟩) (L2.length + 1) c1))) := X1.out.set 20 (by omega) _
   have k2' := X1.out.cell 20 (by omega)
   have f2' := X1.out.fz 20 (by omega)
   have k3' : (w1.setCell ⟨B, 20, none⟩ (.slice (some ⟨g1, 0, none⟩) (L2.length + 1) c1)).cell? ⟨B, 21, none⟩ = some (cz 21) := (X2.out.cell 21 (by omega)).trans (by rw [kup_far _ _ (by omega)])
   have f3' := X2.out.fz 21 (by omega)
   have H1 := hid_intro hown1
   have HG1 := hid_intro hg1
   clear hown1 hg1
   go_wp2
   obtain ⟨w2, hw2⟩ : ∃ w2, w2 = w1.setCell ⟨B, 20, none⟩ (.slice (some ⟨g1, 0, none⟩) (L2.length + 1) c1) := ⟨_, rfl⟩
   rw [← hw2] at X2 k3' f3' ⊢
   have HW2 := hid_intro hw2
   clear hw2
   have hs12 : w2.heap.size = w1.heap.size := by rw [HW2.out]; simp
   have hs01 : wr.heap.size < w1.heap.size := by have := HG1.out.size; simp at this; omega
   have hgw2 : w1.grownBy w2 (some B) := by rw [HW2.out]; exact kset_grown _ _ _ _
   have KF2 : Hid (Kfr wr w2 B cz cz) := ⟨(HW2.out ▸ rfl : w2.os = w1.os).trans (HG1.out.os.trans rfl), (HW2.out ▸ rfl : w2.tape = w1.tape).trans (HG1.out.tape.trans rfl), (HW2.out ▸ rfl : w2.output = w1.output).trans (HG1.out.output.trans rfl), by omega, fun d hd hf => ⟨(hgw2.block d (by omega) (fun e => hf.1 (Option.some.inj e))).trans ((HG1.out.block d (by simp; omega) (fun e => hf.2 20 (by omega) e.symm)).trans ((World.grownBy_alloc wr _ none).block d hd (by simp))), hf⟩⟩
   have Y2 : Hid (∀ w' : World, w'.heap = w2.heap → Il w' a Z) := fun w' e => (HTI.out.kfr KF2.out).il.heap e
   have O2 : Hid (w2.ownsRow base 22 1 (cz 21) L2.length ys2) :=
    (((HOW.out.alloc _).kept HG1.out (by
     cases hvw : (cz 21).ownBlock with
     | none => exact Or.inl rfl
     | some i => exact Or.inr (fun e => hbw i e.symm hvw))).kept hgw2 (Or.inr hB2))
   have P2 : Hid (w2.ownsRow base 22 1 (.slice (some ⟨g1, 0, none⟩) (L2.length + 1) c1) (L2.length + 1) (L2.map Lst.v ++ [.slice a n cap])) :=
    H1.out.kept hgw2 (Or.inr (fun e => by
     have e' : g1 = B := Option.some.inj e
     have := HX.out.lt
     rcases hat1 with h | h
     ·exact hB1 (by rw [h, e'])
     ·omega))
   have HGW2 := hid_intro hgw2
   clear hgw2
   have HS12 := hid_intro hs12
   have hb2 : base ≤ w2.heap.size := by omega
   have HVW := hid_intro (fun i e => (HOW.out.lt i e).2 : ∀ i, (cz 21).ownBlock = some i → i < wr.heap.size)
   clear hs12
   generalize hvw : cz 21 = vw at *
   go_region_law
    ((first
     | (go_simp; go_at_call 6; refine (refItems_big a n cap Z _ (by exact Y2.out _ rfl) hzn (by omega) hzs).mono ?_; rintro en w3 ⟨A, cA, gk, gv, zs3, rfl, hq3, hcA0, hcA1, hg3⟩; have kk3 : w3.cell? ⟨B, 21, none⟩ = some vw := hg3.cell (by simpa using k3') (by simp); have nn3 := World.new_ne w3 ⟨B, 21, none⟩ kk3; have kk3o : ∀ o : Obj, (w3.alloc o).cell? ⟨B, 21, none⟩ = some vw := (fun o => by rw [World.cell?_alloc_lt _ _ _ (World.block_lt_of_cell? _ _ kk3)]; exact kk3); have ff3 : w3.frozen? ⟨B, 21, none⟩ = false := (hg3.frozen_far ⟨B, 21, none⟩ (by simpa using World.block_lt_of_cell? _ _ k3') (by simp)).trans (by simpa using f3'))
     | (refine step_append_lies _ (by rfl) _ _ _ (by rfl) base 22 i0 (.slice none 0 0) 1 24 Tryz.underlying32 hi hz0 hz1 hz2 (by rfl) (by decide) vw L2.length ys2 (by rfl) (by exact ((O2.out.kept ((Qt.refl w2).drew.grown none) (by cases vw.ownBlock <;> simp)).kept hg3 (by cases vw.ownBlock <;> simp)).alloc _) ⟨w3.heap.size, 0, none⟩ 1 1 [.slice (some ⟨A, 0, none⟩) n cA] (by rfl) (by rfl) (by exact cell_one_new _ _ _) (by intro u hu; simp at hu; subst hu; rfl) (by omega) (by unfold maxLen; omega) (by omega) (by have h9 := hg3.size; simp at h9; simp; omega) (w3.heap.size + 1) (by simp) ?_; intro g4 c4 w4 hown4 hg4 hat4 hlt4; have kk4 : w4.cell? ⟨B, 21, none⟩ = some vw := hg4.cell (by rw [World.cell?_alloc_lt _ _ _ (World.block_lt_of_cell? _ _ kk3)]; exact kk3) (Ne.symm hB2); have ff4 : w4.frozen? ⟨B, 21, none⟩ = false := (hg4.frozen_far ⟨B, 21, none⟩ (by have := World.block_lt_of_cell? _ _ kk3; simp at this ⊢; omega) (Ne.symm hB2)).trans ((World.frozen?_of_block ((World.grownBy_alloc w3 _ none).block B (World.block_lt_of_cell? _ _ kk3) (by simp))).trans ff3))))
   all_goals
    refine Go.Great.bodyPost_end0 rfl rfl ?_
    subst hvw
    have hs3' : w2.heap.size ≤ w3.heap.size := by have := hg3.size; simpa using this
    have hset := kset_grown w4 B 21 (.slice (some ⟨g4, 0, none⟩) (L2.length + 1) c4)
    have hKP := Kpk.make (q := 20) (by omega) HX.out.lt HOW.out hB1 hB2 HBW.out HG1.out hat1 hlt1 HGW2.out HS12.out X2.out P2.out hg3 hs3' hown4 hg4 hat4
    have hBl := HX.out.lt
    have hS := HS12.out
    have hVW := HVW.out
    exact ⟨rfl, items_end HT.out HP1.out H2.out HTI.out hib hzn hKP hq3 (by omega) hg4 hset hVW HKF.out⟩
structure Kdl (w : World) (a : Option Addr) (n : Nat) (D : List Lst) (lo : Nat) : Prop where
 len : D.length = 2 * n
 at' : ∀ i, i < n → ∃ b off k v, a = some ⟨b, off, none⟩ ∧ D[2 * i]? = some k ∧ D[2 * i + 1]? = some v ∧ w.cell? ⟨b, off + i * 4, none⟩ = some k.v ∧ w.cell? ⟨b, off + i * 4 + 1, none⟩ = some v.v
 ok : ∀ s ∈ D, s.Ok 1 ∧ s.There w ∧ s.n ≤ 1099511620000 ∧ Blk w 5 s.g ∧ lo ≤ s.g
 ap : D.Pairwise Lst.Apart
def kvs (K V : Nat → Lst) (n : Nat) : List Lst := (List.range (2 * n)).map fun q => if q % 2 = 0 then K (q / 2) else V (q / 2)
theorem kvs_len (K V : Nat → Lst) (n : Nat) : (kvs K V n).length = 2 * n := by simp [kvs]
theorem kvs_key (K V : Nat → Lst) {n i : Nat} (h : i < n) : (kvs K V n)[2 * i]? = some (K i) := by
 unfold kvs
 rw [List.getElem?_map, List.getElem?_range (by omega)]
 simp
theorem kvs_val (K V : Nat → Lst) {n i : Nat} (h : i < n) : (kvs K V n)[2 * i + 1]? = some (V i) := by
 unfold kvs
 rw [List.getElem?_map, List.getElem?_range (by omega)]
 have e1 : (2 * i + 1) % 2 = 1 := by omega
 have e2 : (2 * i + 1) / 2 = i := by omega
 simp [e1, e2]
theorem kvs_mem {K V : Nat → Lst} {n : Nat} {s : Lst} (h : s ∈ kvs K V n) : ∃ i, i < n ∧ (s = K i ∨ s = V i) := by
 unfold kvs at h
 obtain ⟨q, hq, rfl⟩ := List.mem_map.1 h
 rw [List.mem_range] at hq
 refine ⟨q / 2, by omega, ?_⟩
 by_cases e : q % 2 = 0
 ·simp [e]
 ·simp [e]
theorem kvs_apart {K V : Nat → Lst} {n : Nat} (h1 : ∀ i j, i < j → j < n → (K i).Apart (K j)) (h2 : ∀ i j, i ≤ j → j < n → (K i).Apart (V j)) (h3 : ∀ i j, i < j → j < n → (V i).Apart (K j)) (h4 : ∀ i j, i < j → j < n → (V i).Apart (V j)) : (kvs K V n).Pairwise Lst.Apart := by
 rw [List.pairwise_iff_getElem]
 intro a b ha hb hab
 rw [kvs_len] at ha hb
 have ea : (kvs K V n)[a]'(by rw [kvs_len]; omega) = if a % 2 = 0 then K (a / 2) else V (a / 2) := by simp [kvs]
 have eb : (kvs K V n)[b]'(by rw [kvs_len]; omega) = if b % 2 = 0 then K (b / 2) else V (b / 2) := by simp [kvs]
 rw [ea, eb]
 by_cases e1 : a % 2 = 0
 ·by_cases e2 : b % 2 = 0
  ·simp only [e1, e2, if_true]; exact h1 _ _ (by omega) (by omega)
  ·simp only [e1, if_true, if_neg e2]; exact h2 _ _ (by omega) (by omega)
 ·by_cases e2 : b % 2 = 0
  ·simp only [e2, if_true, if_neg e1]; exact h3 _ _ (by omega) (by omega)
  ·simp only [if_neg e1, if_neg e2]; exact h4 _ _ (by omega) (by omega)
theorem apart_blocks {s t : Lst} (h : 0 < s.C → 0 < t.C → s.g ≠ t.g) : s.Apart t := fun i j hi hj e => h (by omega) (by omega) (by injection e)
theorem map_get {zs : List Int} {j : Nat} (h : j < zs.length) : (zs.map (Value.int .u8))[j]? = some (.int .u8 (zs.getD j 0)) := by
 rw [List.getElem?_map, List.getElem?_eq_getElem h]
 simp [List.getD, List.getElem?_eq_getElem h]
theorem u8_frozen {w : World} {d : Nat} (h : U8 w d) (j : Nat) : w.frozen? ⟨d, j, none⟩ = false := by
 obtain ⟨cur, h⟩ := h
 exact frozen_of_row w d j _ _ h
theorem Ivo.kdl {w : World} {R G lo pos base cap : Nat} {a : Option Addr} {n : Nat} {xs : List Value} {L : List It} {kg kn vp vm : Nat → Nat} (h : Ivo w R G lo pos xs L kg kn vp vm) (ho : w.ownsRow base 52 4 (.slice a n cap) n xs) (hn : L.length = n) (hG : lo ≤ G) : ∃ D, Kdl w a n D lo := by
 classical
 obtain ⟨bf, hbf⟩ : ∃ bf : Nat → Option Addr, ∀ j, j < L.length → xs[j * 4]? = some (.slice (some ⟨kg j, 0, none⟩) (kn j) (kn j)) ∧ xs[j * 4 + 1]? = some (.slice (bf j) (vm j) (vm j)) ∧ Imo w R G lo 0 pos (kg j) (kn j) (bf j) (vm j) (vp j) (L.getD j it0) :=
  ⟨fun j => if hj : j < L.length then (h.el j hj).choose else none, fun j hj => by
   have := (h.el j hj).choose_spec
   simp only [dif_pos hj]
   exact ⟨this.1, this.2.1, this.2.2.2.2⟩⟩
 refine ⟨kvs (fun j => ⟨.slice (some ⟨kg j, 0, none⟩) (kn j) (kn j), kg j, 0, kn j, kn j, kn j, kn j⟩) (fun j => ⟨.slice (bf j) (vm j) (vm j), if 0 < vm j then G else kg j, if 0 < vm j then vp j else 0, vm j, vm j, vm j, vm j⟩) n, kvs_len _ _ _, fun i hi => ?_, fun s hs => ?_, kvs_apart (fun i j hij hj => apart_blocks (fun _ _ => ?_)) (fun i j hij hj => apart_blocks (fun _ h2 => ?_)) (fun i j hij hj => apart_blocks (fun h1 _ => ?_)) (fun i j hij hj => ?_)⟩
 ·obtain ⟨b1, b2, _⟩ := hbf i (by omega)
  have hl := ho.1
  have hx := h.len
  obtain ⟨A, c, e, _, _⟩ := own_slice ho (by omega)
  simp only [Value.slice.injEq] at e
  obtain ⟨rfl, _, _⟩ := e
  exact ⟨A, 0, _, _, rfl, kvs_key _ _ hi, kvs_val _ _ hi, by rw [Nat.zero_add, ho.cellAt _ (by omega)]; exact b1, by rw [Nat.zero_add, ho.cellAt _ (by omega)]; exact b2⟩
 ·obtain ⟨i, hi, rfl | rfl⟩ := kvs_mem hs
  ·obtain ⟨_, _, b3⟩ := hbf i (by omega)
   have hk := b3.kc
   have hkn := b3.kn
   exact ⟨⟨Nat.le_refl _, by simp, by simp, by simp; omega, by simp; omega, _, rfl, fun _ => rfl⟩, fun j hj => ⟨⟨_, by rw [Nat.zero_add]; exact b3.key.cell j (by have : j < kn i := hj; omega)⟩, u8_frozen b3.key.u8 _⟩, by simp; omega, blk_u8 b3.key.u8, b3.kb.2.2⟩
  ·obtain ⟨_, _, b3⟩ := hbf i (by omega)
   have hv := b3.vc
   have hvl := b3.val.len
   refine ⟨⟨Nat.le_refl _, by simp, by simp, by simp; omega, by simp; omega, _, rfl, fun h0 => ?_⟩, fun j hj => ?_, by simp; omega, ?_, ?_⟩
   ·have h0' : 0 < vm i := h0
    simp only [if_pos h0']
    exact b3.vb h0'
   ·have hj' : j < vm i := hj
    have h0 : 0 < vm i := by omega
    simp only [if_pos h0]
    have hb := b3.vb h0
    have hc := b3.val.cells ⟨G, vp i, none⟩ hb j (.int .u8 ((L.getD i it0).val.getD j 0)) (map_get (by omega))
    rw [Addr.add_lit] at hc
    exact ⟨⟨_, hc⟩, u8_frozen b3.gu.1 _⟩
   ·by_cases h0 : 0 < vm i
    ·simp only [if_pos h0]; exact blk_u8 b3.gu.1
    ·simp only [if_neg h0]; exact blk_u8 b3.key.u8
   ·by_cases h0 : 0 < vm i
    ·simp only [if_pos h0]; exact hG
    ·simp only [if_neg h0]; exact b3.kb.2.2
 ·have := h.kd i j hij (by omega)
  simp only
  omega
 ·have h2' : 0 < vm j := h2
  simp only [if_pos h2']
  obtain ⟨_, _, b3⟩ := hbf i (by omega)
  exact b3.kb.2.1
 ·have h1' : 0 < vm i := h1
  simp only [if_pos h1']
  obtain ⟨_, _, b3⟩ := hbf j (by omega)
  exact fun e => b3.kb.2.1 e.symm
 ·intro x y hx hy e
  have hx' : x < vm i := hx
  have hy' : y < vm j := hy
  simp only [if_pos (show 0 < vm i by omega), if_pos (show 0 < vm j by omega)] at e
  injection e with e1 e2
  have := h.vd i j hij (by omega)
  omega
theorem Ivo.ti {w : World} {B : Nat} {cs : Nat → Value} {R G lo pos base cap : Nat} {a : Option Addr} {n : Nat} {xs : List Value} {L : List It} {kg kn vp vm : Nat → Nat} (h : Ivo w R G lo pos xs L kg kn vp vm) (ho : w.ownsRow base 52 4 (.slice a n cap) n xs) (hn : L.length = n) (hG : lo ≤ G) (hb : lo ≤ base) (hf : ∀ d, lo ≤ d → Fre B cs d) : Ti w B cs a L := by
 refine ⟨fun j hj => ?_⟩
 obtain ⟨bo, h1, h2, h3, h4, h5⟩ := h.el j hj
 have hl := ho.1
 have hx := h.len
 have hk := h5.kc
 have hv := h5.vc
 have hbi := fun i e => (ho.lt i e).1
 have hbk := blk_own ho
 obtain ⟨A, c, e, _, _⟩ := own_slice ho (by omega)
 rw [e] at hbi hbk
 simp only [Value.slice.injEq] at e
 obtain ⟨rfl, _, _⟩ := e
 refine ⟨A, 0, _, _, _, _, _, _, rfl, by rw [Nat.zero_add, ho.cellAt _ (by omega)]; exact h1, by rw [Nat.zero_add, ho.cellAt _ (by omega)]; exact h2, by rw [Nat.zero_add, ho.cellAt _ (by omega)]; exact h3, by rw [Nat.zero_add, ho.cellAt _ (by omega)]; exact h4, ⟨h5.key.all _ _ h5.kn.symm, fun ad e _ => by obtain rfl := Option.some.inj e; exact ⟨hf _ h5.kb.2.2, blk_u8 h5.key.u8⟩⟩, Nat.le_refl _, by omega, ⟨h5.val, fun ad e h0 => by have := h5.vb h0; rw [e] at this; obtain rfl := Option.some.inj this; exact ⟨hf _ hG, blk_u8 h5.gu.1⟩⟩, Nat.le_refl _, by omega, hf A (by have := hbi A rfl; omega), hbk A rfl⟩
theorem Lq.kdl {w : World} {H A c : Nat} {gk gv : Nat → Nat × Nat} {xs : List Value} {L : List It} (h : Lq w H A c gk gv xs L) (hs : ∀ x ∈ L, x.key.length ≤ 100000 ∧ x.val.length ≤ 100000) : ∃ D, Kdl w (some ⟨A, 0, none⟩) L.length D H := by
 refine ⟨kvs (fun j => ⟨.slice (some ⟨(gk j).1, 0, none⟩) (L.getD j it0).key.length (gk j).2, (gk j).1, 0, (L.getD j it0).key.length, (gk j).2, (L.getD j it0).key.length, (gk j).2⟩) (fun j => ⟨.slice (some ⟨(gv j).1, 0, none⟩) (L.getD j it0).val.length (gv j).2, (gv j).1, 0, (L.getD j it0).val.length, (gv j).2, (L.getD j it0).val.length, (gv j).2⟩) L.length, kvs_len _ _ _, fun i hi => ?_, fun s hs' => ?_, kvs_apart (fun i j hij hj => apart_blocks (fun _ _ => ?_)) (fun i j hij hj => apart_blocks (fun _ _ => ?_)) (fun i j hij hj => apart_blocks (fun _ _ => ?_)) (fun i j hij hj => apart_blocks (fun _ _ => ?_))⟩
 ·obtain ⟨a1, a2, _, _⟩ := h.lm.cells (ys := []) (by rw [List.append_nil]; exact h.own) i hi
  exact ⟨A, 0, _, _, rfl, kvs_key _ _ hi, kvs_val _ _ hi, by rw [Nat.zero_add]; exact a1, by rw [Nat.zero_add]; exact a2⟩
 ·have ow : ∀ {g cp : Nat} {zs : List Int}, Ow w g cp zs → ∀ j, j < cp → (∃ u, w.cell? ⟨g, 0 + j, none⟩ = some u) ∧ w.frozen? ⟨g, 0 + j, none⟩ = false := by
   intro g cp zs ho j hj
   obtain ⟨cur, h1, h2, _⟩ := ho.ex
   rw [Nat.zero_add]
   exact ⟨⟨cur[j]'(by omega), by rw [cell_of_row w g j _ _ _ h1]; simp⟩, frozen_of_row w g j _ _ h1⟩
  obtain ⟨i, hi, rfl | rfl⟩ := kvs_mem hs'
  ·obtain ⟨k1, _⟩ := h.lm.ko i hi
   have e1 := k1.le
   have e2 := k1.max
   have e3 := (hs _ (getD_mem hi)).1
   rw [List.append_nil] at e1
   exact ⟨⟨e1, by simp, by simp, (by show (L.getD i it0).key.length ≤ 1099511627776; omega), e2, _, rfl, fun _ => rfl⟩, fun j hj => ow k1 j hj, (by show (L.getD i it0).key.length ≤ 1099511620000; omega), blk_u8 k1.u8, (h.lm.lo i hi).1⟩
  ·obtain ⟨_, k1⟩ := h.lm.ko i hi
   have e1 := k1.le
   have e2 := k1.max
   have e3 := (hs _ (getD_mem hi)).2
   rw [List.append_nil] at e1
   exact ⟨⟨e1, by simp, by simp, (by show (L.getD i it0).val.length ≤ 1099511627776; omega), e2, _, rfl, fun _ => rfl⟩, fun j hj => ow k1 j hj, (by show (L.getD i it0).val.length ≤ 1099511620000; omega), blk_u8 k1.u8, (h.lm.lo i hi).2.1⟩
 ·exact fun e => by have := (h.lm.up i j hij hj).1; have e' : (gk i).1 = (gk j).1 := e; omega
 ·by_cases e : i = j
  ·subst e; exact (h.lm.lo i hj).2.2
  ·exact fun e2 => by have := (h.lm.up i j (by omega) hj).2.1; have e' : (gk i).1 = (gv j).1 := e2; omega
 ·exact fun e => by have := (h.lm.up i j hij hj).2.2.1; have e' : (gv i).1 = (gk j).1 := e; omega
 ·exact fun e => by have := (h.lm.up i j hij hj).2.2.2; have e' : (gv i).1 = (gv j).1 := e; omega
structure Kst (w : World) (B base N0 : Nat) (cs : Nat → Value) (L1 : List Lst) (ys1 : List Value) (L2 : List Lst) (ys2 : List Value) : Prop where
 t : Kpt w B base N0 cs
 b : Kpn kdB w B base N0 cs L1 ys1 SameB
 i : Kpn kdT w B base N0 cs L2 ys2 SameT
theorem Kst.keptN {w w' : World} {B base N0 : Nat} {cs : Nat → Value} {L1 L2 : List Lst} {ys1 ys2 : List Value} (h : Kst w B base N0 cs L1 ys1 L2 ys2) (hg : w.grownBy w' none) : Kst w' B base N0 cs L1 ys1 L2 ys2 :=
 ⟨h.t.keptN hg, h.b.keptN hg (SameB.kfr (Kfr.of hg)), h.i.keptN hg (SameT.kfr (Kfr.of hg))⟩
theorem Kst.new {w : World} {B base N0 : Nat} {cs : Nat → Value} {L1 L2 : List Lst} {ys1 ys2 : List Value} (h : Kst w B base N0 cs L1 ys1 L2 ys2) {d : Nat} (hd : w.heap.size ≤ d) : Fre B cs d :=
 ⟨by have := h.t.box.lt; omega, fun q hq e => by have := (h.t.bk q hq d e).2; omega⟩
theorem Kst.lt1 {w : World} {B base N0 : Nat} {cs : Nat → Value} {L1 L2 : List Lst} {ys1 ys2 : List Value} (h : Kst w B base N0 cs L1 ys1 L2 ys2) {s : Lst} (hs : s ∈ L1) : s.g < w.heap.size := (h.b.ok s hs).2.2.2.1.lt
theorem Kst.lt2 {w : World} {B base N0 : Nat} {cs : Nat → Value} {L1 L2 : List Lst} {ys1 ys2 : List Value} (h : Kst w B base N0 cs L1 ys1 L2 ys2) {s : Lst} (hs : s ∈ L2) : s.g < w.heap.size := (h.i.ok s hs).2.2.2.1.lt
theorem Kpn.row {K : Kdk} {w w' : World} {B base N0 : Nat} {cs : Nat → Value} {L : List Lst} {ys : List Value} {Same : World → Nat → (Nat → Value) → Lst → Value → Prop} {row : Option Nat} (h : Kpn K w B base N0 cs L ys Same) (hg : w.grownBy w' row) (hr : ∀ i, row = some i → Fre B cs i ∧ Blk w 42 i) (hq : K.q + 1 < 41) (het : K.et ≠ 42) (hs : ∀ s y, Same w B cs s y → Same w' B cs s y) : Kpn K w' B base N0 cs L ys Same := by
 have own : ∀ p, p < 41 → (cs p).ownBlock = none ∨ (cs p).ownBlock ≠ row := fun p hp => by
  cases hv : (cs p).ownBlock with
  | none => exact Or.inl rfl
  | some i => exact Or.inr (fun e => (hr i e.symm).1.2 p hp hv)
 refine ⟨h.ob.kept hg (own _ (by omega)), h.ow.kept hg (own _ hq), h.two, fun s hs' => ?_, h.ap, fun j s y h1 h2 => hs s y (h.same j s y h1 h2)⟩
 obtain ⟨a1, a2, a3, a4, a5, a6⟩ := h.ok s hs'
 have hne := a4.off (fun i e => (hr i e).2) het
 exact ⟨a1, a2.kept hg hne, a3, a4.row hg hne, a5, a6⟩
theorem Kst.row {w w' : World} {B base N0 : Nat} {cs : Nat → Value} {L1 L2 : List Lst} {ys1 ys2 : List Value} {row : Option Nat} (h : Kst w B base N0 cs L1 ys1 L2 ys2) (hg : w.grownBy w' row) (hr : ∀ i, row = some i → Fre B cs i ∧ Blk w 42 i) : Kst w' B base N0 cs L1 ys1 L2 ys2 := by
 have hr2 : ∀ i, row = some i → Blk w 42 i := fun i e => (hr i e).2
 have hsz := hg.size
 refine ⟨⟨h.t.box.kept hg (fun e => (hr B e.symm).1.1 rfl), h.t.c0, h.t.c1, h.t.no, ⟨h.t.bB.1, by have := h.t.bB.2.1; omega, h.t.bB.2.2⟩, h.t.un, fun q hq i hi => ⟨(h.t.bk q hq i hi).1, by have := (h.t.bk q hq i hi).2; omega⟩⟩, h.b.row hg hr (by decide) (by decide) ?_, h.i.row hg hr (by decide) (by decide) ?_⟩
 ·rintro s y ⟨ao, bo, cb, zs, h1, h2, h3, h4⟩
  exact ⟨ao, bo, cb, zs, h1, h2, h3.row hg hr2, h4.row hg hr2⟩
 ·rintro s y ⟨ao, bo, cb, Z, h1, h2, h3, h4, h5⟩
  exact ⟨ao, bo, cb, Z, h1, h2, h3.row' hg hr2, h4.row' hg hr2, h5⟩
theorem kst_bytes {w : World} {B base N0 : Nat} {cs : Nat → Value} {L1 L2 : List Lst} {ys1 ys2 : List Value} (h : Kst w B base N0 cs L1 ys1 L2 ys2) (s : Lst) (zs : List Int) (hs : s.Ok 1) (ht : s.There w) (hn : s.n ≤ 1099511620000) (hty : Blk w 5 s.g) (hf : Fre B cs s.g) (hN : N0 ≤ s.g) (hv : s.v = .slice (some ⟨s.g, s.o, none⟩) s.n s.c) (hap : ∀ t ∈ L1, t.Apart s) (hby : Byt w (some ⟨s.g, s.o, none⟩) s.n s.c zs) (hm : L1.length ≤ 1000000) :
  Calls Tryz.prog 8 #[.pointer (some ⟨B, 0, none⟩), .slice (some ⟨s.g, s.o, none⟩) s.n s.c] w fun en w' => en = .returned (.tuple #[]) ∧ ∃ cs' ys1', Kst w' B base N0 cs' (L1 ++ [s]) ys1' L2 ys2 ∧ Kfr w w' B cs cs' := by
 refine (kpt_bytes h.t h.b _ s.n s.c zs ⟨hby, fun ad e _ => by obtain rfl := Option.some.inj e; exact ⟨hf, hty⟩⟩ hn hm).mono ?_
 rintro en w' ⟨rfl, cs', y, g, k1, k2, k3, _, _, _, k4⟩
 exact ⟨rfl, cs', _, ⟨k1, k4 s hv rfl rfl hs (k2.there ht hf) (hty.kfr k2 hf) (k2.block s.g hty.lt hf).2 hN hap, h.i.kfr k2 (k3 20 (by omega) (by omega) (by omega)).1 (k3 21 (by omega) (by omega) (by omega)).1 (fun i hi => by rcases hi with hi | hi; exact (k3 20 (by omega) (by omega) (by omega)).2 i hi; exact (k3 21 (by omega) (by omega) (by omega)).2 i hi) (SameT.kfr k2)⟩, k2⟩
theorem kst_nil {w : World} {B base N0 : Nat} {cs : Nat → Value} {L1 L2 : List Lst} {ys1 ys2 : List Value} (h : Kst w B base N0 cs L1 ys1 L2 ys2) (hm : L1.length ≤ 1000000) :
  Calls Tryz.prog 8 #[.pointer (some ⟨B, 0, none⟩), .slice none 0 0] w fun en w' => en = .returned (.tuple #[]) ∧ ∃ cs' ys1' s, Kst w' B base N0 cs' (L1 ++ [s]) ys1' L2 ys2 ∧ Kfr w w' B cs cs' ∧ w.heap.size ≤ s.g := by
 refine (kpt_bytes h.t h.b none 0 0 [] ⟨Byt.empty _, fun ad e _ => by cases e⟩ (by omega) hm).mono ?_
 rintro en w' ⟨rfl, cs', y, g, k1, k2, k3, hg, hb, hf, k4⟩
 have hN := h.t.bB
 exact ⟨rfl, cs', _, ⟨.slice none 0 0, g, 0, 0, 0, 0, 0⟩, ⟨k1, k4 ⟨.slice none 0 0, g, 0, 0, 0, 0, 0⟩ rfl rfl rfl ⟨Nat.le_refl _, rfl, rfl, by simp, by simp, none, rfl, fun h => by simp at h⟩ (fun j hj => by simp at hj) hb hf (show N0 ≤ g by omega) (fun t _ => apart_blocks (fun _ h2 => by simp at h2)), h.i.kfr k2 (k3 20 (by omega) (by omega) (by omega)).1 (k3 21 (by omega) (by omega) (by omega)).1 (fun i hi => by rcases hi with hi | hi; exact (k3 20 (by omega) (by omega) (by omega)).2 i hi; exact (k3 21 (by omega) (by omega) (by omega)).2 i hi) (SameT.kfr k2)⟩, k2, hg⟩
theorem kst_items {w : World} {B base N0 : Nat} {cs : Nat → Value} {L1 L2 : List Lst} {ys1 ys2 : List Value} (h : Kst w B base N0 cs L1 ys1 L2 ys2) (a : Option Addr) (n cap b2 lo : Nat) (xs : List Value) (Z : List It) (D : List Lst) (ho : w.ownsRow b2 52 4 (.slice a n cap) n xs) (hti : Ti w B cs a Z) (hib : Ib Z) (hzn : Z.length = n) (hn : n ≤ 5000) (hzs : ∀ x ∈ Z, x.key.length ≤ 100000 ∧ x.val.length ≤ 100000)
  (hD : Kdl w a n D lo) (hlo : N0 ≤ lo) (hb2 : N0 ≤ b2) (hDf : ∀ s ∈ D, Fre B cs s.g) (hvf : ∀ i, (Value.slice a n cap).ownBlock = some i → Fre B cs i) (hDa : ∀ t ∈ L1, ∀ s ∈ D, t.Apart s) (hva : ∀ t ∈ L2, ∀ i, (Value.slice a n cap).ownBlock = some i → t.g ≠ i) (hm : L1.length + 2 * n ≤ 1000000) (hm2 : L2.length ≤ 1000000) :
  Calls Tryz.prog 11 #[.pointer (some ⟨B, 0, none⟩), .slice a n cap] w fun en w' => en = .returned (.tuple #[]) ∧ ∃ cs' ys1' ys2' s, Kst w' B base N0 cs' (L1 ++ D) ys1' (L2 ++ [s]) ys2' ∧ Kfr w w' B cs cs' ∧ ((Value.slice a n cap).ownBlock = some s.g ∨ w.heap.size ≤ s.g) := by
 refine (kpt_items h.t h.b h.i a n cap Z D hti hib hzn hn hzs hD.len hD.at' (fun s hs => ?_) hD.ap hDa hm hm2).mono ?_
 ·obtain ⟨a1, a2, a3, a4, a5⟩ := hD.ok s hs
  exact ⟨a1, a2, a3, a4, hDf s hs, by omega⟩
 ·rintro en w' ⟨rfl, cs', ys1', y, A, k1, k2, k3, hA, hbA, hfA, k4⟩
  have hN := h.t.bB
  rcases ho.2 with ⟨e, hn0⟩ | ⟨g, cap', cur, e, hg1, hg2, hc1, hc2, _⟩
  ·injection e with e1 e2 e3
   subst e1 e2 e3
   refine ⟨rfl, cs', ys1', _, ⟨.slice none 0 0, A, 0, 0, 0, 0, 0⟩, ⟨k1, k2, k4 ⟨.slice none 0 0, A, 0, 0, 0, 0, 0⟩ rfl rfl rfl ⟨Nat.le_refl _, rfl, rfl, by simp, by simp, none, rfl, fun h => by simp at h⟩ (fun j hj => by simp at hj) (by simp) hbA hfA (show N0 ≤ A by omega) (fun t _ => apart_blocks (fun _ h2 => by simp at h2))⟩, k3, Or.inr hA⟩
  ·have he := e
   injection e with e1 e2 e3
   subst e1 e3
   have hf : Fre B cs g := hvf g rfl
   have hbg : Blk w 52 g := ⟨cur, _, hg2⟩
   obtain ⟨l1, l2⟩ := kowns_le ho
   have ht : (⟨.slice (some ⟨g, 0, none⟩) n cap, g, 0, n, cap, n * 4, cap * 4⟩ : Lst).There w := fun j hj => ⟨by obtain ⟨u, hu⟩ := kowns_there ho j hj; exact ⟨u, by rw [Nat.zero_add]; exact hu⟩, by rw [Nat.zero_add]; exact ho.frozenAt j⟩
   refine ⟨rfl, cs', ys1', _, ⟨.slice (some ⟨g, 0, none⟩) n cap, g, 0, n, cap, n * 4, cap * 4⟩, ⟨k1, k2, k4 ⟨.slice (some ⟨g, 0, none⟩) n cap, g, 0, n, cap, n * 4, cap * 4⟩ rfl rfl rfl ⟨l1, rfl, rfl, by show n ≤ _; omega, l2, _, rfl, fun _ => rfl⟩ (k3.there ht hf) (by show n ≤ _; omega) (hbg.kfr k3 hf) (k3.block g hbg.lt hf).2 (show N0 ≤ g by omega) (fun t ht' => apart_blocks (fun _ _ => hva t ht' g rfl))⟩, k3, Or.inl rfl⟩
theorem row_known {w : World} {base n : Nat} {v : Value} {xs : List Value} {t : TypeId} (h : w.ownsRow base t 1 v n xs) (h0 : 0 < n) : ∃ r c, Kro w v r c xs ∧ v.ownBlock = some r := by
 obtain ⟨r, c, hk⟩ := kro_of_owns h
 obtain ⟨rg, cg, hv, _, _⟩ := h.form h0
 subst hv
 obtain ⟨ao, e1, e2⟩ := hk.val
 have hl : xs.length = n := by have := h.1; simpa using this
 have := e2 (by omega)
 subst this
 injection e1 with e3
 injection e3 with e3
 injection e3 with e4
 subst e4
 exact ⟨rg, c, hk, rfl⟩
theorem kst_finish {w w0 : World} {B base N0 : Nat} {cs : Nat → Value} {L1 L2 : List Lst} {ys1 ys2 : List Value} (h : Kst w B base N0 cs L1 ys1 L2 ys2) (h1 : 0 < L1.length) (h2 : 0 < L2.length) (m1 : L1.length ≤ 1000000) (m2 : L2.length ≤ 1000000) (hg : w0.grownBy w none) (hN : w0.heap.size ≤ N0) :
  Calls Tryz.prog 12 #[.pointer (some ⟨B, 0, none⟩)] w fun en w' => en = .returned (.bool true) ∧ w0.grownBy w' none := by
 obtain ⟨r1, c1, k1, e1⟩ := row_known h.b.ob h1
 obtain ⟨r2, c2, k2, e2⟩ := row_known h.i.ob h2
 obtain ⟨s1, d1, k3⟩ := kro_of_owns h.b.ow
 obtain ⟨s2, d2, k4⟩ := kro_of_owns h.i.ow
 have hbx := h.t.box
 have hsz := hg.size
 have q1 := h.t.bk 2 (by omega) r1 e1
 have q2 := h.t.bk 20 (by omega) r2 e2
 have hB := h.t.bB
 have hno : ∀ q ∈ kqs ++ kgs, q < 41 := by decide
 have hz : Bz w B kqs kgs := ⟨by rw [← h.t.c0]; exact hbx.cell 0 (by omega), hbx.fz 1 (by omega), fun q hq => by rw [← h.t.no q (List.mem_append.2 (Or.inl hq))]; exact hbx.cell q (hno q (List.mem_append.2 (Or.inl hq))), fun q hq => ⟨by rw [← h.t.no q (List.mem_append.2 (Or.inr hq))]; exact hbx.cell q (hno q (List.mem_append.2 (Or.inr hq))), hbx.fz q (hno q (List.mem_append.2 (Or.inr hq)))⟩⟩
 have pass : w.cell? ⟨B, 1, none⟩ = some (.int .i64 0) := by rw [← h.t.c1]; exact hbx.cell 1 (by omega)
 have kc1 : Kc kdB w B 0 (cs 2) r1 c1 L1 := ⟨pass, hbx.cell 2 (by omega), k1, fun s hs => by
  obtain ⟨a1, a2, _, _, a5, _⟩ := h.b.ok s hs
  exact ⟨a1, a2, a5.1, fun e => a5.2 2 (by omega) (by rw [e]; exact e1)⟩, h.b.ap, m1⟩
 have kc2 : Kc kdT w B 0 (cs 20) r2 c2 L2 := ⟨pass, hbx.cell 20 (by omega), k2, fun s hs => by
  obtain ⟨a1, a2, _, _, a5, _⟩ := h.i.ok s hs
  exact ⟨a1, a2, a5.1, fun e => a5.2 20 (by omega) (by rw [e]; exact e2)⟩, h.i.ap, m2⟩
 have l1 : L1.length = ys1.length := by have := h.b.ow.1; simpa using this.symm
 have l2 : L2.length = ys2.length := by have := h.i.ow.1; simpa using this.symm
 refine finish_all B (cs 2) (cs 3) (cs 20) (cs 21) r1 c1 s1 d1 r2 c2 s2 d2 L1 L2 ys1 ys2 w hz kc1 (hbx.cell 3 (by omega)) k3 l1 (fun k x y hx hy => ?_) kc2 (hbx.cell 21 (by omega)) k4 l2 (fun k x y hx hy => ?_) (fun s hs => h.lt1 hs) (fun s hs => h.lt2 hs) q1.2 q2.2 (by omega) (by omega) (fun s hs => ?_) (fun s hs => ?_) (fun s hs => (h.b.ok s hs).2.2.1) (fun s hs => (h.i.ok s hs).2.2.1) (fun v => w0.grownBy v none) hg (fun v v' row hv hg' hr => ?_) (fun v i u hv => grown_new hv (kset_grown v B i u) (by omega)) (fun v s j u hs _ hv => grown_new hv (kset_grown v s.g (s.o + j) u) (by have := (h.b.ok s hs).2.2.2.2.2; omega)) (fun v s j u hs _ hv => grown_new hv (kset_grown v s.g (s.o + j) u) (by have := (h.i.ok s hs).2.2.2.2.2; omega))
 ·rw [List.getElem?_map] at hx
  cases hs : L1[k]? with
  | none => rw [hs] at hx; simp at hx
  | some s =>
   rw [hs] at hx
   obtain ⟨ao, bo, cb, zs, f1, f2, f3, f4⟩ := h.b.same k s y hs hy
   simp at hx
   exact ⟨ao, s.n, s.c, bo, cb, zs, by rw [← hx, f1], f2, f3.by', f4.by'⟩
 ·rw [List.getElem?_map] at hx
  cases hs : L2[k]? with
  | none => rw [hs] at hx; simp at hx
  | some s =>
   rw [hs] at hx
   obtain ⟨ao, bo, cb, Z, f1, f2, f3, f4, f5, f6⟩ := h.i.same k s y hs hy
   simp at hx
   have hsm := (h.i.ok s (List.mem_of_getElem? hs)).2.2.1
   exact ⟨ao, s.n, s.c, bo, cb, Z, by rw [← hx, f1], f2, f3.il, f4.il, f5, f6, by omega⟩
 ·obtain ⟨_, _, _, a4, a5, _⟩ := h.b.ok s hs
  exact ⟨fun e => a5.2 20 (by omega) (by rw [e]; exact e2), fun t ht => (h.i.ok t ht).2.2.2.1.ne a4 (by decide)⟩
 ·obtain ⟨_, _, _, a4, a5, _⟩ := h.i.ok s hs
  exact ⟨fun e => a5.2 2 (by omega) (by rw [e]; exact e1), fun t ht => (h.b.ok t ht).2.2.2.1.ne a4 (by decide)⟩
 ·cases row with
  | none => exact grown_trans hv hg'
  | some i => exact grown_new hv hg' (by have := hr i rfl; omega)
def kbookZ : Array Value := #[.int .i64 0, .int .i64 0, .slice none 0 0, .slice none 0 0, .slice none 0 0, .slice none 0 0, .slice none 0 0, .slice none 0 0, .slice none 0 0, .slice none 0 0, .slice none 0 0, .slice none 0 0, .slice none 0 0, .slice none 0 0, .slice none 0 0, .slice none 0 0, .slice none 0 0, .slice none 0 0, .slice none 0 0, .slice none 0 0, .slice none 0 0, .slice none 0 0, .slice none 0 0, .slice none 0 0, .slice none 0 0, .slice none 0 0, .slice none 0 0, .slice none 0 0, .slice none 0 0, .slice none 0 0, .slice none 0 0, .slice none 0 0, .slice none 0 0, .slice none 0 0, .slice none 0 0, .slice none 0 0, .slice none 0 0, .slice none 0 0, .slice none 0 0, .slice none 0 0, .slice none 0 0]
theorem kbuild_book (w : World) : (Instr.build 40 #[]).run Tryz.prog w = .ok (.agg kbookZ) w := run_build w 40 _ _ (by kernel_rfl)
theorem wpList_build_kbook {w : World} {ops : Array Oper} {rest : List Oper} {o : Oper} {a : Act} {Q : Exit → Act → World → Prop} (hgd : o.guard = none) (ho : o.op = .build 40 #[])
  (h : wpList Tryz.prog ops Q rest (a.put o.dst (.agg kbookZ)) w) : wpList Tryz.prog ops Q (o :: rest) a w := by
 refine wpList_plain hgd fun K hK => ?_
 have hrun := kbuild_book w
 unfold Oper.wp
 simp only [execOp, ho, List.map_toArray, List.map_nil, Sem.run_bind, hrun, Sem.run_pure, Result.andThen_ok]
 exact hK _ _ h
def kcs0 (i : Nat) : Value := if i < 2 then .int .i64 0 else .slice none 0 0
theorem kcs0_none (q : Nat) : (kcs0 q).ownBlock = none := by unfold kcs0; split <;> rfl
theorem kst_start (w : World) (N0 : Nat) (hN : N0 ≤ w.heap.size) : Kst (w.alloc (.cells kbookZ 40 (0, 0))) w.heap.size (w.heap.size + 1) N0 kcs0 [] [] [] [] := by
 have hc : ∀ i, (w.alloc (.cells kbookZ 40 (0, 0))).cell? ⟨w.heap.size, i, none⟩ = kbookZ[i]? := fun i => cell_of_row _ w.heap.size i _ _ (0, 0) (heap_alloc_new w _)
 have hb : ∀ i, i < 41 → kbookZ[i]? = some (kcs0 i) := by
  intro i hi
  match i, hi with
  | 0, _ => rfl
  | 1, _ => rfl
  | 2, _ => rfl
  | 3, _ => rfl
  | 4, _ => rfl
  | 5, _ => rfl
  | 6, _ => rfl
  | 7, _ => rfl
  | 8, _ => rfl
  | 9, _ => rfl
  | 10, _ => rfl
  | 11, _ => rfl
  | 12, _ => rfl
  | 13, _ => rfl
  | 14, _ => rfl
  | 15, _ => rfl
  | 16, _ => rfl
  | 17, _ => rfl
  | 18, _ => rfl
  | 19, _ => rfl
  | 20, _ => rfl
  | 21, _ => rfl
  | 22, _ => rfl
  | 23, _ => rfl
  | 24, _ => rfl
  | 25, _ => rfl
  | 26, _ => rfl
  | 27, _ => rfl
  | 28, _ => rfl
  | 29, _ => rfl
  | 30, _ => rfl
  | 31, _ => rfl
  | 32, _ => rfl
  | 33, _ => rfl
  | 34, _ => rfl
  | 35, _ => rfl
  | 36, _ => rfl
  | 37, _ => rfl
  | 38, _ => rfl
  | 39, _ => rfl
  | 40, _ => rfl
  | n + 41, h => omega
 have nn : ∀ q i, (kcs0 q).ownBlock ≠ some i := fun q i e => by rw [kcs0_none] at e; cases e
 have h2 : ∀ q ∈ kqs ++ kgs, 2 ≤ q := by decide
 refine ⟨⟨⟨fun i hi => by rw [hc]; exact hb i hi, fun i _ => frozen_of_row _ w.heap.size i _ _ (heap_alloc_new w _)⟩, rfl, rfl, fun q hq => ?_, ⟨by omega, by simp, hN⟩, fun q p _ _ _ i h => absurd h (nn q i), fun q _ i h => absurd h (nn q i)⟩, ⟨⟨rfl, Or.inl ⟨rfl, rfl⟩⟩, ⟨rfl, Or.inl ⟨rfl, rfl⟩⟩, fun i h => absurd h (nn _ i), fun s hs => absurd hs (by simp), List.Pairwise.nil, fun k s y h => absurd h (by simp)⟩, ⟨⟨rfl, Or.inl ⟨rfl, rfl⟩⟩, ⟨rfl, Or.inl ⟨rfl, rfl⟩⟩, fun i h => absurd h (nn _ i), fun s hs => absurd hs (by simp), List.Pairwise.nil, fun k s y h => absurd h (by simp)⟩⟩
 have := h2 q hq
 unfold kcs0
 rw [if_neg (by omega)]
theorem Kfr.grown {w0 w w' : World} {B base N0 : Nat} {cs cs' : Nat → Value} (h : Kfr w w' B cs cs') (hT : Kpt w B base N0 cs) (hg : w0.grownBy w none) (hN : w0.heap.size ≤ N0) : w0.grownBy w' none := by
 have hB := hT.bB
 refine ⟨h.os.trans hg.os, h.tape.trans hg.tape, h.output.trans hg.output, Nat.le_trans hg.size h.size, fun d hd _ => ?_⟩
 exact (h.block d (Nat.lt_of_lt_of_le hd hg.size) ⟨by omega, fun q hq e => by have := (hT.bk q hq d e).1; omega⟩).1.trans (hg.block d hd (by simp))
structure Hl (w : World) (B : Nat) (cs : Nat → Value) (a : Option Addr) (n cap b2 lo : Nat) (xs : List Value) (Z : List It) (D : List Lst) : Prop where
 own : w.ownsRow b2 52 4 (.slice a n cap) n xs
 ti : Ti w B cs a Z
 kd : Kdl w a n D lo
 fd : ∀ s ∈ D, Fre B cs s.g
 fv : ∀ i, (Value.slice a n cap).ownBlock = some i → Fre B cs i
theorem Hl.kfr {w w' : World} {B : Nat} {cs cs' : Nat → Value} {a : Option Addr} {n cap b2 lo : Nat} {xs : List Value} {Z : List It} {D : List Lst} (h : Hl w B cs a n cap b2 lo xs Z D) (k : Kfr w w' B cs cs') : Hl w' B cs' a n cap b2 lo xs Z D := by
 have own : w'.ownsRow b2 52 4 (.slice a n cap) n xs := by
  refine ⟨h.own.1, ?_⟩
  rcases h.own.2 with h1 | ⟨g, cap', cur, e, h2, h3, h4⟩
  ·exact Or.inl h1
  ·exact Or.inr ⟨g, cap', cur, e, h2, (k.block g (h.own.lt g (by rw [e]; rfl)).2 (h.fv g (by rw [e]; rfl))).1.trans h3, h4⟩
 refine ⟨own, h.ti.kfr k, ⟨h.kd.len, fun i hi => ?_, fun s hs => ?_, h.kd.ap⟩, fun s hs => ?_, fun i hi => (k.block i (h.own.lt i hi).2 (h.fv i hi)).2⟩
 ·obtain ⟨b, off, kk, v, e1, e2, e3, e4, e5⟩ := h.kd.at' i hi
  have fb : Fre B cs b := by
   obtain ⟨A, c, e, _, _⟩ := own_slice h.own (by omega)
   have e' := e
   simp only [Value.slice.injEq] at e
   rw [e.1] at e1
   have hA := h.fv A (by rw [e']; rfl)
   have : A = b := by injection e1 with e1; injection e1
   rw [← this]; exact hA
  exact ⟨b, off, kk, v, e1, e2, e3, k.cell e4 fb, k.cell e5 fb⟩
 ·obtain ⟨a1, a2, a3, a4, a5⟩ := h.kd.ok s hs
  exact ⟨a1, k.there a2 (h.fd s hs), a3, a4.kfr k (h.fd s hs), a5⟩
 ·exact (k.block s.g (h.kd.ok s hs).2.2.2.1.lt (h.fd s hs)).2
theorem Hl.row {w w' : World} {B : Nat} {cs : Nat → Value} {a : Option Addr} {n cap b2 lo : Nat} {xs : List Value} {Z : List It} {D : List Lst} {row : Option Nat} (h : Hl w B cs a n cap b2 lo xs Z D) (hg : w.grownBy w' row) (hr : ∀ i, row = some i → Blk w 42 i) : Hl w' B cs a n cap b2 lo xs Z D := by
 have hv : ∀ i, (Value.slice a n cap).ownBlock = some i → some i ≠ row := fun i hi => (blk_own h.own i hi).off hr (by decide)
 refine ⟨h.own.kept hg ?_, h.ti.row' hg hr, ⟨h.kd.len, fun i hi => ?_, fun s hs => ?_, h.kd.ap⟩, h.fd, h.fv⟩
 ·cases e : (Value.slice a n cap).ownBlock with
  | none => exact Or.inl rfl
  | some i => exact Or.inr (hv i e)
 ·obtain ⟨b, off, kk, v, e1, e2, e3, e4, e5⟩ := h.kd.at' i hi
  have nb : some b ≠ row := by
   obtain ⟨A, c, e, _, _⟩ := own_slice h.own (by omega)
   have e' := e
   simp only [Value.slice.injEq] at e
   rw [e.1] at e1
   have hA := hv A (by rw [e']; rfl)
   have : A = b := by injection e1 with e1; injection e1
   rw [← this]; exact hA
  exact ⟨b, off, kk, v, e1, e2, e3, hg.cell e4 nb, hg.cell e5 nb⟩
 ·obtain ⟨a1, a2, a3, a4, a5⟩ := h.kd.ok s hs
  have hne := a4.off hr (by decide)
  exact ⟨a1, a2.kept hg hne, a3, a4.row hg hne, a5⟩
theorem Ivo.small {w : World} {R G lo pos : Nat} {xs : List Value} {L : List It} {kg kn vp vm : Nat → Nat} (h : Ivo w R G lo pos xs L kg kn vp vm) : ∀ x ∈ L, x.key.length ≤ 100000 ∧ x.val.length ≤ 100000 := by
 intro x hx
 obtain ⟨j, hj⟩ := List.mem_iff_getElem?.1 hx
 have hl := (List.getElem?_eq_some_iff.1 hj).1
 obtain ⟨_, _, _, _, _, h5⟩ := h.el j hl
 have e : L.getD j it0 = x := by rw [List.getD, hj]; rfl
 rw [e] at h5
 have h1 := h5.kn
 have h2 := h5.kc
 have h3 := h5.val.len
 have h4 := h5.vc
 omega
theorem decode_hl (ao : Option Addr) (n c : Nat) (zs : List Int) (w : World) {B base N0 : Nat} {cs : Nat → Value} {L1 L2 : List Lst} {ys1 ys2 : List Value} (h : Kst w B base N0 cs L1 ys1 L2 ys2) (hb : Byt w ao n c zs) (hbt : Bt zs) :
  Calls Tryz.prog 10 #[.slice ao n c] w fun en w' => (∃ a m cap e Z b2 xs D, en = .returned (.tuple #[.slice a m cap, .int .i64 e]) ∧ Hl w' B cs a m cap b2 w.heap.size xs Z D ∧ w.heap.size ≤ b2 ∧ Ib Z ∧ Z.length = m ∧ m ≤ 5000 ∧ (∀ x ∈ Z, x.key.length ≤ 100000 ∧ x.val.length ≤ 100000)) ∧ w.grownBy w' none := by
 by_cases e : n = 4092
 ·subst e
  refine (decode_own ao c zs w hb hbt).mono ?_
  rintro en w' ⟨⟨v, m, e, L, b2, xs, R, G, kg, kn, vp, vm, pos, rfl, hl, h5, hib, hb2, hown, hiv, hG⟩, hg⟩
  obtain ⟨a, cap, rfl, _, _, _, _⟩ := hiv.il' hown
  obtain ⟨D, hD⟩ := hiv.kdl hown hl hG
  exact ⟨⟨a, m, cap, e, L, b2, xs, D, rfl, ⟨hown, hiv.ti hown hl hG hb2 (fun d hd => h.new hd), hD, fun s hs => h.new (hD.ok s hs).2.2.2.2, fun i hi => h.new (by have := (hown.lt i hi).1; omega)⟩, hb2, hib, hl, h5, hiv.small⟩, hg⟩
 ·refine (decode_len ao n c w e).mono ?_
  rintro en w' ⟨rfl, rfl⟩
  exact ⟨⟨none, 0, 0, 40, [], w'.heap.size, [], [], rfl, ⟨⟨rfl, Or.inl ⟨rfl, rfl⟩⟩, Ti.zero _ _ _ _, ⟨rfl, fun i hi => by omega, fun s hs => by simp at hs, List.Pairwise.nil⟩, fun s hs => by simp at hs, fun i hi => by cases hi⟩, Nat.le_refl _, fun x hx => by simp at hx, rfl, by omega, fun x hx => by simp at hx⟩, (Qt.refl _).grown none⟩
theorem encode_hl (a : Option Addr) (n cap : Nat) (L : List It) (w : World) (hl : Il w a L) (hb : Ib L) (hn : L.length = n) (hm : n ≤ 5000) :
  Calls Tryz.prog 7 #[.slice a n cap] w fun en w' => (∃ ao m zs e, en = .returned (.tuple #[.slice ao m m, .int .i64 e]) ∧ zs.length = m ∧ m ≤ 4092 ∧ Bt zs ∧ ((ao = none ∧ m = 0) ∨ (∃ G, ao = some ⟨G, 0, none⟩ ∧ Rw w' G zs ∧ w.heap.size ≤ G))) ∧ w.grownBy w' none := by
 have hbt := enc_bt hb
 unfold enc at hbt
 by_cases h : wrong L = 0
 ·by_cases hs : size L ≤ 4092
  ·rw [if_pos h, if_pos hs] at hbt
   refine (encode_ok a n cap L w hl hb hn hm h hs).mono ?_
   rintro en w' ⟨G, rfl, hr, hg, hG⟩
   have hlen : (body L).length = 4092 := body_len h hs
   exact ⟨⟨_, 4092, body L, _, rfl, hlen, Nat.le_refl _, hbt, Or.inr ⟨G, rfl, hr, hG⟩⟩, hg⟩
  ·refine (encode_big a n cap L w hl hb hn hm h (by omega)).mono ?_
   rintro en w' ⟨rfl, hg⟩
   exact ⟨⟨none, 0, [], _, rfl, rfl, by omega, fun z hz => by simp at hz, Or.inl ⟨rfl, rfl⟩⟩, hg⟩
 ·refine (encode_wrong a n cap L w hl hb hn hm h).mono ?_
  rintro en w' ⟨rfl, hg⟩
  exact ⟨⟨none, 0, [], _, rfl, rfl, by omega, fun z hz => by simp at hz, Or.inl ⟨rfl, rfl⟩⟩, hg⟩
theorem kst_body {w0 w : World} {B base N0 : Nat} {cs : Nat → Value} {L1 L2 : List Lst} {ys1 ys2 : List Value} (h0 : Kst w0 B base N0 cs L1 ys1 L2 ys2) (h : Kst w B base N0 cs L1 ys1 L2 ys2) (hw : w0.heap.size ≤ w.heap.size) (hN : N0 ≤ w0.heap.size) (ao : Option Addr) (m : Nat) (zs : List Int) (hl : zs.length = m) (hm : m ≤ 4092) (hv : (ao = none ∧ m = 0) ∨ (∃ G, ao = some ⟨G, 0, none⟩ ∧ Rw w G zs ∧ w0.heap.size ≤ G)) (hk : L1.length ≤ 1000000) :
  Calls Tryz.prog 8 #[.pointer (some ⟨B, 0, none⟩), .slice ao m m] w fun en w' => en = .returned (.tuple #[]) ∧ ∃ cs' ys1' s, Kst w' B base N0 cs' (L1 ++ [s]) ys1' L2 ys2 ∧ Kfr w w' B cs cs' ∧ w0.heap.size ≤ s.g ∧ Tb w' B cs' ao m m zs := by
 rcases hv with ⟨rfl, rfl⟩ | ⟨G, rfl, hr, hG⟩
 ·obtain rfl : zs = [] := List.length_eq_zero_iff.1 hl
  refine (kst_nil h hk).mono ?_
  rintro en w' ⟨rfl, cs', ys1', s, k1, k2, k3⟩
  exact ⟨rfl, cs', ys1', s, k1, k2, by omega, ⟨Byt.empty _, fun ad e _ => by cases e⟩⟩
 ·have hf := h0.new hG
  have hu : U8 w G := hr.u8
  refine (kst_bytes h ⟨.slice (some ⟨G, 0, none⟩) m m, G, 0, m, m, m, m⟩ zs ⟨Nat.le_refl _, by simp, by simp, by show m ≤ _; omega, by show m ≤ _; omega, _, rfl, fun _ => rfl⟩ (fun j hj => ⟨⟨_, by rw [Nat.zero_add]; exact hr.cell j (by have : j < m := hj; omega)⟩, u8_frozen hu _⟩) (by show m ≤ _; omega) (blk_u8 hu) hf (show N0 ≤ G by omega) rfl (fun t ht => apart_blocks (fun _ _ => by have := h0.lt1 ht; show t.g ≠ G; omega)) (hr.all m m hl.symm) hk).mono ?_
  rintro en w' ⟨rfl, cs', ys1', k1, k2⟩
  exact ⟨rfl, cs', ys1', _, k1, k2, hG, (⟨hr.all m m hl.symm, fun ad e _ => by obtain rfl := Option.some.inj e; exact ⟨hf, blk_u8 hu⟩⟩ : Tb w B cs _ m m zs).kfr k2⟩
structure Bds (w : World) (B : Nat) (cs : Nat → Value) (base i : Nat) (v : Value) (xs : List Value) : Prop where
 own : w.ownsRow base 42 1 v i xs
 fr : ∀ d, v.ownBlock = some d → Fre B cs d
 el : ∀ j, j < i → ∃ ao m zs, xs[j]? = some (.slice ao m m) ∧ Tb w B cs ao m m zs ∧ Bt zs ∧ m ≤ 4092
theorem Bds.kfr {w w' : World} {B : Nat} {cs cs' : Nat → Value} {base i : Nat} {v : Value} {xs : List Value} (h : Bds w B cs base i v xs) (k : Kfr w w' B cs cs') : Bds w' B cs' base i v xs := by
 refine ⟨⟨h.own.1, ?_⟩, fun d hd => (k.block d (h.own.lt d hd).2 (h.fr d hd)).2, fun j hj => ?_⟩
 ·rcases h.own.2 with h1 | ⟨g, cap', cur, e, h2, h3, h4⟩
  ·exact Or.inl h1
  ·exact Or.inr ⟨g, cap', cur, e, h2, (k.block g (h.own.lt g (by rw [e]; rfl)).2 (h.fr g (by rw [e]; rfl))).1.trans h3, h4⟩
 ·obtain ⟨ao, m, zs, h1, h2, h3⟩ := h.el j hj
  exact ⟨ao, m, zs, h1, h2.kfr k, h3⟩
end Go.Proofs.YtcdkkhbkicejiaaGreatDoor
