import Derived.Test.YthodgddoolbenaaGreatDoorQ4
import Derived.Deep.RegionLawGrows
import Derived.Deep.CutRange
import Derived.Deep.RegionHeld3
import Derived.Deep.AppendLies
import Derived.Test.YthodgddoolbenaaGreatDoorQ7
namespace Go.Proofs.YthodgddoolbenaaGreatDoor
open Go.RowKit
def ktn (t i k : Nat) : Nat := if k < i then t + 1 else t
theorem ktn_next (t i : Nat) : (fun k => if k = i then ktn t i k + 1 else ktn t i k) = ktn t (i + 1) := by
 funext k
 unfold ktn
 by_cases h1 : k = i
 ·subst h1; simp
 ·by_cases h2 : k < i
  ·simp [h1, h2, show k < i + 1 by omega]
  ·simp [h1, h2, show ¬ k < i + 1 by omega]
theorem step_append_room_k {P : Program} {ops : Array Oper} {o : Oper} {a : Act} {w : World} {K : Act → World → Prop} {Q : Exit → Act → World → Prop} {E : Prop}
  (hg : o.guard = none) (s x : Operand) (t : TypeId) (hop : o.op = Op.call { callee := Callee.builtin Builtin.append, args := #[s, x], argTypes := #[t, t] })
  (e : TypeId) (i : TypeInfo) (size : Nat) (h1 : P.underlying t = some (.slice e)) (h2 : P.info? e = some i) (h4 : i.size = size)
  (b off n cap : Nat) (hs : a.eval s = .slice (some ⟨b, off, none⟩) n cap)
  (ad : Addr) (m c : Nat) (news : List Value) (hx : a.eval x = .slice (some ad) m c) (hn : news.length = m * size) (hc : ∀ j u, news[j]? = some u → w.cell? (ad.add j) = some u) (h1c : ∀ u ∈ news, u.oneCell' = true)
  (hroom : n + m ≤ cap) (hspare : ∀ j, j < news.length → (w.cell? ⟨b, off + n * size + j, none⟩).isSome = true ∧ w.frozen? ⟨b, off + n * size + j, none⟩ = false)
  (hK : ∀ X, X = w.setCells b (off + n * size) news → K (a.put o.dst (.slice (some ⟨b, off, none⟩) (n + m) cap)) X) :
  if Region.wanted o (yielded ops a.tmps) = true then Oper.wp P o a w K Q else E :=
 step_append_room hg s x t hop e i size h1 h2 h4 b off n cap hs ad m c news hx hn hc h1c hroom hspare (hK _ rfl)
theorem kinfo_rows : (Tryz.prog.info? 49).map (fun i => (i.zero, i.size, i.bytes)) = some (some (.slice none 0 0), 1, 24) := by kernel_rfl
theorem kinfo_u8 : (Tryz.prog.info? 5).map (fun i => (i.zero, i.size, i.bytes)) = some (some (.int .u8 0), 1, 1) := by kernel_rfl
structure Bz (w : World) (B : Nat) (qs gs : List Nat) : Prop where
 c0 : w.cell? ⟨B, 0, none⟩ = some (.int .i64 0)
 f1 : w.frozen? ⟨B, 1, none⟩ = false
 no : ∀ q ∈ qs, w.cell? ⟨B, q, none⟩ = some (.slice none 0 0)
 gn : ∀ q ∈ gs, w.cell? ⟨B, q, none⟩ = some (.slice none 0 0) ∧ w.frozen? ⟨B, q, none⟩ = false
theorem Bz.lt {w : World} {B : Nat} {qs gs : List Nat} (h : Bz w B qs gs) : B < w.heap.size := World.block_lt_of_cell? w _ h.c0
theorem Bz.kept {w w' : World} {B : Nat} {qs gs : List Nat} {row : Option Nat} (h : Bz w B qs gs) (hg : w.grownBy w' row) (hne : some B ≠ row) : Bz w' B qs gs := by
 have hb := hg.block B h.lt hne
 exact ⟨hg.cell h.c0 hne, (World.frozen?_of_block hb).trans h.f1, fun q hq => hg.cell (h.no q hq) hne, fun q hq => ⟨hg.cell (h.gn q hq).1 hne, (World.frozen?_of_block hb).trans (h.gn q hq).2⟩⟩
theorem Bz.setB {w : World} {B : Nat} {qs gs : List Nat} (h : Bz w B qs gs) (i : Nat) (v : Value) (h0 : i ≠ 0) (hq : ∀ q ∈ qs, q ≠ i) (hg : ∀ q ∈ gs, q ≠ i) : Bz (w.setCell ⟨B, i, none⟩ v) B qs gs := by
 refine ⟨?_, by simpa using h.f1, fun q hm => ?_, fun q hm => ⟨?_, by simpa using (h.gn q hm).2⟩⟩
 ·rw [World.cell?_setCell_other _ _ _ _ (off_ne h0)]; exact h.c0
 ·rw [World.cell?_setCell_other _ _ _ _ (off_ne (fun e => hq q hm e.symm))]; exact h.no q hm
 ·rw [World.cell?_setCell_other _ _ _ _ (off_ne (fun e => hg q hm e.symm))]; exact (h.gn q hm).1
structure Ks (K : Kdk) (w : World) (B : Nat) (ps : Int) (vb : Value) (r c : Nat) (L : List Lst) (id0 : Nat) : Prop where
 bc : Kc K w B ps vb r c L
 marks : ∀ (k : Nat) (s : Lst), L[k]? = some s → s.Shows w (K.f ps (id0 + k + 1))
theorem Ks.kept {K : Kdk} {w w' : World} {B : Nat} {ps : Int} {vb : Value} {r c : Nat} {L : List Lst} {id0 : Nat} {row : Option Nat} (h : Ks K w B ps vb r c L id0) (hg : w.grownBy w' row) (h1 : some B ≠ row) (h2 : some r ≠ row) (h3 : ∀ s ∈ L, some s.g ≠ row) : Ks K w' B ps vb r c L id0 :=
 ⟨h.bc.kept hg h1 h2 h3, fun k s hk => (h.marks k s hk).kept hg (h3 s (List.mem_of_getElem? hk))⟩
structure Gbk (K : Kdk) (S : Nat → Prop) (w : World) (B : Nat) (ps : Int) (vb vg : Value) (r c base id0 : Nat) (L M : List Lst) (tn : Nat → Nat) : Prop where
 gs : Gs K (fun _ => True) 0 (fun _ => True) w B ps vb vg r c base id0 L M tn
 qv : ∀ i, vg.ownBlock = some i → S i
 qm : ∀ (k : Nat) (m : Lst), M[k]? = some m → base ≤ m.g → S m.g
 sb : ∀ i, S i → base ≤ i ∧ i < w.heap.size
theorem Gbk.use {K : Kdk} {S : Nat → Prop} {w : World} {B : Nat} {ps : Int} {vb vg : Value} {r c base id0 : Nat} {L M : List Lst} {tn : Nat → Nat} (h : Gbk K S w B ps vb vg r c base id0 L M tn) (I : World → Prop) (hI : I w) :
  Gs K (fun i => S i ∨ w.heap.size ≤ i) w.heap.size I w B ps vb vg r c base id0 L M tn := by
 have g := h.gs
 have hr := g.rB
 exact ⟨hI, g.bc, g.gl, g.gz, g.own, g.old, ⟨hr.1, hr.2.1, hr.2.2.1, hr.2.2.2.1, Nat.le_refl _⟩, fun i hi => Or.inr hi, fun i hi => Or.inl (h.qv i hi), fun k m hm hb => Or.inl (h.qm k m hm hb), g.each, g.dif, g.lm, g.mm⟩
theorem Gbk.of {K : Kdk} {S : Nat → Prop} {H : Nat} {I : World → Prop} {w : World} {B : Nat} {ps : Int} {vb vg : Value} {r c base id0 : Nat} {L M : List Lst} {tn : Nat → Nat} (h : Gs K (fun i => S i ∨ H ≤ i) H I w B ps vb vg r c base id0 L M tn) (hS : ∀ i, S i → base ≤ i) (hH : base ≤ H) :
  Gbk K (fun i => (S i ∨ H ≤ i) ∧ i < w.heap.size) w B ps vb vg r c base id0 L M tn := by
 have hr := h.rB
 refine ⟨⟨trivial, h.bc, h.gl, h.gz, h.own, h.old, ⟨hr.1, hr.2.1, hr.2.2.1, hr.2.2.2.1, Nat.zero_le _⟩, fun _ _ => trivial, fun _ _ => trivial, fun _ _ _ _ => trivial, h.each, h.dif, h.lm, h.mm⟩, fun i hi => ⟨h.qv i hi, (h.vgB i hi).2⟩, fun k m hm hb => ⟨h.qm k m hm hb, ?_⟩, fun i hi => ⟨?_, hi.2⟩⟩
 ·obtain ⟨_, _, _, s, hs, _, hc⟩ := h.each k m hm
  rcases hc with hc | hc
  ·exact hc.2
  ·have := h.old s (List.mem_of_getElem? hs); omega
 ·rcases hi.1 with h1 | h1
  ·exact hS i h1
  ·omega
theorem Gbk.kept {K : Kdk} {S : Nat → Prop} {w w' : World} {B : Nat} {ps : Int} {vb vg : Value} {r c base id0 : Nat} {L M : List Lst} {tn : Nat → Nat} {row : Option Nat} (h : Gbk K S w B ps vb vg r c base id0 L M tn) (hg : w.grownBy w' row) (hr : ∀ i, row = some i → i ≠ B ∧ i ≠ r ∧ (∀ s ∈ L, s.g ≠ i) ∧ ¬ S i) :
  Gbk K S w' B ps vb vg r c base id0 L M tn := by
 have g := h.gs
 have hrb := g.rB
 have hsz := hg.size
 have nB : some B ≠ row := fun e => (hr B e.symm).1 rfl
 have nr : some r ≠ row := fun e => (hr r e.symm).2.1 rfl
 have ns : ∀ s ∈ L, some s.g ≠ row := fun s hs e => (hr _ e.symm).2.2.1 s hs rfl
 have nm : ∀ (k : Nat) (m : Lst), M[k]? = some m → some m.g ≠ row := fun k m hm e => by
  obtain ⟨_, _, _, s, hs, _, hc⟩ := g.each k m hm
  rcases hc with hc | hc
  ·exact (hr _ e.symm).2.2.2 (h.qm k m hm hc.1)
  ·exact (hr _ e.symm).2.2.1 s (List.mem_of_getElem? hs) hc.1.symm
 refine ⟨⟨trivial, g.bc.kept hg nB nr ns, hg.cell g.gl nB, (World.frozen?_of_block (hg.block B (by omega) nB)).trans g.gz, g.own.kept hg ?_, g.old, ⟨hrb.1, hrb.2.1, by omega, hrb.2.2.2.1, Nat.zero_le _⟩, fun _ _ => trivial, fun _ _ => trivial, fun _ _ _ _ => trivial, fun k m hm => ?_, g.dif, fun k t hk => (g.lm k t hk).kept hg (ns t (List.mem_of_getElem? hk)), fun k m hm => (g.mm k m hm).kept hg (nm k m hm)⟩, h.qv, h.qm, fun i hi => ?_⟩
 ·cases hv : vg.ownBlock with
  | none => exact Or.inl rfl
  | some i => exact Or.inr (fun e => (hr i e.symm).2.2.2 (h.qv i hv))
 ·obtain ⟨a1, a2, a3, t, a4, a5, a6⟩ := g.each k m hm
  refine ⟨a1, a2.kept hg (nm k m hm), a3, t, a4, a5, ?_⟩
  rcases a6 with a6 | a6
  ·left; omega
  ·exact Or.inr a6
 ·have := h.sb i hi
  omega
theorem Gbk.setB {K : Kdk} {S : Nat → Prop} {w : World} {B : Nat} {ps : Int} {vb vg : Value} {r c base id0 : Nat} {L M : List Lst} {tn : Nat → Nat} (h : Gbk K S w B ps vb vg r c base id0 L M tn) (i : Nat) (v : Value) (h1 : i ≠ 1) (h2 : i ≠ K.q) (h3 : i ≠ K.q + 2) (hrB : r ≠ B) :
  Gbk K S (w.setCell ⟨B, i, none⟩ v) B ps vb vg r c base id0 L M tn := by
 have g := h.gs
 have hrb := g.rB
 have hg := kset_grown w B i v
 have hsz := hg.size
 have ns : ∀ s ∈ L, some s.g ≠ some B := fun s hs e => (g.bc.ok s hs).2.2.1 (Option.some.inj e)
 have nm : ∀ (k : Nat) (m : Lst), M[k]? = some m → some m.g ≠ some B := fun k m hm e => (g.gB hm).1 (Option.some.inj e)
 refine ⟨⟨trivial, g.bc.setB i v h1 h2 hrB, ?_, by simpa using g.gz, g.own.kept hg ?_, g.old, ⟨hrb.1, hrb.2.1, by omega, hrb.2.2.2.1, Nat.zero_le _⟩, fun _ _ => trivial, fun _ _ => trivial, fun _ _ _ _ => trivial, fun k m hm => ?_, g.dif, fun k t hk => (g.lm k t hk).kept hg (ns t (List.mem_of_getElem? hk)), fun k m hm => (g.mm k m hm).kept hg (nm k m hm)⟩, h.qv, h.qm, fun i hi => ?_⟩
 ·rw [World.cell?_setCell_other _ _ _ _ (off_ne h3)]; exact g.gl
 ·cases hv : vg.ownBlock with
  | none => exact Or.inl rfl
  | some j => exact Or.inr (fun e => by have := (g.vgB j hv).1; have := Option.some.inj e; omega)
 ·obtain ⟨a1, a2, a3, t, a4, a5, a6⟩ := g.each k m hm
  refine ⟨a1, a2.set _ _, a3, t, a4, a5, ?_⟩
  rcases a6 with a6 | a6
  ·left; omega
  ·exact Or.inr a6
 ·have := h.sb i hi
  omega
theorem Gbk.tn {K : Kdk} {S : Nat → Prop} {w : World} {B : Nat} {ps : Int} {vb vg : Value} {r c base id0 : Nat} {L M : List Lst} {tn tn' : Nat → Nat} (h : Gbk K S w B ps vb vg r c base id0 L M tn) (he : ∀ k, k < M.length → tn k = tn' k) : Gbk K S w B ps vb vg r c base id0 L M tn' := ⟨h.gs.tn he, h.qv, h.qm, h.sb⟩
theorem kro_of_owns {w : World} {base n : Nat} {v : Value} {xs : List Value} {t : TypeId} (h : w.ownsRow base t 1 v n xs) : ∃ r c, Kro w v r c xs := by
 have hl := h.1
 rw [Nat.mul_one] at hl
 rcases h.2 with ⟨rfl, h0⟩ | ⟨g, cap, cur, rfl, hb, hg, hn, hm, hs, ht⟩
 ·refine ⟨0, 0, ⟨none, by rw [hl, h0], fun hp => by omega⟩, fun i x hx => ?_⟩
  have := (List.getElem?_eq_some_iff.1 hx).1
  omega
 ·refine ⟨g, cap, ⟨_, by rw [hl], fun _ => rfl⟩, fun i x hx => ?_⟩
  have hi := (List.getElem?_eq_some_iff.1 hx).1
  rw [cell_of_row w g i _ _ (0, 0) hg, ← Array.getElem?_toList]
  rw [← ht, List.getElem?_take] at hx
  split at hx
  ·exact hx
  ·cases hx
theorem Gbk.kg {K : Kdk} {S : Nat → Prop} {w : World} {B : Nat} {ps : Int} {vb vg : Value} {r c base id0 : Nat} {L M : List Lst} {tn : Nat → Nat} (h : Gbk K S w B ps vb vg r c base id0 L M tn) : ∃ r2 c2, Kg K w B ps vg r2 c2 M id0 := by
 obtain ⟨r2, c2, hk⟩ := kro_of_owns h.gs.own
 exact ⟨r2, c2, h.gs.gl, hk, fun s hs => by obtain ⟨k, hk⟩ := List.mem_iff_getElem?.1 hs; exact (h.gs.each k s hk).1, h.gs.mm⟩
theorem Ks.gb {K : Kdk} {w : World} {B : Nat} {ps : Int} {vb : Value} {r c : Nat} {L : List Lst} {id0 : Nat} (h : Ks K w B ps vb r c L id0) (base : Nat) (hg : w.cell? ⟨B, K.q + 2, none⟩ = some (.slice none 0 0) ∧ w.frozen? ⟨B, K.q + 2, none⟩ = false) (ho : ∀ s ∈ L, s.g < base) (hr : r < base) (hB : B < base) (hb : base ≤ w.heap.size) : Gbk K (fun _ => False) w B ps vb (.slice none 0 0) r c base id0 L [] (ktn 0 0) :=
 ⟨⟨trivial, h.bc, hg.1, hg.2, ⟨rfl, Or.inl ⟨rfl, rfl⟩⟩, ho, ⟨hr, hB, hb, Nat.zero_le _, Nat.zero_le _⟩, fun _ _ => trivial, fun _ _ => trivial, fun _ _ _ _ => trivial, fun k m hm => by simp at hm, fun k l m m' hm => by simp at hm, h.marks, fun k m hm => by simp at hm⟩, fun i hi => by simp [Value.ownBlock] at hi, fun k m hm => by simp at hm, fun i hi => hi.elim⟩
def fnU (j : Nat) : Nat := match j with
 | 0 => 47
 | 1 => 48
 | 2 => 49
 | 3 => 50
 | 4 => 51
 | 5 => 52
 | 6 => 53
 | 7 => 54
 | 8 => 55
 | 9 => 56
 | 10 => 57
 | 11 => 58
 | 12 => 59
 | _ => 0
def fnW (j : Nat) : Nat := match j with
 | 0 => 60
 | 1 => 61
 | 2 => 62
 | 3 => 63
 | 4 => 64
 | 5 => 65
 | 6 => 66
 | 7 => 67
 | 8 => 68
 | 9 => 69
 | 10 => 70
 | 11 => 71
 | 12 => 72
 | _ => 0
def fnG (j : Nat) : Nat := match j with
 | 0 => 86
 | 1 => 87
 | 2 => 88
 | 3 => 89
 | 4 => 90
 | 5 => 91
 | 6 => 92
 | 7 => 93
 | 8 => 94
 | 9 => 95
 | 10 => 96
 | 11 => 97
 | 12 => 98
 | _ => 0
def fnH (j : Nat) : Nat := match j with
 | 0 => 73
 | 1 => 74
 | 2 => 75
 | 3 => 76
 | 4 => 77
 | 5 => 78
 | 6 => 79
 | 7 => 80
 | 8 => 81
 | 9 => 82
 | 10 => 83
 | 11 => 84
 | 12 => 85
 | _ => 0
structure Kn where
 n : Nat
 own : Nat → Prop
 need : Nat → Prop
 Z : World → Prop
 T : Int → World → Prop
 M : (Nat → Prop) → Int → Nat → World → Prop
 G : (Nat → Prop) → Nat → Nat → World → Prop
structure KnOk (B base : Nat) (k : Kn) (j : Nat) : Prop where
 untouched : ∀ w, k.Z w → Calls Tryz.prog (fnU j) #[.pointer (some ⟨B, 0, none⟩)] w fun en w' => en = .returned (.bool true) ∧ w.grownBy w' none
 write : ∀ (p : Int) (id0 : Nat) (idI : Int) (I : World → Prop) (w : World), (0 ≤ p ∧ p ≤ 1) → idI = (id0 : Int) → id0 ≤ 1000000 → k.T p w → base ≤ w.heap.size → I w → (∀ v v' row, I v → v.grownBy v' row → (∀ i, row = some i → k.own i) → I v') →
  Calls Tryz.prog (fnW j) #[.pointer (some ⟨B, 0, none⟩), .int .i64 idI] w fun en w' => en = .returned (.int .i64 ((id0 + k.n : Nat) : Int)) ∧ w.heap.size ≤ w'.heap.size ∧ I w' ∧ ∃ S, k.M S p id0 w' ∧ ∀ i, S i → w.heap.size ≤ i ∧ i < w'.heap.size
 hold : ∀ (S : Nat → Prop) (p : Int) (id0 : Nat) (idI : Int) (w : World), (0 ≤ p ∧ p ≤ 1) → idI = (id0 : Int) → id0 ≤ 1000000 → k.M S p id0 w →
  Calls Tryz.prog (fnH j) #[.pointer (some ⟨B, 0, none⟩), .int .i64 idI] w fun en w' => en = .returned (.tuple #[.int .i64 ((id0 + k.n : Nat) : Int), .bool true]) ∧ w.grownBy w' none
 grow : ∀ (S : Nat → Prop) (t : Nat) (id0 : Nat) (idI tI : Int) (I : World → Prop) (w : World), t < 70 → idI = (id0 : Int) → tI = (t : Int) → id0 ≤ 1000000 → k.G S t id0 w → (∀ i, S i → base ≤ i ∧ i < w.heap.size) → base ≤ w.heap.size → I w → (∀ v v' row, I v → v.grownBy v' row → (∀ i, row = some i → k.own i ∨ S i ∨ w.heap.size ≤ i) → I v') → (∀ v u, I v → I (v.setCell ⟨B, 3 * j + 4, none⟩ u)) →
  Calls Tryz.prog (fnG j) #[.pointer (some ⟨B, 0, none⟩), .int .i64 idI, .int .i64 tI] w fun en w' => en = .returned (.int .i64 ((id0 + k.n : Nat) : Int)) ∧ w.heap.size ≤ w'.heap.size ∧ I w' ∧ ∃ S', k.G S' (t + 1) id0 w' ∧ ∀ i, S' i → (S i ∨ w.heap.size ≤ i) ∧ i < w'.heap.size
 holdG : ∀ (S : Nat → Prop) (id0 : Nat) (idI : Int) (w : World), idI = (id0 : Int) → id0 ≤ 1000000 → k.G S 70 id0 w →
  Calls Tryz.prog (fnH j) #[.pointer (some ⟨B, 0, none⟩), .int .i64 idI] w fun en w' => en = .returned (.tuple #[.int .i64 ((id0 + k.n : Nat) : Int), .bool true]) ∧ w.grownBy w' none
 zKept : ∀ v v', k.Z v → v.grownBy v' none → k.Z v'
 zt : ∀ v, k.Z v → k.T 0 v
 tKept : ∀ p v v' row, k.T p v → v.grownBy v' row → (∀ i, row = some i → i ≠ B ∧ ¬ k.need i) → k.T p v'
 tPass : ∀ p p' v, k.T p v → k.T p' (v.setCell ⟨B, 1, none⟩ (.int .i64 p'))
 mt : ∀ S p id0 v, k.M S p id0 v → k.T p v
 mKept : ∀ S p id0 v v' row, k.M S p id0 v → v.grownBy v' row → (∀ i, row = some i → i ≠ B ∧ ¬ k.need i ∧ ¬ S i) → k.M S p id0 v'
 mg : ∀ S id0 v, k.M S 1 id0 v → base ≤ v.heap.size → (∀ i, S i → base ≤ i ∧ i < v.heap.size) → k.G S 0 id0 v
 gKept : ∀ S t id0 v v' row, k.G S t id0 v → v.grownBy v' row → (∀ i, row = some i → i ≠ B ∧ ¬ k.need i ∧ ¬ S i) → k.G S t id0 v'
 gSetB : ∀ S t id0 v i u, k.G S t id0 v → i ≠ 1 → i ≠ 3 * j + 2 → i ≠ 3 * j + 4 → k.G S t id0 (v.setCell ⟨B, i, none⟩ u)
 sub : ∀ i, k.own i → k.need i
 old : ∀ i, k.need i → i < base
 nB : ∀ i, k.need i → i ≠ B
def kid0 (K : Nat → Kn) : Nat → Nat
 | 0 => 0
 | j + 1 => kid0 K j + (K j).n
def Cross (K : Nat → Kn) : Prop := ∀ i j, i < 13 → j < 13 → i ≠ j → ∀ b, (K i).own b → ¬ (K j).need b
structure Ws (B base : Nat) (K : Nat → Kn) (I : World → Prop) (j : Nat) (p : Int) (w : World) (S : Nat → Nat → Prop) : Prop where
 inv : I w
 sz : base ≤ w.heap.size
 m : ∀ i, i < j → (K i).M (S i) p (kid0 K i) w
 t : ∀ i, j ≤ i → i < 13 → (K i).T p w
 sb : ∀ i, i < j → ∀ b, S i b → base ≤ b ∧ b < w.heap.size
 di : ∀ i i', i < j → i' < j → i ≠ i' → ∀ b, S i b → ¬ S i' b
theorem Ws.keptN {B base : Nat} {K : Nat → Kn} {I : World → Prop} {j : Nat} {p : Int} {w w' : World} {S : Nat → Nat → Prop} (hK : ∀ j, j < 13 → KnOk B base (K j) j) (hj : j ≤ 13) (h : Ws B base K I j p w S) (hg : w.grownBy w' none) (hI : I w') : Ws B base K I j p w' S :=
 ⟨hI, Nat.le_trans h.sz hg.size, fun i hi => (hK i (by omega)).mKept _ _ _ _ _ _ (h.m i hi) hg (by simp), fun i h1 h2 => (hK i h2).tKept _ _ _ _ (h.t i h1 h2) hg (by simp), fun i hi b hb => ⟨(h.sb i hi b hb).1, Nat.lt_of_lt_of_le (h.sb i hi b hb).2 hg.size⟩, h.di⟩
theorem ws_write {B base : Nat} {K : Nat → Kn} {I : World → Prop} (hK : ∀ j, j < 13 → KnOk B base (K j) j) (hX : Cross K) (hI : ∀ v v' row, I v → v.grownBy v' row → (∀ i, row = some i → ∃ j, j < 13 ∧ (K j).own i) → I v') (j : Nat) (hj : j < 13) (p : Int) (hp : 0 ≤ p ∧ p ≤ 1) (w : World) (idI : Int) (e : idI = (kid0 K j : Int)) (hid : kid0 K j ≤ 1000000) {S : Nat → Nat → Prop} (h : Ws B base K I j p w S) :
  Calls Tryz.prog (fnW j) #[.pointer (some ⟨B, 0, none⟩), .int .i64 idI] w fun en w' => en = .returned (.int .i64 (kid0 K (j + 1) : Int)) ∧ ∃ S, Ws B base K I (j + 1) p w' S := by
 refine ((hK j hj).write p (kid0 K j) idI (fun v => I v ∧ (∀ i, i < j → (K i).M (S i) p (kid0 K i) v) ∧ (∀ i, j < i → i < 13 → (K i).T p v)) w hp e hid (h.t j (Nat.le_refl _) hj) h.sz ⟨h.inv, h.m, fun i h1 h2 => h.t i (by omega) h2⟩ ?_).mono ?_
 ·rintro v v' row ⟨a1, a2, a3⟩ hg hr
  refine ⟨hI v v' row a1 hg (fun i hi => ⟨j, hj, hr i hi⟩), fun i hi => (hK i (by omega)).mKept _ _ _ _ _ _ (a2 i hi) hg (fun b hb => ?_), fun i h1 h2 => (hK i h2).tKept _ _ _ _ (a3 i h1 h2) hg (fun b hb => ?_)⟩
  ·have ho := hr b hb
   have hn := (hK j hj).sub b ho
   have := (hK j hj).old b hn
   exact ⟨(hK j hj).nB b hn, hX j i hj (by omega) (by omega) b ho, fun hs => by have := (h.sb i hi b hs).1; omega⟩
  ·have ho := hr b hb
   have hn := (hK j hj).sub b ho
   exact ⟨(hK j hj).nB b hn, hX j i hj h2 (by omega) b ho⟩
 ·rintro en w' ⟨rfl, hsz, ⟨a1, a2, a3⟩, S', hm, hS⟩
  refine ⟨rfl, fun i => if i = j then S' else S i, a1, Nat.le_trans h.sz hsz, fun i hi => ?_, fun i h1 h2 => a3 i (by omega) h2, fun i hi b hb => ?_, fun i i' hi hi' hne b hb hb' => ?_⟩
  ·by_cases e : i = j
   ·subst e; simp only [if_true]; exact hm
   ·simp only [if_neg e]; exact a2 i (by omega)
  ·by_cases e : i = j
   ·subst e; simp only [if_true] at hb; have := hS b hb; have := h.sz; omega
   ·simp only [if_neg e] at hb; have := h.sb i (by omega) b hb; omega
  ·by_cases e : i = j
   ·have e' : i' ≠ j := by omega
    simp only [if_pos e] at hb
    simp only [if_neg e'] at hb'
    have := hS b hb
    have := h.sb i' (by omega) b hb'
    omega
   ·simp only [if_neg e] at hb
    by_cases e' : i' = j
    ·simp only [if_pos e'] at hb'
     have := hS b hb'
     have := h.sb i (by omega) b hb
     omega
    ·simp only [if_neg e'] at hb'
     exact h.di i i' (by omega) (by omega) hne b hb hb'
structure Gw (B base : Nat) (K : Nat → Kn) (I : World → Prop) (j t : Nat) (w : World) (S : Nat → Nat → Prop) : Prop where
 inv : I w
 c0 : w.cell? ⟨B, 0, none⟩ = some (.int .i64 0)
 sz : base ≤ w.heap.size
 a : ∀ i, i < j → (K i).G (S i) (t + 1) (kid0 K i) w
 b : ∀ i, j ≤ i → i < 13 → (K i).G (S i) t (kid0 K i) w
 sb : ∀ i, i < 13 → ∀ d, S i d → base ≤ d ∧ d < w.heap.size
 di : ∀ i i', i < 13 → i' < 13 → i ≠ i' → ∀ d, S i d → ¬ S i' d
theorem gw_grow {B base : Nat} {K : Nat → Kn} {I : World → Prop} (hBb : B < base) (hK : ∀ j, j < 13 → KnOk B base (K j) j) (hX : Cross K) (hI : ∀ v v' row, I v → v.grownBy v' row → (∀ i, row = some i → (∃ j, j < 13 ∧ (K j).own i) ∨ base ≤ i) → I v') (hIb : ∀ v i u, I v → I (v.setCell ⟨B, i, none⟩ u)) (j : Nat) (hj : j < 13) (t : Nat) (ht : t < 70) (w : World) (idI tI : Int) (e : idI = (kid0 K j : Int)) (et : tI = (t : Int)) (hid : kid0 K j ≤ 1000000) {S : Nat → Nat → Prop} (h : Gw B base K I j t w S) :
  Calls Tryz.prog (fnG j) #[.pointer (some ⟨B, 0, none⟩), .int .i64 idI, .int .i64 tI] w fun en w' => en = .returned (.int .i64 (kid0 K (j + 1) : Int)) ∧ ∃ S, Gw B base K I (j + 1) t w' S := by
 have key : ∀ i, i < 13 → i ≠ j → ∀ b, ((K j).own b ∨ S j b ∨ w.heap.size ≤ b) → b ≠ B ∧ ¬ (K i).need b ∧ ¬ S i b := fun i hi hne b hb => by
  have hsz := h.sz
  rcases hb with ho | hs | hn
  ·have hn := (hK j hj).sub b ho
   have := (hK j hj).old b hn
   exact ⟨(hK j hj).nB b hn, hX j i hj hi (by omega) b ho, fun hs => by have := (h.sb i hi b hs).1; omega⟩
  ·have := h.sb j hj b hs
   exact ⟨by omega, fun hd => by have := (hK i hi).old b hd; omega, fun hs' => h.di j i hj hi (by omega) b hs hs'⟩
  ·exact ⟨by omega, fun hd => by have := (hK i hi).old b hd; omega, fun hs' => by have := (h.sb i hi b hs').2; omega⟩
 refine ((hK j hj).grow (S j) t (kid0 K j) idI tI (fun v => I v ∧ v.cell? ⟨B, 0, none⟩ = some (.int .i64 0) ∧ (∀ i, i < j → (K i).G (S i) (t + 1) (kid0 K i) v) ∧ (∀ i, j < i → i < 13 → (K i).G (S i) t (kid0 K i) v)) w ht e et hid (h.b j (Nat.le_refl _) hj) (h.sb j hj) h.sz ⟨h.inv, h.c0, h.a, fun i h1 h2 => h.b i (by omega) h2⟩ ?_ ?_).mono ?_
 ·rintro v v' row ⟨a1, a2, a3, a4⟩ hg hr
  have hsz := h.sz
  refine ⟨hI v v' row a1 hg (fun i hi => ?_), hg.cell a2 (fun eB => ?_), fun i hi => (hK i (by omega)).gKept _ _ _ _ _ _ (a3 i hi) hg (fun b hb => key i (by omega) (by omega) b (hr b hb)), fun i h1 h2 => (hK i h2).gKept _ _ _ _ _ _ (a4 i h1 h2) hg (fun b hb => key i h2 (by omega) b (hr b hb))⟩
  ·rcases hr i hi with ho | hs | hn
   ·exact Or.inl ⟨j, hj, ho⟩
   ·exact Or.inr (h.sb j hj i hs).1
   ·exact Or.inr (by omega)
  ·rcases hr B eB.symm with ho | hs | hn
   ·exact (hK j hj).nB B ((hK j hj).sub B ho) rfl
   ·have := (h.sb j hj B hs).1; omega
   ·omega
 ·rintro v u ⟨a1, a2, a3, a4⟩
  exact ⟨hIb v _ u a1, by rw [World.cell?_setCell_other _ _ _ _ (off_ne (by omega))]; exact a2, fun i hi => (hK i (by omega)).gSetB _ _ _ _ _ _ (a3 i hi) (by omega) (by omega) (by omega), fun i h1 h2 => (hK i h2).gSetB _ _ _ _ _ _ (a4 i h1 h2) (by omega) (by omega) (by omega)⟩
 ·rintro en w' ⟨rfl, hsz, ⟨a1, a2, a3, a4⟩, S', hm, hS⟩
  have hs0 := h.sz
  refine ⟨rfl, fun i => if i = j then S' else S i, a1, a2, Nat.le_trans h.sz hsz, fun i hi => ?_, fun i h1 h2 => ?_, fun i hi b hb => ?_, fun i i' hi hi' hne b hb hb' => ?_⟩
  ·by_cases e : i = j
   ·subst e; simp only [if_true]; exact hm
   ·simp only [if_neg e]; exact a3 i (by omega)
  ·have e : i ≠ j := by omega
   simp only [if_neg e]; exact a4 i (by omega) h2
  ·by_cases e : i = j
   ·subst e
    simp only [if_true] at hb
    have h1 := hS b hb
    rcases h1.1 with h2 | h2
    ·exact ⟨(h.sb i hj b h2).1, h1.2⟩
    ·exact ⟨by omega, h1.2⟩
   ·simp only [if_neg e] at hb; have := h.sb i hi b hb; omega
  ·by_cases e : i = j
   ·have e' : i' ≠ j := by omega
    simp only [if_pos e] at hb
    simp only [if_neg e'] at hb'
    rcases (hS b hb).1 with h2 | h2
    ·exact h.di j i' hj hi' (by omega) b h2 hb'
    ·have := (h.sb i' hi' b hb').2; omega
   ·simp only [if_neg e] at hb
    by_cases e' : i' = j
    ·simp only [if_pos e'] at hb'
     rcases (hS b hb').1 with h2 | h2
     ·exact h.di i j hi hj (by omega) b hb h2
     ·have := (h.sb i hi b hb).2; omega
    ·simp only [if_neg e'] at hb'
     exact h.di i i' hi hi' hne b hb hb'
def knE (B j : Nat) : Kn where
 n := 0
 own := fun _ => False
 need := fun _ => False
 Z := fun w => ∃ ao c, w.cell? ⟨B, 3 * j + 2, none⟩ = some (.slice ao 0 c)
 T := fun _ w => ∃ ao c, w.cell? ⟨B, 3 * j + 2, none⟩ = some (.slice ao 0 c)
 M := fun _ _ _ w => ∃ ao c, w.cell? ⟨B, 3 * j + 2, none⟩ = some (.slice ao 0 c)
 G := fun _ _ _ w => ∃ ao c, w.cell? ⟨B, 3 * j + 2, none⟩ = some (.slice ao 0 c)
theorem knE_ok {B base j : Nat}
  (hu : ∀ w ao c, w.cell? ⟨B, 3 * j + 2, none⟩ = some (.slice ao 0 c) → Calls Tryz.prog (fnU j) #[.pointer (some ⟨B, 0, none⟩)] w fun en w' => en = .returned (.bool true) ∧ w' = w)
  (hw : ∀ (id : Int) w ao c, w.cell? ⟨B, 3 * j + 2, none⟩ = some (.slice ao 0 c) → Calls Tryz.prog (fnW j) #[.pointer (some ⟨B, 0, none⟩), .int .i64 id] w fun en w' => en = .returned (.int .i64 id) ∧ w' = w)
  (hh : ∀ (id : Int) w ao c, w.cell? ⟨B, 3 * j + 2, none⟩ = some (.slice ao 0 c) → Calls Tryz.prog (fnH j) #[.pointer (some ⟨B, 0, none⟩), .int .i64 id] w fun en w' => en = .returned (.tuple #[.int .i64 id, .bool true]) ∧ w' = w)
  (hg : ∀ (id t : Int) w ao c, w.cell? ⟨B, 3 * j + 2, none⟩ = some (.slice ao 0 c) → Calls Tryz.prog (fnG j) #[.pointer (some ⟨B, 0, none⟩), .int .i64 id, .int .i64 t] w fun en w' => en = .returned (.int .i64 id) ∧ w' = w) : KnOk B base (knE B j) j where
 untouched := fun w ⟨ao, c, h⟩ => (hu w ao c h).mono (by rintro en w' ⟨rfl, rfl⟩; exact ⟨rfl, (Qt.refl _).grown none⟩)
 write := fun p id0 idI I w _ e _ ⟨ao, c, h⟩ _ hI _ => (hw idI w ao c h).mono (by rintro en w' ⟨rfl, rfl⟩; exact ⟨by rw [e]; rfl, Nat.le_refl _, hI, fun _ => False, ⟨ao, c, h⟩, fun i hi => hi.elim⟩)
 hold := fun S p id0 idI w _ e _ ⟨ao, c, h⟩ => (hh idI w ao c h).mono (by rintro en w' ⟨rfl, rfl⟩; exact ⟨by rw [e]; rfl, (Qt.refl _).grown none⟩)
 grow := fun S t id0 idI tI I w _ e _ _ ⟨ao, c, h⟩ hS _ hI _ _ => (hg idI tI w ao c h).mono (by rintro en w' ⟨rfl, rfl⟩; exact ⟨by rw [e]; rfl, Nat.le_refl _, hI, fun _ => False, ⟨ao, c, h⟩, fun i hi => hi.elim⟩)
 holdG := fun S id0 idI w e _ ⟨ao, c, h⟩ => (hh idI w ao c h).mono (by rintro en w' ⟨rfl, rfl⟩; exact ⟨by rw [e]; rfl, (Qt.refl _).grown none⟩)
 zKept := fun v v' ⟨ao, c, h⟩ hg => ⟨ao, c, hg.cell h (by simp)⟩
 zt := fun v h => h
 tKept := fun p v v' row ⟨ao, c, h⟩ hg hr => ⟨ao, c, hg.cell h (fun e => (hr B e.symm).1 rfl)⟩
 tPass := fun p p' v ⟨ao, c, h⟩ => ⟨ao, c, by rw [World.cell?_setCell_other _ _ _ _ (off_ne (by omega))]; exact h⟩
 mt := fun S p id0 v h => h
 mKept := fun S p id0 v v' row ⟨ao, c, h⟩ hg hr => ⟨ao, c, hg.cell h (fun e => (hr B e.symm).1 rfl)⟩
 mg := fun S id0 v h _ _ => h
 gKept := fun S t id0 v v' row ⟨ao, c, h⟩ hg hr => ⟨ao, c, hg.cell h (fun e => (hr B e.symm).1 rfl)⟩
 gSetB := fun S t id0 v i u ⟨ao, c, h⟩ _ h2 _ => ⟨ao, c, by rw [World.cell?_setCell_other _ _ _ _ (off_ne h2)]; exact h⟩
 sub := fun i h => h
 old := fun i h => h.elim
 nB := fun i h => h.elim
theorem knE_ints (B base : Nat) : KnOk B base (knE B 1) 1 := knE_ok (fun w _ _ h => ints_untouched B w h) (fun id w _ _ h => ints_write B id w h) (fun id w _ _ h => ints_hold B id w h) (fun id t w _ _ h => ints_grow B id t w h)
theorem knE_texts (B base : Nat) : KnOk B base (knE B 2) 2 := knE_ok (fun w _ _ h => texts_untouched B w h) (fun id w _ _ h => texts_write B id w h) (fun id w _ _ h => texts_hold B id w h) (fun id t w _ _ h => texts_grow B id t w h)
theorem knE_byteLists (B base : Nat) : KnOk B base (knE B 3) 3 := knE_ok (fun w _ _ h => byteLists_untouched B w h) (fun id w _ _ h => byteLists_write B id w h) (fun id w _ _ h => byteLists_hold B id w h) (fun id t w _ _ h => byteLists_grow B id t w h)
theorem knE_intLists (B base : Nat) : KnOk B base (knE B 4) 4 := knE_ok (fun w _ _ h => intLists_untouched B w h) (fun id w _ _ h => intLists_write B id w h) (fun id w _ _ h => intLists_hold B id w h) (fun id t w _ _ h => intLists_grow B id t w h)
theorem knE_items (B base : Nat) : KnOk B base (knE B 6) 6 := knE_ok (fun w _ _ h => items_untouched B w h) (fun id w _ _ h => items_write B id w h) (fun id w _ _ h => items_hold B id w h) (fun id t w _ _ h => items_grow B id t w h)
theorem knE_kids (B base : Nat) : KnOk B base (knE B 7) 7 := knE_ok (fun w _ _ h => kids_untouched B w h) (fun id w _ _ h => kids_write B id w h) (fun id w _ _ h => kids_hold B id w h) (fun id t w _ _ h => kids_grow B id t w h)
theorem knE_nodes (B base : Nat) : KnOk B base (knE B 8) 8 := knE_ok (fun w _ _ h => nodes_untouched B w h) (fun id w _ _ h => nodes_write B id w h) (fun id w _ _ h => nodes_hold B id w h) (fun id t w _ _ h => nodes_grow B id t w h)
theorem knE_writes (B base : Nat) : KnOk B base (knE B 9) 9 := knE_ok (fun w _ _ h => writes_untouched B w h) (fun id w _ _ h => writes_write B id w h) (fun id w _ _ h => writes_hold B id w h) (fun id t w _ _ h => writes_grow B id t w h)
theorem knE_changes (B base : Nat) : KnOk B base (knE B 10) 10 := knE_ok (fun w _ _ h => changes_untouched B w h) (fun id w _ _ h => changes_write B id w h) (fun id w _ _ h => changes_hold B id w h) (fun id t w _ _ h => changes_grow B id t w h)
theorem knE_fates (B base : Nat) : KnOk B base (knE B 11) 11 := knE_ok (fun w _ _ h => fates_untouched B w h) (fun id w _ _ h => fates_write B id w h) (fun id w _ _ h => fates_hold B id w h) (fun id t w _ _ h => fates_grow B id t w h)
theorem knE_ops (B base : Nat) : KnOk B base (knE B 12) 12 := knE_ok (fun w _ _ h => ops_untouched B w h) (fun id w _ _ h => ops_write B id w h) (fun id w _ _ h => ops_hold B id w h) (fun id t w _ _ h => ops_grow B id t w h)
def WriteC (K : Kdk) (F : Nat) : Prop := ∀ (B : Nat) (ps : Int) (_ : 0 ≤ ps ∧ ps ≤ 1) (vb : Value) (r c : Nat) (L : List Lst) (id0 : Nat) (I : World → Prop) (w : World) (_ : id0 ≤ 1000000) (_ : Kc K w B ps vb r c L) (_ : I w) (_ : ∀ w s j v, s ∈ L → j < s.C → I w → I (w.setCell ⟨s.g, s.o + j, none⟩ v)) (_ : ∀ w w', w.grownBy w' none → I w → I w'),
  Calls Tryz.prog F #[.pointer (some ⟨B, 0, none⟩), .int .i64 id0] w fun en w' => en = .returned (.int .i64 ((id0 + L.length : Nat) : Int)) ∧ Kwr K I w' B ps vb r c L id0 L.length 0
def HoldC (K : Kdk) (F : Nat) : Prop := ∀ (B : Nat) (ps : Int) (_ : 0 ≤ ps ∧ ps ≤ 1) (vb vg : Value) (r c r2 c2 : Nat) (L M : List Lst) (id0 : Nat) (w : World) (_ : id0 ≤ 1000000) (_ : Kc K w B ps vb r c L) (_ : Kg K w B ps vg r2 c2 M id0) (_ : M.length = L.length ∨ M.length = 0) (_ : ∀ (k : Nat) (s : Lst), L[k]? = some s → s.Shows w (K.f ps (id0 + k + 1))),
  Calls Tryz.prog F #[.pointer (some ⟨B, 0, none⟩), .int .i64 id0] w fun en w' => en = .returned (.tuple #[.int .i64 ((id0 + L.length : Nat) : Int), .bool true]) ∧ w.grownBy w' none
def GrowC (K : Kdk) (F : Nat) : Prop := ∀ (B : Nat) (ps : Int) (_ : 0 ≤ ps ∧ ps ≤ 1) (vb vg0 : Value) (r c base id0 : Nat) (L M0 : List Lst) (t : Nat) (Q : Nat → Prop) (HH : Nat) (I : World → Prop) (w : World) (_ : Gs K Q HH I w B ps vb vg0 r c base id0 L M0 (ktn t 0)) (_ : t ≤ 1000) (_ : if t = 0 then M0 = [] else M0.length = L.length) (_ : r ≠ B) (_ : id0 ≤ 1000000) (_ : ∀ s ∈ L, s.n + t + 1 ≤ 1099511627776)
  (_ : ∀ w w' row, I w → w.grownBy w' row → (∀ i, row = some i → Q i) → I w') (_ : ∀ w v, I w → I (w.setCell ⟨B, K.q + 2, none⟩ v)) (_ : ∀ w s j v, s ∈ L → j < s.C → I w → I (w.setCell ⟨s.g, s.o + j, none⟩ v)),
  Calls Tryz.prog F #[.pointer (some ⟨B, 0, none⟩), .int .i64 id0, .int .i64 t] w fun en w' => en = .returned (.int .i64 ((id0 + L.length : Nat) : Int)) ∧ ∃ vg M, M.length = L.length ∧ Gs K Q HH I w' B ps vb vg r c base id0 L M (ktn t L.length)
theorem ktn_allN (t n : Nat) {M : List Lst} (h : M.length = n) : ∀ k, k < M.length → ktn t n k = ktn (t + 1) 0 k := fun k hk => by
 unfold ktn
 rw [if_pos (by omega), if_neg (by omega)]
structure Gnone (w : World) (B q : Nat) : Prop where
 c : w.cell? ⟨B, q + 2, none⟩ = some (.slice none 0 0)
 f : w.frozen? ⟨B, q + 2, none⟩ = false
theorem Gnone.kept {w w' : World} {B q : Nat} {row : Option Nat} (h : Gnone w B q) (hg : w.grownBy w' row) (hne : some B ≠ row) : Gnone w' B q :=
 ⟨hg.cell h.c hne, (World.frozen?_of_block (hg.block B (World.block_lt_of_cell? w _ h.c) hne)).trans h.f⟩
theorem Gnone.set {w : World} {B q : Nat} (h : Gnone w B q) (i : Nat) (u : Value) (hi : i ≠ q + 2) : Gnone (w.setCell ⟨B, i, none⟩ u) B q :=
 ⟨by rw [World.cell?_setCell_other _ _ _ _ (off_ne hi)]; exact h.c, by simpa using h.f⟩
theorem Kwr.ks {K : Kdk} {I : World → Prop} {w : World} {B : Nat} {ps : Int} {vb : Value} {r c : Nat} {L : List Lst} {id0 : Nat} (h : Kwr K I w B ps vb r c L id0 L.length 0) : Ks K w B ps vb r c L id0 :=
 ⟨h.bc, fun k s hk => h.done k s (List.getElem?_eq_some_iff.1 hk).1 hk⟩
def knD (K : Kdk) (B base : Nat) (vb : Value) (r c : Nat) (L : List Lst) (U : World → Prop) : Kn where
 n := L.length
 own := fun b => ∃ s ∈ L, s.g = b
 need := fun b => (∃ s ∈ L, s.g = b) ∨ b = r
 Z := fun w => U w ∧ Kc K w B 0 vb r c L ∧ Gnone w B K.q
 T := fun p w => Kc K w B p vb r c L ∧ Gnone w B K.q
 M := fun _ p id0 w => Ks K w B p vb r c L id0 ∧ Gnone w B K.q
 G := fun S t id0 w => ∃ vg M, (if t = 0 then M = [] else M.length = L.length) ∧ Gbk K S w B 1 vb vg r c base id0 L M (ktn t 0)
theorem knD_ok {K : Kdk} {B base j : Nat} {vb : Value} {r c : Nat} {L : List Lst} {U : World → Prop} (hq : K.q = 3 * j + 2) (hBb : B < base) (hr : r < base ∧ r ≠ B) (hL : ∀ s ∈ L, s.g < base ∧ s.g ≠ B ∧ s.n ≤ 1099511620000)
  (hun : ∀ w, U w → Kc K w B 0 vb r c L → Calls Tryz.prog (fnU j) #[.pointer (some ⟨B, 0, none⟩)] w fun en w' => en = .returned (.bool true) ∧ w.grownBy w' none) (hUk : ∀ v v', U v → v.grownBy v' none → U v') (hwr : WriteC K (fnW j)) (hho : HoldC K (fnH j)) (hgr : GrowC K (fnG j)) : KnOk B base (knD K B base vb r c L U) j where
 untouched := fun w h => hun w h.1 h.2.1
 write := fun p id0 idI I w hp e hid h hb hI hst => by
  subst e
  refine (hwr B p hp vb r c L id0 (fun v => I v ∧ w.heap.size ≤ v.heap.size ∧ Gnone v B K.q) w hid h.1 ⟨hI, Nat.le_refl _, h.2⟩ ?_ ?_).mono ?_
  ·rintro v s i u hs hi ⟨a1, a2, a3⟩
   have hg := kset_grown v s.g (s.o + i) u
   exact ⟨hst _ _ _ a1 hg (fun b e => ⟨s, hs, Option.some.inj e⟩), Nat.le_trans a2 hg.size, a3.kept hg (fun e => (hL s hs).2.1 (Option.some.inj e).symm)⟩
  ·rintro v v' hg ⟨a1, a2, a3⟩
   exact ⟨hst _ _ _ a1 hg (by simp), Nat.le_trans a2 hg.size, a3.kept hg (by simp)⟩
  ·rintro en w' ⟨rfl, hk⟩
   exact ⟨rfl, hk.inv.2.1, hk.inv.1, fun _ => False, ⟨hk.ks, hk.inv.2.2⟩, fun i hi => hi.elim⟩
 hold := fun S p id0 idI w hp e hid h => by
  subst e
  exact hho B p hp vb _ r c 0 0 L [] id0 w hid h.1.bc (kg_none h.2.c) (Or.inr rfl) h.1.marks
 grow := fun S t id0 idI tI I w ht e et hid h hS hb hI hst hIb => by
  subst e et
  obtain ⟨vg, M, hM, hG⟩ := h
  have hsz := hG.gs.rB
  refine (hgr B 1 (by omega) vb vg r c base id0 L M t _ _ I w (hG.use I hI) (by omega) hM hr.2 hid (fun s hs => by have := (hL s hs).2.2; omega) (fun v v' row h1 h2 h3 => hst v v' row h1 h2 (fun i hi => Or.inr (h3 i hi))) (fun v u h1 => by have := hIb v u h1; rw [hq]; exact this) (fun v s i u hs _ h1 => hst v _ (some s.g) h1 (kset_grown v s.g (s.o + i) u) (fun b e => Or.inl ⟨s, hs, Option.some.inj e⟩))).mono ?_
  rintro en w' ⟨rfl, vg', M', hM', hG'⟩
  refine ⟨rfl, hG'.rB.2.2.2.2, hG'.inv, _, ⟨vg', M', by rw [if_neg (by omega)]; exact hM', (Gbk.of hG' (fun i hi => (hS i hi).1) hb).tn (ktn_allN t L.length hM')⟩, fun i hi => hi⟩
 holdG := fun S id0 idI w e hid h => by
  subst e
  obtain ⟨vg, M, hM, hG⟩ := h
  obtain ⟨r2, c2, hk⟩ := hG.kg
  exact hho B 1 (by omega) vb vg r c r2 c2 L M id0 w hid hG.gs.bc hk (Or.inl (by rw [if_neg (by omega)] at hM; exact hM)) hG.gs.lm
 zKept := fun v v' h hg => ⟨hUk v v' h.1 hg, h.2.1.kept hg (by simp) (by simp) (by simp), h.2.2.kept hg (by simp)⟩
 zt := fun v h => h.2
 tKept := fun p v v' row h hg hrw => ⟨h.1.kept hg (fun e => (hrw B e.symm).1 rfl) (fun e => (hrw r e.symm).2 (Or.inr rfl)) (fun s hs e => (hrw _ e.symm).2 (Or.inl ⟨s, hs, rfl⟩)), h.2.kept hg (fun e => (hrw B e.symm).1 rfl)⟩
 tPass := fun p p' v h => ⟨h.1.pass1 p' hr.2 (by omega), h.2.set 1 _ (by omega)⟩
 mt := fun S p id0 v h => ⟨h.1.bc, h.2⟩
 mKept := fun S p id0 v v' row h hg hrw => ⟨h.1.kept hg (fun e => (hrw B e.symm).1 rfl) (fun e => (hrw r e.symm).2.1 (Or.inr rfl)) (fun s hs e => (hrw _ e.symm).2.1 (Or.inl ⟨s, hs, rfl⟩)), h.2.kept hg (fun e => (hrw B e.symm).1 rfl)⟩
 mg := fun S id0 v h hb hS => ⟨_, [], rfl, by
  have h1 := h.1.gb base ⟨h.2.c, h.2.f⟩ (fun s hs => (hL s hs).1) hr.1 hBb hb
  exact ⟨h1.gs, fun i hi => by simp [Value.ownBlock] at hi, fun k m hm => by simp at hm, hS⟩⟩
 gKept := fun S t id0 v v' row ⟨vg, M, hM, hG⟩ hg hrw => ⟨vg, M, hM, hG.kept hg (fun i hi => ⟨(hrw i hi).1, fun e => (hrw i hi).2.1 (Or.inr e), fun s hs e => (hrw i hi).2.1 (Or.inl ⟨s, hs, e⟩), (hrw i hi).2.2⟩)⟩
 gSetB := fun S t id0 v i u ⟨vg, M, hM, hG⟩ h1 h2 h3 => ⟨vg, M, hM, hG.setB i u h1 (by omega) (by omega) hr.2⟩
 sub := fun i h => Or.inl h
 old := fun i h => by
  rcases h with ⟨s, hs, rfl⟩ | rfl
  ·exact (hL s hs).1
  ·exact hr.1
 nB := fun i h => by
  rcases h with ⟨s, hs, rfl⟩ | rfl
  ·exact (hL s hs).2.1
  ·exact hr.2
end Go.Proofs.YthodgddoolbenaaGreatDoor
