import Derived.Test.YtedpeggdbedmiaaGreatDoorQ14
import Derived.Test.YtedpeggdbedmiaaGreatDoorQ24
import Derived.Test.YtedpeggdbedmiaaGreatDoorQ4
import Derived.Test.YtedpeggdbedmiaaGreatDoorQ22
import Derived.Test.YtedpeggdbedmiaaGreatDoorQ13
import Derived.Test.YtedpeggdbedmiaaGreatDoorQ21
import Derived.Test.YtedpeggdbedmiaaGreatDoorQ12
import Derived.Test.YtedpeggdbedmiaaGreatDoorQ25
import Derived.Test.YtedpeggdbedmiaaGreatDoorQ11
import Derived.Test.YtedpeggdbedmiaaGreatDoorQ6
import Derived.Test.YtedpeggdbedmiaaGreatDoorQ5
namespace Go.Proofs.YtedpeggdbedmiaaGreatDoor
open Go.RowKit
def kdS (j : Nat) : Kdk := match j with
 | 0 => kdB
 | 9 => kdV
 | j => ⟨3 * j + 2, 1, 0, 0, fun _ _ _ => .nilIface⟩
def SameS (j : Nat) : World → Nat → (Nat → Value) → Lst → Value → Prop := match j with
 | 0 => SameB
 | 9 => SameV
 | _ => fun _ _ _ _ _ => True
theorem kds_ok : Kds kdS SameS where
 q := fun j hj => by
  match j, hj with
  | 0, _ => rfl
  | 1, _ => rfl
  | 2, _ => rfl
  | 3, _ => rfl
  | 4, _ => rfl
  | 5, _ => rfl
  | 6, _ => rfl
  | 7, _ => rfl
  | 8, _ => rfl
  | 9, _ => rfl
  | 10, _ => rfl
  | 11, _ => rfl
  | 12, _ => rfl
  | n + 13, h => omega
 s := fun j hj w w' base cs cs' k => by
  match j, hj with
  | 0, _ => exact SameB.kee k
  | 1, _ => exact fun _ _ h => h
  | 2, _ => exact fun _ _ h => h
  | 3, _ => exact fun _ _ h => h
  | 4, _ => exact fun _ _ h => h
  | 5, _ => exact fun _ _ h => h
  | 6, _ => exact fun _ _ h => h
  | 7, _ => exact fun _ _ h => h
  | 8, _ => exact fun _ _ h => h
  | 9, _ => exact SameV.kee k
  | 10, _ => exact fun _ _ h => h
  | 11, _ => exact fun _ _ h => h
  | 12, _ => exact fun _ _ h => h
  | n + 13, h => omega
def unt0 (B : Nat) (vw : Value) (sr sc : Nat) (xs yj : List Value) (v : World) : Prop := v.cell? ⟨B, 3, none⟩ = some vw ∧ Kro v vw sr sc yj ∧ ∀ (k : Nat) (x y : Value), xs[k]? = some x → yj[k]? = some y → ∃ ao n ca bo cb zs, x = .slice ao n ca ∧ y = .slice bo n cb ∧ Byt v ao n ca zs ∧ Byt v bo n cb zs
theorem unt0_kept {B : Nat} {vw : Value} {sr sc : Nat} {xs yj : List Value} (v v' : World) (h : unt0 B vw sr sc xs yj v) (hg : v.grownBy v' none) : unt0 B vw sr sc xs yj v' :=
 ⟨hg.cell h.1 (by simp), h.2.1.kept hg (by simp), fun k x y hx hy => by
  obtain ⟨ao, n, ca, bo, cb, zs, e1, e2, e3, e4⟩ := h.2.2 k x y hx hy
  exact ⟨ao, n, ca, bo, cb, zs, e1, e2, e3.keptN hg, e4.keptN hg⟩⟩
theorem unt0_of {v : World} {base : Nat} {cs : Nat → Value} {s : Lst} {x y : Value} (hsame : SameB v base cs s y) (hx : s.v = x) (_hsn : s.n ≤ 1099511620000) : ∃ ao n ca bo cb zs, x = .slice ao n ca ∧ y = .slice bo n cb ∧ Byt v ao n ca zs ∧ Byt v bo n cb zs := by
 obtain ⟨ao, bo, cb, zs, f1, f2, f3, f4⟩ := hsame
 exact ⟨ao, s.n, s.c, bo, cb, zs, by rw [← hx, f1], f2, f3.by', f4.by'⟩
def unt9 (B : Nat) (vw : Value) (sr sc : Nat) (xs yj : List Value) (v : World) : Prop := v.cell? ⟨B, 30, none⟩ = some vw ∧ Kro v vw sr sc yj ∧ ∀ (k : Nat) (x y : Value), xs[k]? = some x → yj[k]? = some y → ∃ ao n ca bo cb, ∃ Z Y : List (Nat × Nat × List Int), x = .slice ao n ca ∧ y = .slice bo n cb ∧ Wc v ao Z ∧ Wc v bo Y ∧ Z.map ab12 = Y.map ab12 ∧ Z.length = n ∧ n ≤ 1099511620000
theorem unt9_kept {B : Nat} {vw : Value} {sr sc : Nat} {xs yj : List Value} (v v' : World) (h : unt9 B vw sr sc xs yj v) (hg : v.grownBy v' none) : unt9 B vw sr sc xs yj v' :=
 ⟨hg.cell h.1 (by simp), h.2.1.kept hg (by simp), fun k x y hx hy => by
  obtain ⟨ao, n, ca, bo, cb, Z, Y, e1, e2, e3, e4, e5⟩ := h.2.2 k x y hx hy
  exact ⟨ao, n, ca, bo, cb, Z, Y, e1, e2, e3.keptN hg, e4.keptN hg, e5⟩⟩
theorem unt9_of {v : World} {base : Nat} {cs : Nat → Value} {s : Lst} {x y : Value} (hsame : SameV v base cs s y) (hx : s.v = x) (hsn : s.n ≤ 1099511620000) : ∃ ao n ca bo cb, ∃ Z Y : List (Nat × Nat × List Int), x = .slice ao n ca ∧ y = .slice bo n cb ∧ Wc v ao Z ∧ Wc v bo Y ∧ Z.map ab12 = Y.map ab12 ∧ Z.length = n ∧ n ≤ 1099511620000 := by
 obtain ⟨ao, bo, cb, Z, Y, f1, f2, f3, f4, f5, f6⟩ := hsame
 exact ⟨ao, s.n, s.c, bo, cb, Z, Y, by rw [← hx, f1], f2, f3.wc, f4.wc, f5, f6, hsn⟩
def kfam (a0 a9 : Kn) (B j : Nat) : Kn := match j with
 | 0 => a0
 | 9 => a9
 | j => knE B j
theorem kro_at {w : World} {base n : Nat} {v : Value} {xs : List Value} {t : TypeId} (h : w.ownsRow base t 1 v n xs) : ∃ r c, Kro w v r c xs ∧ (v.ownBlock = some r ∨ r = 0) := by
 have hl := h.1
 rw [Nat.mul_one] at hl
 rcases h.2 with ⟨rfl, h0⟩ | ⟨g, cap, cur, rfl, hb, hg, hn, hm, hs, ht⟩
 ·refine ⟨0, 0, ⟨⟨none, by rw [hl, h0], fun hp => by omega⟩, fun i x hx => ?_⟩, Or.inr rfl⟩
  have := (List.getElem?_eq_some_iff.1 hx).1
  omega
 ·refine ⟨g, cap, ⟨⟨_, by rw [hl], fun _ => rfl⟩, fun i x hx => ?_⟩, Or.inl rfl⟩
  rw [cell_of_row w g i _ _ (0, 0) hg, ← Array.getElem?_toList]
  rw [← ht, List.getElem?_take] at hx
  split at hx
  ·exact hx
  ·cases hx
theorem kst_finish3 {S : Nat → Prop} {w w0 : World} {B base : Nat} {cs : Nat → Value} {L : Nat → List Lst} {ys : Nat → List Value} (h : Kst kdS SameS w B base cs L ys) (hE : ∀ j, j < 13 → j ≠ 0 → j ≠ 9 → L j = []) (hm : (L 0).length + (L 9).length ≤ 1000000) (hg : w0.grownBy w none) (hB : w0.heap.size ≤ B) (h00 : 0 < w0.heap.size) (hS : Strg cs S) (hSl : ∀ k, S k → k < w.heap.size) :
  Calls Tryz.prog 15 #[.pointer (some ⟨B, 0, none⟩)] w fun en w' => en = .returned (.bool true) ∧ w0.grownBy w' none ∧ w.heap.size ≤ w'.heap.size ∧ ∀ k, (S k ∨ k < base ∧ k ≠ B) → w'.heap[k]? = w.heap[k]? := by
 have hBb := h.t.bB
 have hbx := h.t.box
 have hsz := hg.size
 have pass : w.cell? ⟨B, 1, none⟩ = some (.int .i64 0) := by rw [← h.t.c1]; exact hbx.cell 1 (by omega)
 have hfr : ∀ j, j < 13 → ∀ s ∈ L j, s.g < w.heap.size ∧ s.g ≠ B ∧ s.n ≤ 1099511620000 := fun j hj s hs => by
  obtain ⟨_, _, a3, a4, a5⟩ := (h.k j hj).ok s hs
  exact ⟨a4.lt, by have := a5.1; omega, a3⟩
 have hge : ∀ j, j < 13 → ∀ s ∈ L j, base ≤ s.g := fun j hj s hs => ((h.k j hj).ok s hs).2.2.2.2.1
 have gno : ∀ j, j < 13 → Gnone w B (3 * j + 2) := fun j hj => ⟨by have := hbx.cell (3 * j + 4) (by omega); rw [h.t.gn j hj] at this; exact this, hbx.fz (3 * j + 4) (by omega)⟩
 have p0 : Kpn kdB w base cs (L 0) (ys 0) SameB := h.k 0 (by omega)
 obtain ⟨r0, c0, k0, o0⟩ := kro_at p0.ob
 obtain ⟨s0, d0, l0, _⟩ := kro_at p0.ow
 have rb0 : r0 < w.heap.size ∧ r0 ≠ B ∧ ((cs 2).ownBlock = some r0 ∨ r0 < base) := by
  rcases o0 with e | e
  ·have := h.t.bk 2 (by omega) _ e; exact ⟨this.2, by omega, Or.inl e⟩
  ·exact ⟨by omega, by omega, Or.inr (by omega)⟩
 have kc0 : Kc kdB w B 0 (cs 2) r0 c0 (L 0) := ⟨pass, hbx.cell 2 (by omega), k0, fun s hs => by
  obtain ⟨a1, a2, _, a4, a5⟩ := p0.ok s hs
  refine ⟨a1, a2, by have := a5.1; omega, fun e => ?_⟩
  rcases rb0.2.2 with e' | e'
  ·exact a5.2 2 (by omega) (by rw [e]; exact e')
  ·have := a5.1; omega, p0.ap, by omega⟩
 have ly0 : (L 0).length = (ys 0).length := by have := p0.ow.1; simpa using this.symm
 have u0 : unt0 B (cs 3) s0 d0 ((L 0).map Lst.v) (ys 0) w := ⟨hbx.cell 3 (by omega), l0, fun k x y hx hy => by
  rw [List.getElem?_map] at hx
  cases hs : (L 0)[k]? with
  | none => rw [hs] at hx; simp at hx
  | some s =>
   rw [hs] at hx
   simp at hx
   exact unt0_of (p0.same k s y hs hy) hx (p0.ok s (List.mem_of_getElem? hs)).2.2.1⟩
 have ok0 : KnOk B w.heap.size (knD kdB B w.heap.size (cs 2) r0 c0 (L 0) (unt0 B (cs 3) s0 d0 ((L 0).map Lst.v) (ys 0))) 0 :=
  knD_ok rfl (by omega) ⟨rb0.1, rb0.2.1⟩ (hfr 0 (by omega)) (fun v hv hk => untouched_bytes B _ _ r0 c0 s0 d0 ((L 0).map Lst.v) (ys 0) v hk.lists hv.1 hk.row hv.2.1 (by rw [List.length_map]; exact ly0) (by rw [List.length_map]; exact hk.many) hv.2.2) unt0_kept
   (fun B ps hp vb r c L id0 I w h1 h2 h3 h4 h5 => write_bytes B ps hp vb r c L id0 I w h1 h2 h3 h4 h5) (fun B ps hp vb vg r c r2 c2 L M id0 w h1 h2 h3 h4 h5 => hold_bytes B ps hp vb vg r c r2 c2 L M id0 w h1 h2 h3 h4 h5) (fun B ps hp vb vg r c bs id0 L M t Q HH I w h1 h2 h3 h4 h5 h6 h7 h8 h9 => grow_bytes B ps hp vb vg r c bs id0 L M t Q HH I w h1 h2 h3 h4 h5 h6 h7 h8 h9)
 have p9 : Kpn kdV w base cs (L 9) (ys 9) SameV := h.k 9 (by omega)
 obtain ⟨r9, c9, k9, o9⟩ := kro_at p9.ob
 obtain ⟨s9, d9, l9, _⟩ := kro_at p9.ow
 have rb9 : r9 < w.heap.size ∧ r9 ≠ B ∧ ((cs 29).ownBlock = some r9 ∨ r9 < base) := by
  rcases o9 with e | e
  ·have := h.t.bk 29 (by omega) _ e; exact ⟨this.2, by omega, Or.inl e⟩
  ·exact ⟨by omega, by omega, Or.inr (by omega)⟩
 have kc9 : Kc kdV w B 0 (cs 29) r9 c9 (L 9) := ⟨pass, hbx.cell 29 (by omega), k9, fun s hs => by
  obtain ⟨a1, a2, _, a4, a5⟩ := p9.ok s hs
  refine ⟨a1, a2, by have := a5.1; omega, fun e => ?_⟩
  rcases rb9.2.2 with e' | e'
  ·exact a5.2 29 (by omega) (by rw [e]; exact e')
  ·have := a5.1; omega, p9.ap, by omega⟩
 have ly9 : (L 9).length = (ys 9).length := by have := p9.ow.1; simpa using this.symm
 have u9 : unt9 B (cs 30) s9 d9 ((L 9).map Lst.v) (ys 9) w := ⟨hbx.cell 30 (by omega), l9, fun k x y hx hy => by
  rw [List.getElem?_map] at hx
  cases hs : (L 9)[k]? with
  | none => rw [hs] at hx; simp at hx
  | some s =>
   rw [hs] at hx
   simp at hx
   exact unt9_of (p9.same k s y hs hy) hx (p9.ok s (List.mem_of_getElem? hs)).2.2.1⟩
 have ok9 : KnOk B w.heap.size (knD kdV B w.heap.size (cs 29) r9 c9 (L 9) (unt9 B (cs 30) s9 d9 ((L 9).map Lst.v) (ys 9))) 9 :=
  knD_ok rfl (by omega) ⟨rb9.1, rb9.2.1⟩ (hfr 9 (by omega)) (fun v hv hk => untouched_writes B _ _ r9 c9 s9 d9 ((L 9).map Lst.v) (ys 9) v hk.lists hv.1 hk.row hv.2.1 (by rw [List.length_map]; exact ly9) (by rw [List.length_map]; exact hk.many) hv.2.2) unt9_kept
   (fun B ps hp vb r c L id0 I w h1 h2 h3 h4 h5 => write_writes B ps hp vb r c L id0 I w h1 h2 h3 h4 h5) (fun B ps hp vb vg r c r2 c2 L M id0 w h1 h2 h3 h4 h5 => hold_writes B ps hp vb vg r c r2 c2 L M id0 w h1 h2 h3 h4 h5) (fun B ps hp vb vg r c bs id0 L M t Q HH I w h1 h2 h3 h4 h5 h6 h7 h8 h9 => grow_writes B ps hp vb vg r c bs id0 L M t Q HH I w h1 h2 h3 h4 h5 h6 h7 h8 h9)
 have hall : ∀ j, j < 13 → KnOk B w.heap.size (kfam (knD kdB B w.heap.size (cs 2) r0 c0 (L 0) (unt0 B (cs 3) s0 d0 ((L 0).map Lst.v) (ys 0))) (knD kdV B w.heap.size (cs 29) r9 c9 (L 9) (unt9 B (cs 30) s9 d9 ((L 9).map Lst.v) (ys 9))) B j) j := fun j hj => by
  match j, hj with
  | 0, _ => exact ok0
  | 1, _ => exact knE_ints B _
  | 2, _ => exact knE_texts B _
  | 3, _ => exact knE_byteLists B _
  | 4, _ => exact knE_intLists B _
  | 5, _ => exact knE_pairs B _
  | 6, _ => exact knE_items B _
  | 7, _ => exact knE_kids B _
  | 8, _ => exact knE_nodes B _
  | 9, _ => exact ok9
  | 10, _ => exact knE_changes B _
  | 11, _ => exact knE_fates B _
  | 12, _ => exact knE_ops B _
  | n + 13, h => omega
 have hown : ∀ j, j < 13 → ∀ b, (kfam (knD kdB B w.heap.size (cs 2) r0 c0 (L 0) (unt0 B (cs 3) s0 d0 ((L 0).map Lst.v) (ys 0))) (knD kdV B w.heap.size (cs 29) r9 c9 (L 9) (unt9 B (cs 30) s9 d9 ((L 9).map Lst.v) (ys 9))) B j).own b → ∃ s ∈ L j, s.g = b := fun j hj b hb => by
  match j, hj with
  | 0, _ => exact hb
  | 1, _ => exact hb.elim
  | 2, _ => exact hb.elim
  | 3, _ => exact hb.elim
  | 4, _ => exact hb.elim
  | 5, _ => exact hb.elim
  | 6, _ => exact hb.elim
  | 7, _ => exact hb.elim
  | 8, _ => exact hb.elim
  | 9, _ => exact hb
  | 10, _ => exact hb.elim
  | 11, _ => exact hb.elim
  | 12, _ => exact hb.elim
  | n + 13, h => omega
 have hneed : ∀ j, j < 13 → ∀ b, (kfam (knD kdB B w.heap.size (cs 2) r0 c0 (L 0) (unt0 B (cs 3) s0 d0 ((L 0).map Lst.v) (ys 0))) (knD kdV B w.heap.size (cs 29) r9 c9 (L 9) (unt9 B (cs 30) s9 d9 ((L 9).map Lst.v) (ys 9))) B j).need b → (∃ s ∈ L j, s.g = b) ∨ (cs (3 * j + 2)).ownBlock = some b ∨ b < base := fun j hj b hb => by
  match j, hj with
  | 0, _ =>
   rcases hb with hb | hb
   ·exact Or.inl hb
   ·subst hb; exact Or.inr rb0.2.2
  | 1, _ => exact hb.elim
  | 2, _ => exact hb.elim
  | 3, _ => exact hb.elim
  | 4, _ => exact hb.elim
  | 5, _ => exact hb.elim
  | 6, _ => exact hb.elim
  | 7, _ => exact hb.elim
  | 8, _ => exact hb.elim
  | 9, _ =>
   rcases hb with hb | hb
   ·exact Or.inl hb
   ·subst hb; exact Or.inr rb9.2.2
  | 10, _ => exact hb.elim
  | 11, _ => exact hb.elim
  | 12, _ => exact hb.elim
  | n + 13, h => omega
 have hzz : ∀ j, j < 13 → (kfam (knD kdB B w.heap.size (cs 2) r0 c0 (L 0) (unt0 B (cs 3) s0 d0 ((L 0).map Lst.v) (ys 0))) (knD kdV B w.heap.size (cs 29) r9 c9 (L 9) (unt9 B (cs 30) s9 d9 ((L 9).map Lst.v) (ys 9))) B j).Z w := fun j hj => by
  match j, hj with
  | 0, _ => exact ⟨u0, kc0, gno 0 (by omega)⟩
  | 1, _ =>
   have hp := (h.k 1 (by omega)).ob
   rw [hE 1 (by omega) (by omega) (by omega)] at hp
   obtain ⟨ao, c, e⟩ := own_sl hp
   exact ⟨ao, c, by have := hbx.cell 5 (by omega); rw [show cs 5 = _ from e] at this; exact this⟩
  | 2, _ =>
   have hp := (h.k 2 (by omega)).ob
   rw [hE 2 (by omega) (by omega) (by omega)] at hp
   obtain ⟨ao, c, e⟩ := own_sl hp
   exact ⟨ao, c, by have := hbx.cell 8 (by omega); rw [show cs 8 = _ from e] at this; exact this⟩
  | 3, _ =>
   have hp := (h.k 3 (by omega)).ob
   rw [hE 3 (by omega) (by omega) (by omega)] at hp
   obtain ⟨ao, c, e⟩ := own_sl hp
   exact ⟨ao, c, by have := hbx.cell 11 (by omega); rw [show cs 11 = _ from e] at this; exact this⟩
  | 4, _ =>
   have hp := (h.k 4 (by omega)).ob
   rw [hE 4 (by omega) (by omega) (by omega)] at hp
   obtain ⟨ao, c, e⟩ := own_sl hp
   exact ⟨ao, c, by have := hbx.cell 14 (by omega); rw [show cs 14 = _ from e] at this; exact this⟩
  | 5, _ =>
   have hp := (h.k 5 (by omega)).ob
   rw [hE 5 (by omega) (by omega) (by omega)] at hp
   obtain ⟨ao, c, e⟩ := own_sl hp
   exact ⟨ao, c, by have := hbx.cell 17 (by omega); rw [show cs 17 = _ from e] at this; exact this⟩
  | 6, _ =>
   have hp := (h.k 6 (by omega)).ob
   rw [hE 6 (by omega) (by omega) (by omega)] at hp
   obtain ⟨ao, c, e⟩ := own_sl hp
   exact ⟨ao, c, by have := hbx.cell 20 (by omega); rw [show cs 20 = _ from e] at this; exact this⟩
  | 7, _ =>
   have hp := (h.k 7 (by omega)).ob
   rw [hE 7 (by omega) (by omega) (by omega)] at hp
   obtain ⟨ao, c, e⟩ := own_sl hp
   exact ⟨ao, c, by have := hbx.cell 23 (by omega); rw [show cs 23 = _ from e] at this; exact this⟩
  | 8, _ =>
   have hp := (h.k 8 (by omega)).ob
   rw [hE 8 (by omega) (by omega) (by omega)] at hp
   obtain ⟨ao, c, e⟩ := own_sl hp
   exact ⟨ao, c, by have := hbx.cell 26 (by omega); rw [show cs 26 = _ from e] at this; exact this⟩
  | 9, _ => exact ⟨u9, kc9, gno 9 (by omega)⟩
  | 10, _ =>
   have hp := (h.k 10 (by omega)).ob
   rw [hE 10 (by omega) (by omega) (by omega)] at hp
   obtain ⟨ao, c, e⟩ := own_sl hp
   exact ⟨ao, c, by have := hbx.cell 32 (by omega); rw [show cs 32 = _ from e] at this; exact this⟩
  | 11, _ =>
   have hp := (h.k 11 (by omega)).ob
   rw [hE 11 (by omega) (by omega) (by omega)] at hp
   obtain ⟨ao, c, e⟩ := own_sl hp
   exact ⟨ao, c, by have := hbx.cell 35 (by omega); rw [show cs 35 = _ from e] at this; exact this⟩
  | 12, _ =>
   have hp := (h.k 12 (by omega)).ob
   rw [hE 12 (by omega) (by omega) (by omega)] at hp
   obtain ⟨ao, c, e⟩ := own_sl hp
   exact ⟨ao, c, by have := hbx.cell 38 (by omega); rw [show cs 38 = _ from e] at this; exact this⟩
  | n + 13, h => omega
 have het : ∀ i j, i < 13 → j < 13 → i ≠ j → ∀ s ∈ L i, ∀ u ∈ L j, s.g ≠ u.g := fun i j hi hj hne s hs u hu => by
  have hi' : i = 0 ∨ i = 9 := by
   apply Classical.byContradiction
   intro hc
   have := hE i hi (fun e => hc (by simp [e])) (fun e => hc (by simp [e]))
   rw [this] at hs
   simp at hs
  have hj' : j = 0 ∨ j = 9 := by
   apply Classical.byContradiction
   intro hc
   have := hE j hj (fun e => hc (by simp [e])) (fun e => hc (by simp [e]))
   rw [this] at hu
   simp at hu
  refine ((h.k i hi).ok s hs).2.2.2.1.ne ((h.k j hj).ok u hu).2.2.2.1 ?_
  rcases hi' with rfl | rfl <;> rcases hj' with rfl | rfl <;> first | exact absurd rfl hne | decide
 have hX : Cross (kfam (knD kdB B w.heap.size (cs 2) r0 c0 (L 0) (unt0 B (cs 3) s0 d0 ((L 0).map Lst.v) (ys 0))) (knD kdV B w.heap.size (cs 29) r9 c9 (L 9) (unt9 B (cs 30) s9 d9 ((L 9).map Lst.v) (ys 9))) B) := fun i j hi hj hne b hb hn => by
  obtain ⟨s, hs, rfl⟩ := hown i hi b hb
  have hf := ((h.k i hi).ok s hs).2.2.2.2
  rcases hneed j hj _ hn with ⟨u, hu, e⟩ | e | e
  ·exact het i j hi hj hne s hs u hu e.symm
  ·exact hf.2 _ (by omega) e
  ·have := hf.1; omega
 have nB : ¬ (S B ∨ B < base ∧ B ≠ B) := fun hx => by
  rcases hx with hx | hx
  ·have e := (hS (42 + B) (by omega)).1 (by rw [Nat.add_sub_cancel_left]; exact hx)
   rw [Nat.add_sub_cancel_left] at e
   exact h.t.notB _ (by omega) e
  ·exact hx.2 rfl
 have hStl : ∀ k, (S k ∨ k < base ∧ k ≠ B) → k < w.heap.size := fun k hx => hx.elim (hSl k) (fun y => by omega)
 refine kn_finish (I := fun v => w0.grownBy v none ∧ w.heap.size ≤ v.heap.size ∧ ∀ k, (S k ∨ k < base ∧ k ≠ B) → v.heap[k]? = w.heap[k]?) (by omega) hall hX (fun v v' row hv hg' hr => ?_) (fun v i u hv => ⟨grown_new hv.1 (kset_grown v B i u) (by omega), by have := (kset_grown v B i u).size; omega, fun k hk => ((kset_grown v B i u).block k (by have := hStl k hk; omega) (fun e => nB (by have e2 := Option.some.inj e; rw [e2] at hk; exact hk))).trans (hv.2.2 k hk)⟩) ?_ w (Nat.le_refl _) hzz (by rw [← h.t.c0]; exact hbx.cell 0 (by omega)) pass (hbx.fz 1 (by omega)) ⟨hg, Nat.le_refl _, fun k hk => rfl⟩ |>.mono (fun e w' hq => ⟨hq.1, hq.2.1, hq.2.2.1, hq.2.2.2⟩)
 ·have hrow : ∀ i, row = some i → (w.heap.size ≤ i ∨ base ≤ i) ∧ ¬ (S i ∨ i < base ∧ i ≠ B) := fun i e => by
   rcases hr i e with ⟨j, hj, ho⟩ | hi
   ·obtain ⟨s, hs, rfl⟩ := hown j hj i ho
    exact ⟨Or.inr (hge j hj s hs), fun hx => hx.elim (hS.not ((h.k j hj).ok s hs).2.2.2.2) (fun y => by have := hge j hj s hs; omega)⟩
   ·exact ⟨Or.inl hi, fun hx => by have := hStl i hx; omega⟩
  refine ⟨?_, Nat.le_trans hv.2.1 hg'.size, fun k hk => (hg'.block k (by have := hStl k hk; have := hv.2.1; omega) (fun e => (hrow k e.symm).2 hk)).trans (hv.2.2 k hk)⟩
  cases row with
  | none => exact grown_trans hv.1 hg'
  | some i => exact grown_new hv.1 hg' (by rcases (hrow i rfl).1 with h1 | h1 <;> omega)
 ·simp only [kid0, kfam, knD, knE]
  omega
end Go.Proofs.YtedpeggdbedmiaaGreatDoor
