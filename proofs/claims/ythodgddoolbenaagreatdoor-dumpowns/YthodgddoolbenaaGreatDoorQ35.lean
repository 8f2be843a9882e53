import Derived.Test.YthodgddoolbenaaGreatDoorQ10
import Derived.Test.YthodgddoolbenaaGreatDoorQ9
import Derived.Test.YthodgddoolbenaaGreatDoorQ8
import Derived.Test.YthodgddoolbenaaGreatDoorQ34
import Derived.Test.YthodgddoolbenaaGreatDoorQ6
import Derived.Test.YthodgddoolbenaaGreatDoorQ5
import Derived.Test.YthodgddoolbenaaGreatDoorQ29
import Derived.Test.YthodgddoolbenaaGreatDoorQ23
import Derived.Test.YthodgddoolbenaaGreatDoorQ32
import Derived.Test.YthodgddoolbenaaGreatDoorQ33
import Derived.Test.YthodgddoolbenaaGreatDoorQ30
namespace Go.Proofs.YthodgddoolbenaaGreatDoor
open Go.RowKit
def kdS (j : Nat) : Kdk := match j with
 | 0 => kdB
 | 5 => (kdP (fun _ _ _ => .nilIface))
 | j => ⟨3 * j + 2, 1, 0, 0, fun _ _ _ => .nilIface⟩
def SameS (j : Nat) : World → Nat → (Nat → Value) → Lst → Value → Prop := match j with
 | 0 => SameB
 | 5 => SameP
 | _ => fun _ _ _ _ _ => True
theorem kds_ok : Kds kdS SameS where
 q := fun j hj => by
  match j, hj with
  | 0, _ => rfl
  | 1, _ => rfl
  | 2, _ => rfl
  | 3, _ => rfl
  | 4, _ => rfl
  | 5, _ => rfl
  | 6, _ => rfl
  | 7, _ => rfl
  | 8, _ => rfl
  | 9, _ => rfl
  | 10, _ => rfl
  | 11, _ => rfl
  | 12, _ => rfl
  | n + 13, h => omega
 s := fun j hj w w' base cs cs' k => by
  match j, hj with
  | 0, _ => exact SameB.kee k
  | 1, _ => exact fun _ _ h => h
  | 2, _ => exact fun _ _ h => h
  | 3, _ => exact fun _ _ h => h
  | 4, _ => exact fun _ _ h => h
  | 5, _ => exact SameP.kee k
  | 6, _ => exact fun _ _ h => h
  | 7, _ => exact fun _ _ h => h
  | 8, _ => exact fun _ _ h => h
  | 9, _ => exact fun _ _ h => h
  | 10, _ => exact fun _ _ h => h
  | 11, _ => exact fun _ _ h => h
  | 12, _ => exact fun _ _ h => h
  | n + 13, h => omega
def unt0 (B : Nat) (vw : Value) (sr sc : Nat) (xs yj : List Value) (v : World) : Prop := v.cell? ⟨B, 3, none⟩ = some vw ∧ Kro v vw sr sc yj ∧ ∀ (k : Nat) (x y : Value), xs[k]? = some x → yj[k]? = some y → ∃ ao n ca bo cb zs, x = .slice ao n ca ∧ y = .slice bo n cb ∧ Byt v ao n ca zs ∧ Byt v bo n cb zs
theorem unt0_kept {B : Nat} {vw : Value} {sr sc : Nat} {xs yj : List Value} (v v' : World) (h : unt0 B vw sr sc xs yj v) (hg : v.grownBy v' none) : unt0 B vw sr sc xs yj v' :=
 ⟨hg.cell h.1 (by simp), h.2.1.kept hg (by simp), fun k x y hx hy => by
  obtain ⟨ao, n, ca, bo, cb, zs, e1, e2, e3, e4⟩ := h.2.2 k x y hx hy
  exact ⟨ao, n, ca, bo, cb, zs, e1, e2, e3.keptN hg, e4.keptN hg⟩⟩
theorem unt0_of {v : World} {base : Nat} {cs : Nat → Value} {s : Lst} {x y : Value} (hsame : SameB v base cs s y) (hx : s.v = x) (_hsn : s.n ≤ 1099511620000) : ∃ ao n ca bo cb zs, x = .slice ao n ca ∧ y = .slice bo n cb ∧ Byt v ao n ca zs ∧ Byt v bo n cb zs := by
 obtain ⟨ao, bo, cb, zs, f1, f2, f3, f4⟩ := hsame
 exact ⟨ao, s.n, s.c, bo, cb, zs, by rw [← hx, f1], f2, f3.by', f4.by'⟩
def unt5 (B : Nat) (vw : Value) (sr sc : Nat) (xs yj : List Value) (v : World) : Prop := v.cell? ⟨B, 18, none⟩ = some vw ∧ Kro v vw sr sc yj ∧ ∀ (k : Nat) (x y : Value), xs[k]? = some x → yj[k]? = some y → ∃ ao n ca bo cb, ∃ Z : List Pq, x = .slice ao n ca ∧ y = .slice bo n cb ∧ Pm v ao Z ∧ Pm v bo Z ∧ Z.length = n ∧ n ≤ 1000000
theorem unt5_kept {B : Nat} {vw : Value} {sr sc : Nat} {xs yj : List Value} (v v' : World) (h : unt5 B vw sr sc xs yj v) (hg : v.grownBy v' none) : unt5 B vw sr sc xs yj v' :=
 ⟨hg.cell h.1 (by simp), h.2.1.kept hg (by simp), fun k x y hx hy => by
  obtain ⟨ao, n, ca, bo, cb, Z, e1, e2, e3, e4, e5⟩ := h.2.2 k x y hx hy
  exact ⟨ao, n, ca, bo, cb, Z, e1, e2, e3.keptN hg, e4.keptN hg, e5⟩⟩
theorem unt5_of {v : World} {base : Nat} {cs : Nat → Value} {s : Lst} {x y : Value} (hsame : SameP v base cs s y) (hx : s.v = x) (_hsn : s.n ≤ 1099511620000) : ∃ ao n ca bo cb, ∃ Z : List Pq, x = .slice ao n ca ∧ y = .slice bo n cb ∧ Pm v ao Z ∧ Pm v bo Z ∧ Z.length = n ∧ n ≤ 1000000 := by
 obtain ⟨ao, bo, cb, Z, f1, f2, f3, f4, f5, f6⟩ := hsame
 exact ⟨ao, s.n, s.c, bo, cb, Z, by rw [← hx, f1], f2, f3.pm, f4.pm, f5, f6⟩
def kfam (a0 a5 : Kn) (B j : Nat) : Kn := match j with
 | 0 => a0
 | 5 => a5
 | j => knE B j
theorem kro_at {w : World} {base n : Nat} {v : Value} {xs : List Value} {t : TypeId} (h : w.ownsRow base t 1 v n xs) : ∃ r c, Kro w v r c xs ∧ (v.ownBlock = some r ∨ r = 0) := by
 have hl := h.1
 rw [Nat.mul_one] at hl
 rcases h.2 with ⟨rfl, h0⟩ | ⟨g, cap, cur, rfl, hb, hg, hn, hm, hs, ht⟩
 ·refine ⟨0, 0, ⟨⟨none, by rw [hl, h0], fun hp => by omega⟩, fun i x hx => ?_⟩, Or.inr rfl⟩
  have := (List.getElem?_eq_some_iff.1 hx).1
  omega
 ·refine ⟨g, cap, ⟨⟨_, by rw [hl], fun _ => rfl⟩, fun i x hx => ?_⟩, Or.inl rfl⟩
  rw [cell_of_row w g i _ _ (0, 0) hg, ← Array.getElem?_toList]
  rw [← ht, List.getElem?_take] at hx
  split at hx
  ·exact hx
  ·cases hx
theorem kst_finish {w w0 : World} {B base : Nat} {cs : Nat → Value} {L : Nat → List Lst} {ys : Nat → List Value} (h : Kst kdS SameS w B base cs L ys) (hE : ∀ j, j < 13 → j ≠ 0 → j ≠ 5 → L j = []) (hm : (L 0).length + (L 5).length ≤ 1000000) (hg : w0.grownBy w none) (hB : w0.heap.size ≤ B) (htz : Tz w0) :
  Calls Tryz.prog 14 #[.pointer (some ⟨B, 0, none⟩)] w fun en w' => en = .returned (.bool true) ∧ w0.grownBy w' none := by
 have hgp := htz.lt
 have htz' := htz.keptN hg
 have hBb := h.t.bB
 have hbx := h.t.box
 have hsz := hg.size
 have pass : w.cell? ⟨B, 1, none⟩ = some (.int .i64 0) := by rw [← h.t.c1]; exact hbx.cell 1 (by omega)
 have hfr : ∀ j, j < 13 → ∀ s ∈ L j, s.g < w.heap.size ∧ s.g ≠ B ∧ s.n ≤ 1099511620000 := fun j hj s hs => by
  obtain ⟨_, _, a3, a4, a5⟩ := (h.k j hj).ok s hs
  exact ⟨a4.lt, by have := a5.1; omega, a3⟩
 have hge : ∀ j, j < 13 → ∀ s ∈ L j, base ≤ s.g := fun j hj s hs => ((h.k j hj).ok s hs).2.2.2.2.1
 have gno : ∀ j, j < 13 → Gnone w B (3 * j + 2) := fun j hj => ⟨by have := hbx.cell (3 * j + 4) (by omega); rw [h.t.gn j hj] at this; exact this, hbx.fz (3 * j + 4) (by omega)⟩
 have p0 : Kpn kdB w base cs (L 0) (ys 0) SameB := h.k 0 (by omega)
 obtain ⟨r0, c0, k0, o0⟩ := kro_at p0.ob
 obtain ⟨s0, d0, l0, _⟩ := kro_at p0.ow
 have rb0 : r0 < w.heap.size ∧ r0 ≠ B ∧ ((cs 2).ownBlock = some r0 ∨ r0 < base) := by
  rcases o0 with e | e
  ·have := h.t.bk 2 (by omega) _ e; exact ⟨this.2, by omega, Or.inl e⟩
  ·exact ⟨by omega, by omega, Or.inr (by omega)⟩
 have kc0 : Kc kdB w B 0 (cs 2) r0 c0 (L 0) := ⟨pass, hbx.cell 2 (by omega), k0, fun s hs => by
  obtain ⟨a1, a2, _, a4, a5⟩ := p0.ok s hs
  refine ⟨a1, a2, by have := a5.1; omega, fun e => ?_⟩
  rcases rb0.2.2 with e' | e'
  ·exact a5.2 2 (by omega) (by rw [e]; exact e')
  ·have := a5.1; omega, p0.ap, by omega⟩
 have ly0 : (L 0).length = (ys 0).length := by have := p0.ow.1; simpa using this.symm
 have u0 : unt0 B (cs 3) s0 d0 ((L 0).map Lst.v) (ys 0) w := ⟨hbx.cell 3 (by omega), l0, fun k x y hx hy => by
  rw [List.getElem?_map] at hx
  cases hs : (L 0)[k]? with
  | none => rw [hs] at hx; simp at hx
  | some s =>
   rw [hs] at hx
   simp at hx
   exact unt0_of (p0.same k s y hs hy) hx (p0.ok s (List.mem_of_getElem? hs)).2.2.1⟩
 have ok0 : KnOk B w.heap.size (knD kdB B w.heap.size (cs 2) r0 c0 (L 0) (unt0 B (cs 3) s0 d0 ((L 0).map Lst.v) (ys 0))) 0 :=
  knD_ok rfl (by omega) ⟨rb0.1, rb0.2.1⟩ (hfr 0 (by omega)) (fun v hv hk => untouched_bytes B _ _ r0 c0 s0 d0 ((L 0).map Lst.v) (ys 0) v hk.lists hv.1 hk.row hv.2.1 (by rw [List.length_map]; exact ly0) (by rw [List.length_map]; exact hk.many) hv.2.2) unt0_kept
   (fun B ps hp vb r c L id0 I w h1 h2 h3 h4 h5 => write_bytes B ps hp vb r c L id0 I w h1 h2 h3 h4 h5) (fun B ps hp vb vg r c r2 c2 L M id0 w h1 h2 h3 h4 h5 => hold_bytes B ps hp vb vg r c r2 c2 L M id0 w h1 h2 h3 h4 h5) (fun B ps hp vb vg r c bs id0 L M t Q HH I w h1 h2 h3 h4 h5 h6 h7 h8 h9 => grow_bytes B ps hp vb vg r c bs id0 L M t Q HH I w h1 h2 h3 h4 h5 h6 h7 h8 h9)
 have p5 : Kpn (kdP (fun _ _ _ => .nilIface)) w base cs (L 5) (ys 5) SameP := h.k 5 (by omega)
 obtain ⟨r5, c5, k5, o5⟩ := kro_at p5.ob
 obtain ⟨s5, d5, l5, _⟩ := kro_at p5.ow
 have rb5 : r5 < w.heap.size ∧ r5 ≠ B ∧ ((cs 17).ownBlock = some r5 ∨ r5 < base) := by
  rcases o5 with e | e
  ·have := h.t.bk 17 (by omega) _ e; exact ⟨this.2, by omega, Or.inl e⟩
  ·exact ⟨by omega, by omega, Or.inr (by omega)⟩
 have kc5 : Kc (kdP (fun _ _ _ => .nilIface)) w B 0 (cs 17) r5 c5 (L 5) := ⟨pass, hbx.cell 17 (by omega), k5, fun s hs => by
  obtain ⟨a1, a2, _, a4, a5⟩ := p5.ok s hs
  refine ⟨a1, a2, by have := a5.1; omega, fun e => ?_⟩
  rcases rb5.2.2 with e' | e'
  ·exact a5.2 17 (by omega) (by rw [e]; exact e')
  ·have := a5.1; omega, p5.ap, by omega⟩
 have ly5 : (L 5).length = (ys 5).length := by have := p5.ow.1; simpa using this.symm
 have u5 : unt5 B (cs 18) s5 d5 ((L 5).map Lst.v) (ys 5) w := ⟨hbx.cell 18 (by omega), l5, fun k x y hx hy => by
  rw [List.getElem?_map] at hx
  cases hs : (L 5)[k]? with
  | none => rw [hs] at hx; simp at hx
  | some s =>
   rw [hs] at hx
   simp at hx
   exact unt5_of (p5.same k s y hs hy) hx (p5.ok s (List.mem_of_getElem? hs)).2.2.1⟩
 have ok5 : KnOk B w.heap.size (knP B w.heap.size (cs 17) r5 c5 (L 5) (unt5 B (cs 18) s5 d5 ((L 5).map Lst.v) (ys 5))) 5 :=
  knP_ok (by omega) ⟨rb5.1, rb5.2.1⟩ (hfr 5 (by omega)) ⟨by omega, by omega, fun s hs e => by have := hge 5 (by omega) s hs; omega⟩ (fun F v hv hk => untouched_pairs B _ _ r5 c5 s5 d5 ((L 5).map Lst.v) (ys 5) v hk.lists hv.1 hk.row hv.2.1 (by rw [List.length_map]; exact ly5) (by rw [List.length_map]; exact hk.many) hv.2.2) unt5_kept
 have hall : ∀ j, j < 13 → KnOk B w.heap.size (kfam (knD kdB B w.heap.size (cs 2) r0 c0 (L 0) (unt0 B (cs 3) s0 d0 ((L 0).map Lst.v) (ys 0))) (knP B w.heap.size (cs 17) r5 c5 (L 5) (unt5 B (cs 18) s5 d5 ((L 5).map Lst.v) (ys 5))) B j) j := fun j hj => by
  match j, hj with
  | 0, _ => exact ok0
  | 1, _ => exact knE_ints B _
  | 2, _ => exact knE_texts B _
  | 3, _ => exact knE_byteLists B _
  | 4, _ => exact knE_intLists B _
  | 5, _ => exact ok5
  | 6, _ => exact knE_items B _
  | 7, _ => exact knE_kids B _
  | 8, _ => exact knE_nodes B _
  | 9, _ => exact knE_writes B _
  | 10, _ => exact knE_changes B _
  | 11, _ => exact knE_fates B _
  | 12, _ => exact knE_ops B _
  | n + 13, h => omega
 have hown : ∀ j, j < 13 → ∀ b, (kfam (knD kdB B w.heap.size (cs 2) r0 c0 (L 0) (unt0 B (cs 3) s0 d0 ((L 0).map Lst.v) (ys 0))) (knP B w.heap.size (cs 17) r5 c5 (L 5) (unt5 B (cs 18) s5 d5 ((L 5).map Lst.v) (ys 5))) B j).own b → ∃ s ∈ L j, s.g = b := fun j hj b hb => by
  match j, hj with
  | 0, _ => exact hb
  | 1, _ => exact hb.elim
  | 2, _ => exact hb.elim
  | 3, _ => exact hb.elim
  | 4, _ => exact hb.elim
  | 5, _ => exact hb
  | 6, _ => exact hb.elim
  | 7, _ => exact hb.elim
  | 8, _ => exact hb.elim
  | 9, _ => exact hb.elim
  | 10, _ => exact hb.elim
  | 11, _ => exact hb.elim
  | 12, _ => exact hb.elim
  | n + 13, h => omega
 have hneed : ∀ j, j < 13 → ∀ b, (kfam (knD kdB B w.heap.size (cs 2) r0 c0 (L 0) (unt0 B (cs 3) s0 d0 ((L 0).map Lst.v) (ys 0))) (knP B w.heap.size (cs 17) r5 c5 (L 5) (unt5 B (cs 18) s5 d5 ((L 5).map Lst.v) (ys 5))) B j).need b → (∃ s ∈ L j, s.g = b) ∨ (cs (3 * j + 2)).ownBlock = some b ∨ b < base := fun j hj b hb => by
  match j, hj with
  | 0, _ =>
   rcases hb with hb | hb
   ·exact Or.inl hb
   ·subst hb; exact Or.inr rb0.2.2
  | 1, _ => exact hb.elim
  | 2, _ => exact hb.elim
  | 3, _ => exact hb.elim
  | 4, _ => exact hb.elim
  | 5, _ =>
   rcases hb with hb | hb | hb
   ·exact Or.inl hb
   ·subst hb; exact Or.inr rb5.2.2
   ·subst hb; exact Or.inr (Or.inr (by omega))
  | 6, _ => exact hb.elim
  | 7, _ => exact hb.elim
  | 8, _ => exact hb.elim
  | 9, _ => exact hb.elim
  | 10, _ => exact hb.elim
  | 11, _ => exact hb.elim
  | 12, _ => exact hb.elim
  | n + 13, h => omega
 have hzz : ∀ j, j < 13 → (kfam (knD kdB B w.heap.size (cs 2) r0 c0 (L 0) (unt0 B (cs 3) s0 d0 ((L 0).map Lst.v) (ys 0))) (knP B w.heap.size (cs 17) r5 c5 (L 5) (unt5 B (cs 18) s5 d5 ((L 5).map Lst.v) (ys 5))) B j).Z w := fun j hj => by
  match j, hj with
  | 0, _ => exact ⟨u0, kc0, gno 0 (by omega)⟩
  | 1, _ =>
   have hp := (h.k 1 (by omega)).ob
   rw [hE 1 (by omega) (by omega) (by omega)] at hp
   obtain ⟨ao, c, e⟩ := own_sl hp
   exact ⟨ao, c, by have := hbx.cell 5 (by omega); rw [show cs 5 = _ from e] at this; exact this⟩
  | 2, _ =>
   have hp := (h.k 2 (by omega)).ob
   rw [hE 2 (by omega) (by omega) (by omega)] at hp
   obtain ⟨ao, c, e⟩ := own_sl hp
   exact ⟨ao, c, by have := hbx.cell 8 (by omega); rw [show cs 8 = _ from e] at this; exact this⟩
  | 3, _ =>
   have hp := (h.k 3 (by omega)).ob
   rw [hE 3 (by omega) (by omega) (by omega)] at hp
   obtain ⟨ao, c, e⟩ := own_sl hp
   exact ⟨ao, c, by have := hbx.cell 11 (by omega); rw [show cs 11 = _ from e] at this; exact this⟩
  | 4, _ =>
   have hp := (h.k 4 (by omega)).ob
   rw [hE 4 (by omega) (by omega) (by omega)] at hp
   obtain ⟨ao, c, e⟩ := own_sl hp
   exact ⟨ao, c, by have := hbx.cell 14 (by omega); rw [show cs 14 = _ from e] at this; exact this⟩
  | 5, _ => exact ⟨u5, ⟨_, kc5⟩, gno 5 (by omega), htz'⟩
  | 6, _ =>
   have hp := (h.k 6 (by omega)).ob
   rw [hE 6 (by omega) (by omega) (by omega)] at hp
   obtain ⟨ao, c, e⟩ := own_sl hp
   exact ⟨ao, c, by have := hbx.cell 20 (by omega); rw [show cs 20 = _ from e] at this; exact this⟩
  | 7, _ =>
   have hp := (h.k 7 (by omega)).ob
   rw [hE 7 (by omega) (by omega) (by omega)] at hp
   obtain ⟨ao, c, e⟩ := own_sl hp
   exact ⟨ao, c, by have := hbx.cell 23 (by omega); rw [show cs 23 = _ from e] at this; exact this⟩
  | 8, _ =>
   have hp := (h.k 8 (by omega)).ob
   rw [hE 8 (by omega) (by omega) (by omega)] at hp
   obtain ⟨ao, c, e⟩ := own_sl hp
   exact ⟨ao, c, by have := hbx.cell 26 (by omega); rw [show cs 26 = _ from e] at this; exact this⟩
  | 9, _ =>
   have hp := (h.k 9 (by omega)).ob
   rw [hE 9 (by omega) (by omega) (by omega)] at hp
   obtain ⟨ao, c, e⟩ := own_sl hp
   exact ⟨ao, c, by have := hbx.cell 29 (by omega); rw [show cs 29 = _ from e] at this; exact this⟩
  | 10, _ =>
   have hp := (h.k 10 (by omega)).ob
   rw [hE 10 (by omega) (by omega) (by omega)] at hp
   obtain ⟨ao, c, e⟩ := own_sl hp
   exact ⟨ao, c, by have := hbx.cell 32 (by omega); rw [show cs 32 = _ from e] at this; exact this⟩
  | 11, _ =>
   have hp := (h.k 11 (by omega)).ob
   rw [hE 11 (by omega) (by omega) (by omega)] at hp
   obtain ⟨ao, c, e⟩ := own_sl hp
   exact ⟨ao, c, by have := hbx.cell 35 (by omega); rw [show cs 35 = _ from e] at this; exact this⟩
  | 12, _ =>
   have hp := (h.k 12 (by omega)).ob
   rw [hE 12 (by omega) (by omega) (by omega)] at hp
   obtain ⟨ao, c, e⟩ := own_sl hp
   exact ⟨ao, c, by have := hbx.cell 38 (by omega); rw [show cs 38 = _ from e] at this; exact this⟩
  | n + 13, h => omega
 have het : ∀ i j, i < 13 → j < 13 → i ≠ j → ∀ s ∈ L i, ∀ u ∈ L j, s.g ≠ u.g := fun i j hi hj hne s hs u hu => by
  have hi' : i = 0 ∨ i = 5 := by
   apply Classical.byContradiction
   intro hc
   have := hE i hi (fun e => hc (by simp [e])) (fun e => hc (by simp [e]))
   rw [this] at hs
   simp at hs
  have hj' : j = 0 ∨ j = 5 := by
   apply Classical.byContradiction
   intro hc
   have := hE j hj (fun e => hc (by simp [e])) (fun e => hc (by simp [e]))
   rw [this] at hu
   simp at hu
  refine ((h.k i hi).ok s hs).2.2.2.1.ne ((h.k j hj).ok u hu).2.2.2.1 ?_
  rcases hi' with rfl | rfl <;> rcases hj' with rfl | rfl <;> first | exact absurd rfl hne | decide
 have hX : Cross (kfam (knD kdB B w.heap.size (cs 2) r0 c0 (L 0) (unt0 B (cs 3) s0 d0 ((L 0).map Lst.v) (ys 0))) (knP B w.heap.size (cs 17) r5 c5 (L 5) (unt5 B (cs 18) s5 d5 ((L 5).map Lst.v) (ys 5))) B) := fun i j hi hj hne b hb hn => by
  obtain ⟨s, hs, rfl⟩ := hown i hi b hb
  have hf := ((h.k i hi).ok s hs).2.2.2.2
  rcases hneed j hj _ hn with ⟨u, hu, e⟩ | e | e
  ·exact het i j hi hj hne s hs u hu e.symm
  ·exact hf.2 _ (by omega) e
  ·have := hf.1; omega
 refine kn_finish (I := fun v => w0.grownBy v none) (by omega) hall hX (fun v v' row hv hg' hr => ?_) (fun v i u hv => grown_new hv (kset_grown v B i u) (by omega)) ?_ w (Nat.le_refl _) hzz (by rw [← h.t.c0]; exact hbx.cell 0 (by omega)) pass (hbx.fz 1 (by omega)) hg
 ·cases row with
  | none => exact grown_trans hv hg'
  | some i =>
   refine grown_new hv hg' ?_
   rcases hr i rfl with ⟨j, hj, ho⟩ | hi
   ·obtain ⟨s, hs, rfl⟩ := hown j hj i ho
    have := hge j hj s hs
    omega
   ·omega
 ·simp only [kid0, kfam, knD, knP, knE]
  omega
theorem tx_len20 {l : List Pq} (hn : l.length ≤ 2000) (hj : jdg [] l = 0) : (tx l).length ≤ 2000000000 := by
 rw [← txi_all]
 have := txi_len (by omega) (jdg_small hj) l.length (Nat.le_refl _)
 omega
theorem txt_ok {l : List Pq} (h : jdg [] l = 0) : txt l = tx l := by unfold txt; rw [if_pos h]
theorem jdg_keys : ∀ {l : List Pq} {a : List Int}, jdg a l = 0 → ∀ p ∈ l, 1 ≤ p.1.length ∧ p.1.length ≤ 255 ∧ p.2.length ≤ 262144
 | [], _, _, p, hp => by simp at hp
 | q :: l, a, h, p, hp => by
  unfold jdg at h
  by_cases h0 : flt a q = 0
  ·rw [if_pos h0] at h
   rcases List.mem_cons.1 hp with rfl | hp
   ·unfold flt at h0
    split at h0
    ·omega
    ·omega
   ·exact jdg_keys h p hp
  ·rw [if_neg h0] at h
   exact absurd h h0
def lstW (W : Nat) (g0 : Nat) (v : Value) : Lst := match v with
 | .slice (some ad) n c => ⟨v, ad.block, 0, n, c, n * W, c * W⟩
 | .slice none n c => ⟨v, g0, 0, n, c, n * W, c * W⟩
 | v => ⟨v, g0, 0, 0, 0, 0, 0⟩
theorem lstW_v (W g0 : Nat) (v : Value) : (lstW W g0 v).v = v := by
 unfold lstW
 split <;> rfl
theorem rdy_own {w : World} {H base W g0 n : Nat} {cs : Nat → Value} {t : TypeId} {v : Value} {xs : List Value} (h : w.ownsRow H t W v n xs) (hn : n ≤ 1099511620000) (hf : ∀ d, H ≤ d → Fre base cs d) (h0 : v.ownBlock = none → Blk w t g0 ∧ Fre base cs g0) : Rdy w base cs W t (lstW W g0 v) ∧ (lstW W g0 v).n = n := by
 rcases h.2 with ⟨rfl, rfl⟩ | ⟨g, cap, cur, rfl, hb, hg, hle, hm, hs, _⟩
 ·obtain ⟨b1, b2⟩ := h0 rfl
  refine ⟨⟨⟨Nat.le_refl _, rfl, rfl, Nat.zero_le _, Nat.zero_le _, ⟨none, rfl, fun e => absurd e (Nat.lt_irrefl 0)⟩⟩, fun j hj => ?_, Nat.zero_le _, b1, b2⟩, rfl⟩
  have : j < 0 * W := hj
  omega
 ·refine ⟨⟨⟨hle, rfl, rfl, by show n ≤ _; omega, by show cap ≤ _; unfold maxLen at hm; omega, ⟨_, rfl, fun _ => rfl⟩⟩, fun j hj => ?_, hn, ⟨cur, (0, 0), hg⟩, hf g hb⟩, rfl⟩
  have hj' : j < cap * W := hj
  refine ⟨⟨cur[j]'(by omega), ?_⟩, frozen_of_row w g (0 + j) _ _ hg⟩
  show w.cell? ⟨g, 0 + j, none⟩ = _
  rw [Nat.zero_add, cell_of_row w g j _ _ _ hg, Array.getElem?_eq_getElem (by omega)]
theorem lstW_at {w : World} {H W g0 n : Nat} {t : TypeId} {v : Value} {xs : List Value} (h : w.ownsRow H t W v n xs) : (lstW W g0 v).C = 0 ∨ v.ownBlock = some (lstW W g0 v).g := by
 rcases h.2 with ⟨rfl, rfl⟩ | ⟨g, cap, cur, rfl, _⟩
 ·exact .inl (by show 0 * W = 0; omega)
 ·exact .inr rfl
theorem apart_old {t s : Lst} {H : Nat} (h : t.g < H) (hs : s.C = 0 ∨ H ≤ s.g) : t.Apart s := fun i j hi hj e => by
 rcases hs with hs | hs
 ·omega
 ·injection e with e1; omega
structure Dz (w0 : World) (B base : Nat) (w : World) (n0 n5 : Nat) : Prop where
 k : ∃ cs L ys, Kst kdS SameS w B base cs L ys ∧ (∀ i, i ≠ 0 → i ≠ 5 → L i = []) ∧ (L 0).length ≤ n0 ∧ (L 5).length ≤ n5
 g : w0.grownBy w none
 b : w0.heap.size ≤ B ∧ w0.heap.size ≤ base
theorem Dz.keptN {w0 : World} {B base : Nat} {w w' : World} {n0 n5 : Nat} (h : Dz w0 B base w n0 n5) (hg : w.grownBy w' none) : Dz w0 B base w' n0 n5 := by
 obtain ⟨cs, L, ys, h1, h2⟩ := h.k
 exact ⟨⟨cs, L, ys, h1.keptN kds_ok hg, h2⟩, grown_trans h.g hg, h.b⟩
theorem lsn_len {L : Nat → List Lst} {D : List Lst} (j i : Nat) : (lsn L j D i).length = if i = j then (L i).length + D.length else (L i).length := by
 by_cases e : i = j
 ·subst e
  rw [lsn_same, List.length_append, if_pos rfl]
 ·rw [lsn_far _ _ e, if_neg e]
theorem keep_b20 {w0 : World} {B base : Nat} {w w1 : World} {n0 n5 : Nat} (h : Dz w0 B base w n0 n5) (hg : w.grownBy w1 none) {ao : Option Addr} {c n : Nat} {z : List Int} (ho : w1.ownsRow w.heap.size 5 1 (.slice ao n c) n (z.map (Value.int .u8))) (hn : n ≤ 100000000) (h0 : n0 ≤ 100000) :
  Calls Tryz.prog 13 #[.pointer (some ⟨B, 0, none⟩), .slice ao n c] w1 fun en w' => en = .returned (.tuple #[]) ∧ Dz w0 B base w' (n0 + 1) n5 := by
 obtain ⟨cs, L, ys, hk, hno, hl0, hl5⟩ := h.k
 have hk1 := hk.keptN kds_ok hg
 have hf : ∀ d, w.heap.size ≤ d → Fre base cs d := fun d hd => hk.t.new hd
 have htb : Tb w1 base cs ao n c z := ⟨byt_of_ownD ho, fun ad e _ => hf _ (ho.lt ad.block (by rw [e]; rfl)).1⟩
 refine (kst_bytes kds_ok hk1 rfl rfl ao n c z htb (by omega) (by omega)).mono ?_
 rintro en w' ⟨rfl, cs', y, k1, k2, k3⟩
 have fin : ∀ s, Kst kdS SameS w' B base cs' (lsn L 0 [s]) (ysn ys 0 [y]) → Dz w0 B base w' (n0 + 1) n5 := fun s hs =>
  ⟨⟨cs', _, _, hs, fun i h1 h2 => by rw [lsn_far _ _ h1]; exact hno i h1 h2, by rw [lsn_len, if_pos rfl]; simp; omega, by rw [lsn_len, if_neg (by omega)]; exact hl5⟩, k1.grown (grown_trans h.g hg) h.b.1 h.b.2, h.b⟩
 refine ⟨rfl, ?_⟩
 cases hv : (Value.slice ao n c).ownBlock with
 | none =>
  rcases ho.2 with ⟨e, e0⟩ | ⟨g, cap, cur, e, _⟩
  ·injection e with _ _ e3
   obtain ⟨s, _, _, hs⟩ := k3 e0 e3
   exact fin s hs
  ·rw [e] at hv
   cases hv
 | some g =>
  obtain ⟨r1, r2⟩ := rdy_own (g0 := 0) ho (by omega) hf (fun e => by rw [hv] at e; cases e)
  have hg9 := ho.lt g hv
  refine fin _ (k2 (lstW 1 0 (.slice ao n c)) (lstW_v _ _ _) r2 ?_ r1 (fun t ht => apart_old (H := w.heap.size) (hk.lt (by omega) ht) ?_))
  ·cases ao with
   | none => cases hv
   | some ad => rfl
  ·cases ao with
   | none => cases hv
   | some ad =>
    refine .inr ?_
    have e : ad.block = g := by simpa [Value.ownBlock] using hv
    show w.heap.size ≤ ad.block
    omega
theorem keep_p20 {w0 : World} {B base : Nat} {w w1 : World} {n0 n5 : Nat} (h : Dz w0 B base w n0 n5) (hg : w.grownBy w1 none) {a : Option Addr} {c n : Nat} {xs : List Value} {Z : List Pq} (ho : w1.ownsRow w.heap.size 54 2 (.slice a n c) n xs) (hw : Pw w1 xs Z) (hzn : Z.length = n) (hr : Ris20 xs) (hb : Bd20 w.heap.size w1.heap.size xs) (hn : n ≤ 60) (hz : ∀ p ∈ Z, 1 ≤ p.1.length ∧ p.1.length ≤ 255 ∧ p.2.length ≤ 262144) (h0 : n0 ≤ 100000) (h5 : n5 ≤ 100000) :
  Calls Tryz.prog 10 #[.pointer (some ⟨B, 0, none⟩), .slice a n c] w1 fun en w' => en = .returned (.tuple #[]) ∧ Dz w0 B base w' (n0 + 2 * n) (n5 + 1) := by
 obtain ⟨cs, L, ys, hk, hno, hl0, hl5⟩ := h.k
 have hk1 := hk.keptN kds_ok hg
 have hf : ∀ d, w.heap.size ≤ d → Fre base cs d := fun d hd => hk.t.new hd
 have hy := py_of hw hb
 have hxl := hy.len
 obtain ⟨g0, hg0⟩ : ∃ g0, ∀ p ∈ Z, Blk w1 5 g0 ∧ Fre base cs g0 := by
  cases Z with
  | nil => exact ⟨0, fun p hp => by simp at hp⟩
  | cons q Q =>
   obtain ⟨ao, c1, bo, d1, _, _, h3, _⟩ := hy.el 0 q rfl
   have hq := hz q (by simp)
   rcases h3.2 with ⟨_, e0⟩ | ⟨g, cap, cur, e, hgb, hgg, _⟩
   ·omega
   ·exact ⟨g, fun _ _ => ⟨⟨cur, (0, 0), hgg⟩, hf g hgb⟩⟩
 have hown : ∀ (i : Nat) (v : Value), xs[i]? = some v → ∃ (m : Nat) (ys : List Value), w1.ownsRow w.heap.size 5 1 v m ys ∧ m ≤ 300000 ∧ Blk w1 5 g0 ∧ Fre base cs g0 := fun i v hv => by
  have hi := (List.getElem?_eq_some_iff.1 hv).1
  obtain ⟨p, hp⟩ : ∃ p, Z[i / 2]? = some p := ⟨_, List.getElem?_eq_getElem (by omega)⟩
  obtain ⟨ao, c1, bo, d1, h1, h2, h3, h4, _⟩ := hy.el (i / 2) p hp
  have hq := hz p (List.mem_of_getElem? hp)
  have hgp := hg0 p (List.mem_of_getElem? hp)
  rcases Nat.mod_two_eq_zero_or_one i with e | e
  ·have ei : i / 2 * 2 = i := by omega
   rw [ei, hv] at h1
   obtain rfl := Option.some.inj h1
   exact ⟨_, _, h3, by omega, hgp⟩
  ·have ei : i / 2 * 2 + 1 = i := by omega
   rw [ei, hv] at h2
   obtain rfl := Option.some.inj h2
   exact ⟨_, _, h4, by omega, hgp⟩
 have hDo : ∀ s ∈ xs.map (lstW 1 g0), Rdy w1 base cs 1 5 s := fun s hs => by
  obtain ⟨v, hv, rfl⟩ := List.mem_map.1 hs
  obtain ⟨i, hi⟩ := List.mem_iff_getElem?.1 hv
  obtain ⟨m, ys', h1, h2, h3⟩ := hown i v hi
  exact (rdy_own h1 (by omega) hf (fun _ => h3)).1
 have hDn : ∀ s ∈ xs.map (lstW 1 g0), s.C = 0 ∨ w.heap.size ≤ s.g := fun s hs => by
  obtain ⟨v, hv, rfl⟩ := List.mem_map.1 hs
  obtain ⟨i, hi⟩ := List.mem_iff_getElem?.1 hv
  obtain ⟨m, ys', h1, _⟩ := hown i v hi
  exact (lstW_at h1).imp id fun e => (h1.lt _ e).1
 have hDp : (xs.map (lstW 1 g0)).Pairwise Lst.Apart := by
  refine List.pairwise_iff_getElem.2 fun i j hi hj hij x y hx hy e => ?_
  rw [List.length_map] at hi hj
  simp only [List.getElem_map] at hx hy e
  obtain ⟨_, _, h1, _⟩ := hown i _ (List.getElem?_eq_getElem hi)
  obtain ⟨_, _, h2, _⟩ := hown j _ (List.getElem?_eq_getElem hj)
  rcases lstW_at (g0 := g0) h1 with e1 | e1
  ·omega
  ·rcases lstW_at (g0 := g0) h2 with e2 | e2
   ·omega
   ·have := hr i j _ _ _ _ hij (List.getElem?_eq_getElem hi) (List.getElem?_eq_getElem hj) e1 e2
    injection e with e3
    omega
 have hti : Tp w1 base cs a Z := by
  rcases ho.2 with ⟨e, e0⟩ | ⟨g, cap, cur, e, hgb, hgg, _⟩
  ·have hz0 : Z = [] := List.eq_nil_of_length_eq_zero (by omega)
   subst hz0
   exact ⟨fun i p hp => by simp at hp⟩
  ·injection e with e1
   subst e1
   exact tp_own ho hy (fun u hu g' hg' => hb u hu g' hg') (ho.lt g rfl) (fun d h1 _ => hf d h1)
 have hD : ∀ i, i < n → ∃ b off k v, a = some ⟨b, off, none⟩ ∧ (xs.map (lstW 1 g0))[2 * i]? = some k ∧ (xs.map (lstW 1 g0))[2 * i + 1]? = some v ∧ w1.cell? ⟨b, off + i * 2, none⟩ = some k.v ∧ w1.cell? ⟨b, off + i * 2 + 1, none⟩ = some v.v := fun i hi => by
  obtain ⟨p, hp⟩ : ∃ p, Z[i]? = some p := ⟨_, List.getElem?_eq_getElem (by omega)⟩
  obtain ⟨ao, c1, bo, d1, h1, h2, _⟩ := hy.el i p hp
  rw [Nat.mul_comm] at h1 h2
  rcases ho.2 with ⟨e, e0⟩ | ⟨g, cap, cur, e, hgb, hgg, _⟩
  ·omega
  ·injection e with e1
   subst e1
   have x1 := ho.cells (g := g) rfl (2 * i) _ h1
   have x2 := ho.cells (g := g) rfl (2 * i + 1) _ h2
   rw [Addr.add_lit] at x1 x2
   refine ⟨g, 0, _, _, rfl, by rw [List.getElem?_map, h1]; rfl, by rw [List.getElem?_map, h2]; rfl, ?_, ?_⟩
   ·rw [lstW_v, Nat.mul_comm i 2]; exact x1
   ·rw [lstW_v, Nat.mul_comm i 2, Nat.add_assoc]; exact x2
 have hD2 : (xs.map (lstW 1 g0)).length = 2 * n := by rw [List.length_map]; omega
 refine (kst_pairs kds_ok hk1 rfl rfl (fun _ _ _ => .nilIface) rfl rfl a n c Z (xs.map (lstW 1 g0)) hti hzn (by omega) (fun p hp => by have := hz p hp; omega) hD2 hD hDo hDp (fun t ht s hs => apart_old (hk.lt (by omega) ht) (hDn s hs)) (by omega) (by omega)).mono ?_
 rintro en w' ⟨rfl, cs', YY, y, k1, k2, k3⟩
 have fin : ∀ s, Kst kdS SameS w' B base cs' (lsn (lsn L 0 (xs.map (lstW 1 g0))) 5 [s]) (ysn YY 5 [y]) → Dz w0 B base w' (n0 + 2 * n) (n5 + 1) := fun s hs =>
  ⟨⟨cs', _, _, hs, fun i h1 h2 => by rw [lsn_far _ _ h2, lsn_far _ _ h1]; exact hno i h1 h2, by rw [lsn_len, if_neg (by omega), lsn_len, if_pos rfl, hD2]; omega, by rw [lsn_len, if_pos rfl, lsn_len, if_neg (by omega)]; simp; omega⟩, k1.grown (grown_trans h.g hg) h.b.1 h.b.2, h.b⟩
 refine ⟨rfl, ?_⟩
 cases hv : (Value.slice a n c).ownBlock with
 | none =>
  rcases ho.2 with ⟨e, e0⟩ | ⟨g, cap, cur, e, _⟩
  ·injection e with _ _ e3
   obtain ⟨s, _, _, hs⟩ := k3 e0 e3
   exact fin s hs
  ·rw [e] at hv
   cases hv
 | some g =>
  obtain ⟨r1, r2⟩ := rdy_own (g0 := 0) ho (by omega) hf (fun e => by rw [hv] at e; cases e)
  have hg9 := ho.lt g hv
  refine fin _ (k2 (lstW 2 0 (.slice a n c)) (lstW_v _ _ _) r2 ?_ r1 (fun t ht => apart_old (H := w.heap.size) ?_ ?_))
  ·cases a with
   | none => cases hv
   | some ad => rfl
  ·rw [lsn_far _ _ (by omega)] at ht
   exact hk.lt (by omega) ht
  ·cases a with
   | none => cases hv
   | some ad =>
    refine .inr ?_
    have e : ad.block = g := by simpa [Value.ownBlock] using hv
    show w.heap.size ≤ ad.block
    omega
theorem finish20 {w0 : World} {B base : Nat} {w : World} {n0 n5 : Nat} (h : Dz w0 B base w n0 n5) (ht : Tz w0) (h0 : n0 ≤ 100000) (h5 : n5 ≤ 100000) :
  Calls Tryz.prog 14 #[.pointer (some ⟨B, 0, none⟩)] w fun en w' => en = .returned (.bool true) ∧ w0.grownBy w' none := by
 obtain ⟨cs, L, ys, hk, hno, hl0, hl5⟩ := h.k
 exact kst_finish hk (fun j _ h1 h2 => hno j h1 h2) (by omega) h.g h.b.1 ht
end Go.Proofs.YthodgddoolbenaaGreatDoor
