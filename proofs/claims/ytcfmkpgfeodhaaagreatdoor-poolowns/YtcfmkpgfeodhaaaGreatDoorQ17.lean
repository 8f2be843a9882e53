import Derived.Test.YtcfmkpgfeodhaaaGreatDoorQ14
import Derived.Test.YtcfmkpgfeodhaaaGreatDoorQ13
import Derived.Test.YtcfmkpgfeodhaaaGreatDoorQ10
import Derived.Test.YtcfmkpgfeodhaaaGreatDoorQ16
import Derived.Test.YtcfmkpgfeodhaaaGreatDoorQ8
import Derived.Test.YtcfmkpgfeodhaaaGreatDoorQ6
import Derived.Test.YtcfmkpgfeodhaaaGreatDoorQ5
namespace Go.Proofs.YtcfmkpgfeodhaaaGreatDoor
open Go.RowKit
def kdS (j : Nat) : Kdk := match j with
 | 1 => kdI
 | j => ⟨3 * j + 2, 1, 0, 0, fun _ _ _ => .nilIface⟩
def SameS (j : Nat) : World → Nat → (Nat → Value) → Lst → Value → Prop := match j with
 | 1 => SameI
 | _ => fun _ _ _ _ _ => True
theorem kds_ok : Kds kdS SameS where
 q := fun j hj => by
  match j, hj with
  | 0, _ => rfl
  | 1, _ => rfl
  | 2, _ => rfl
  | 3, _ => rfl
  | 4, _ => rfl
  | 5, _ => rfl
  | 6, _ => rfl
  | 7, _ => rfl
  | 8, _ => rfl
  | 9, _ => rfl
  | 10, _ => rfl
  | 11, _ => rfl
  | 12, _ => rfl
  | n + 13, h => omega
 s := fun j hj w w' base cs cs' k => by
  match j, hj with
  | 0, _ => exact fun _ _ h => h
  | 1, _ => exact SameI.kee k
  | 2, _ => exact fun _ _ h => h
  | 3, _ => exact fun _ _ h => h
  | 4, _ => exact fun _ _ h => h
  | 5, _ => exact fun _ _ h => h
  | 6, _ => exact fun _ _ h => h
  | 7, _ => exact fun _ _ h => h
  | 8, _ => exact fun _ _ h => h
  | 9, _ => exact fun _ _ h => h
  | 10, _ => exact fun _ _ h => h
  | 11, _ => exact fun _ _ h => h
  | 12, _ => exact fun _ _ h => h
  | n + 13, h => omega
def unt1 (B : Nat) (vw : Value) (sr sc : Nat) (xs yj : List Value) (v : World) : Prop := v.cell? ⟨B, 6, none⟩ = some vw ∧ Kro v vw sr sc yj ∧ ∀ (k : Nat) (x y : Value), xs[k]? = some x → yj[k]? = some y → ∃ ao n ca bo cb, ∃ Z : List Int, x = .slice ao n ca ∧ y = .slice bo n cb ∧ Nt v ao Z ∧ Nt v bo Z ∧ True ∧ Z.length = n ∧ n ≤ 1099511627776
theorem unt1_kept {B : Nat} {vw : Value} {sr sc : Nat} {xs yj : List Value} (v v' : World) (h : unt1 B vw sr sc xs yj v) (hg : v.grownBy v' none) : unt1 B vw sr sc xs yj v' :=
 ⟨hg.cell h.1 (by simp), h.2.1.kept hg (by simp), fun k x y hx hy => by
  obtain ⟨ao, n, ca, bo, cb, Z, e1, e2, e3, e4, e5⟩ := h.2.2 k x y hx hy
  exact ⟨ao, n, ca, bo, cb, Z, e1, e2, e3.keptN hg, e4.keptN hg, e5⟩⟩
theorem unt1_of {v : World} {base : Nat} {cs : Nat → Value} {s : Lst} {x y : Value} (hsame : SameI v base cs s y) (hx : s.v = x) (hsn : s.n ≤ 1099511620000) : ∃ ao n ca bo cb, ∃ Z : List Int, x = .slice ao n ca ∧ y = .slice bo n cb ∧ Nt v ao Z ∧ Nt v bo Z ∧ True ∧ Z.length = n ∧ n ≤ 1099511627776 := by
 obtain ⟨ao, bo, cb, Z, f1, f2, f3, f4, f5⟩ := hsame
 exact ⟨ao, s.n, s.c, bo, cb, Z, by rw [← hx, f1], f2, f3.nt, f4.nt, trivial, f5, by omega⟩
def kfam (a1 : Kn) (B j : Nat) : Kn := match j with
 | 1 => a1
 | j => knE B j
theorem kro_at {w : World} {base n : Nat} {v : Value} {xs : List Value} {t : TypeId} (h : w.ownsRow base t 1 v n xs) : ∃ r c, Kro w v r c xs ∧ (v.ownBlock = some r ∨ r = 0) := by
 have hl := h.1
 rw [Nat.mul_one] at hl
 rcases h.2 with ⟨rfl, h0⟩ | ⟨g, cap, cur, rfl, hb, hg, hn, hm, hs, ht⟩
 ·refine ⟨0, 0, ⟨⟨none, by rw [hl, h0], fun hp => by omega⟩, fun i x hx => ?_⟩, Or.inr rfl⟩
  have := (List.getElem?_eq_some_iff.1 hx).1
  omega
 ·refine ⟨g, cap, ⟨⟨_, by rw [hl], fun _ => rfl⟩, fun i x hx => ?_⟩, Or.inl rfl⟩
  rw [cell_of_row w g i _ _ (0, 0) hg, ← Array.getElem?_toList]
  rw [← ht, List.getElem?_take] at hx
  split at hx
  ·exact hx
  ·cases hx
theorem kst_finish4 {w w0 : World} {B base : Nat} {cs : Nat → Value} {L : Nat → List Lst} {ys : Nat → List Value} (h : Kst kdS SameS w B base cs L ys) (hE : ∀ j, j < 13 → j ≠ 1 → L j = []) (hm : (L 1).length ≤ 1000000) (hg : w0.grownBy w none) (hB : w0.heap.size ≤ B) (h00 : 0 < w0.heap.size) :
  Calls Tryz.prog 15 #[.pointer (some ⟨B, 0, none⟩)] w fun en w' => en = .returned (.bool true) ∧ w0.grownBy w' none ∧ w.heap.size ≤ w'.heap.size ∧ ∀ k, (k < w.heap.size ∧ k ≠ B ∧ ∀ j, j < 13 → ∀ s ∈ L j, s.g ≠ k) → w'.heap[k]? = w.heap[k]? := by
 have hBb := h.t.bB
 have hbx := h.t.box
 have hsz := hg.size
 have pass : w.cell? ⟨B, 1, none⟩ = some (.int .i64 0) := by rw [← h.t.c1]; exact hbx.cell 1 (by omega)
 have hfr : ∀ j, j < 13 → ∀ s ∈ L j, s.g < w.heap.size ∧ s.g ≠ B ∧ s.n ≤ 1099511620000 := fun j hj s hs => by
  obtain ⟨_, _, a3, a4, a5⟩ := (h.k j hj).ok s hs
  exact ⟨a4.lt, by have := a5.1; omega, a3⟩
 have hge : ∀ j, j < 13 → ∀ s ∈ L j, base ≤ s.g := fun j hj s hs => ((h.k j hj).ok s hs).2.2.2.2.1
 have gno : ∀ j, j < 13 → Gnone w B (3 * j + 2) := fun j hj => ⟨by have := hbx.cell (3 * j + 4) (by omega); rw [h.t.gn j hj] at this; exact this, hbx.fz (3 * j + 4) (by omega)⟩
 have p1 : Kpn kdI w base cs (L 1) (ys 1) SameI := h.k 1 (by omega)
 obtain ⟨r1, c1, k1, o1⟩ := kro_at p1.ob
 obtain ⟨s1, d1, l1, _⟩ := kro_at p1.ow
 have rb1 : r1 < w.heap.size ∧ r1 ≠ B ∧ ((cs 5).ownBlock = some r1 ∨ r1 < base) := by
  rcases o1 with e | e
  ·have := h.t.bk 5 (by omega) _ e; exact ⟨this.2, by omega, Or.inl e⟩
  ·exact ⟨by omega, by omega, Or.inr (by omega)⟩
 have kc1 : Kc kdI w B 0 (cs 5) r1 c1 (L 1) := ⟨pass, hbx.cell 5 (by omega), k1, fun s hs => by
  obtain ⟨a1, a2, _, a4, a5⟩ := p1.ok s hs
  refine ⟨a1, a2, by have := a5.1; omega, fun e => ?_⟩
  rcases rb1.2.2 with e' | e'
  ·exact a5.2 5 (by omega) (by rw [e]; exact e')
  ·have := a5.1; omega, p1.ap, by omega⟩
 have ly1 : (L 1).length = (ys 1).length := by have := p1.ow.1; simpa using this.symm
 have u1 : unt1 B (cs 6) s1 d1 ((L 1).map Lst.v) (ys 1) w := ⟨hbx.cell 6 (by omega), l1, fun k x y hx hy => by
  rw [List.getElem?_map] at hx
  cases hs : (L 1)[k]? with
  | none => rw [hs] at hx; simp at hx
  | some s =>
   rw [hs] at hx
   simp at hx
   exact unt1_of (p1.same k s y hs hy) hx (p1.ok s (List.mem_of_getElem? hs)).2.2.1⟩
 have ok1 : KnOk B w.heap.size (knD kdI B w.heap.size (cs 5) r1 c1 (L 1) (unt1 B (cs 6) s1 d1 ((L 1).map Lst.v) (ys 1))) 1 :=
  knD_ok rfl (by omega) ⟨rb1.1, rb1.2.1⟩ (hfr 1 (by omega)) (fun v hv hk => untouched_ints B _ _ r1 c1 s1 d1 ((L 1).map Lst.v) (ys 1) v hk.lists hv.1 hk.row hv.2.1 (by rw [List.length_map]; exact ly1) (by rw [List.length_map]; exact hk.many) hv.2.2) unt1_kept
   (fun B ps hp vb r c L id0 I w h1 h2 h3 h4 h5 => write_ints B ps hp vb r c L id0 I w h1 h2 h3 h4 h5) (fun B ps hp vb vg r c r2 c2 L M id0 w h1 h2 h3 h4 h5 => hold_ints B ps hp vb vg r c r2 c2 L M id0 w h1 h2 h3 h4 h5) (fun B ps hp vb vg r c bs id0 L M t Q HH I w h1 h2 h3 h4 h5 h6 h7 h8 h9 => grow_ints B ps hp vb vg r c bs id0 L M t Q HH I w h1 h2 h3 h4 h5 h6 h7 h8 h9)
 have hall : ∀ j, j < 13 → KnOk B w.heap.size (kfam (knD kdI B w.heap.size (cs 5) r1 c1 (L 1) (unt1 B (cs 6) s1 d1 ((L 1).map Lst.v) (ys 1))) B j) j := fun j hj => by
  match j, hj with
  | 0, _ => exact knE_bytes B _
  | 1, _ => exact ok1
  | 2, _ => exact knE_texts B _
  | 3, _ => exact knE_byteLists B _
  | 4, _ => exact knE_intLists B _
  | 5, _ => exact knE_pairs B _
  | 6, _ => exact knE_items B _
  | 7, _ => exact knE_kids B _
  | 8, _ => exact knE_nodes B _
  | 9, _ => exact knE_writes B _
  | 10, _ => exact knE_changes B _
  | 11, _ => exact knE_fates B _
  | 12, _ => exact knE_ops B _
  | n + 13, h => omega
 have hown : ∀ j, j < 13 → ∀ b, (kfam (knD kdI B w.heap.size (cs 5) r1 c1 (L 1) (unt1 B (cs 6) s1 d1 ((L 1).map Lst.v) (ys 1))) B j).own b → ∃ s ∈ L j, s.g = b := fun j hj b hb => by
  match j, hj with
  | 0, _ => exact hb.elim
  | 1, _ => exact hb
  | 2, _ => exact hb.elim
  | 3, _ => exact hb.elim
  | 4, _ => exact hb.elim
  | 5, _ => exact hb.elim
  | 6, _ => exact hb.elim
  | 7, _ => exact hb.elim
  | 8, _ => exact hb.elim
  | 9, _ => exact hb.elim
  | 10, _ => exact hb.elim
  | 11, _ => exact hb.elim
  | 12, _ => exact hb.elim
  | n + 13, h => omega
 have hneed : ∀ j, j < 13 → ∀ b, (kfam (knD kdI B w.heap.size (cs 5) r1 c1 (L 1) (unt1 B (cs 6) s1 d1 ((L 1).map Lst.v) (ys 1))) B j).need b → (∃ s ∈ L j, s.g = b) ∨ (cs (3 * j + 2)).ownBlock = some b ∨ b < base := fun j hj b hb => by
  match j, hj with
  | 0, _ => exact hb.elim
  | 1, _ =>
   rcases hb with hb | hb
   ·exact Or.inl hb
   ·subst hb; exact Or.inr rb1.2.2
  | 2, _ => exact hb.elim
  | 3, _ => exact hb.elim
  | 4, _ => exact hb.elim
  | 5, _ => exact hb.elim
  | 6, _ => exact hb.elim
  | 7, _ => exact hb.elim
  | 8, _ => exact hb.elim
  | 9, _ => exact hb.elim
  | 10, _ => exact hb.elim
  | 11, _ => exact hb.elim
  | 12, _ => exact hb.elim
  | n + 13, h => omega
 have hzz : ∀ j, j < 13 → (kfam (knD kdI B w.heap.size (cs 5) r1 c1 (L 1) (unt1 B (cs 6) s1 d1 ((L 1).map Lst.v) (ys 1))) B j).Z w := fun j hj => by
  match j, hj with
  | 0, _ =>
   have hp := (h.k 0 (by omega)).ob
   rw [hE 0 (by omega) (by omega)] at hp
   obtain ⟨ao, c, e⟩ := own_sl hp
   exact ⟨ao, c, by have := hbx.cell 2 (by omega); rw [show cs 2 = _ from e] at this; exact this⟩
  | 1, _ => exact ⟨u1, kc1, gno 1 (by omega)⟩
  | 2, _ =>
   have hp := (h.k 2 (by omega)).ob
   rw [hE 2 (by omega) (by omega)] at hp
   obtain ⟨ao, c, e⟩ := own_sl hp
   exact ⟨ao, c, by have := hbx.cell 8 (by omega); rw [show cs 8 = _ from e] at this; exact this⟩
  | 3, _ =>
   have hp := (h.k 3 (by omega)).ob
   rw [hE 3 (by omega) (by omega)] at hp
   obtain ⟨ao, c, e⟩ := own_sl hp
   exact ⟨ao, c, by have := hbx.cell 11 (by omega); rw [show cs 11 = _ from e] at this; exact this⟩
  | 4, _ =>
   have hp := (h.k 4 (by omega)).ob
   rw [hE 4 (by omega) (by omega)] at hp
   obtain ⟨ao, c, e⟩ := own_sl hp
   exact ⟨ao, c, by have := hbx.cell 14 (by omega); rw [show cs 14 = _ from e] at this; exact this⟩
  | 5, _ =>
   have hp := (h.k 5 (by omega)).ob
   rw [hE 5 (by omega) (by omega)] at hp
   obtain ⟨ao, c, e⟩ := own_sl hp
   exact ⟨ao, c, by have := hbx.cell 17 (by omega); rw [show cs 17 = _ from e] at this; exact this⟩
  | 6, _ =>
   have hp := (h.k 6 (by omega)).ob
   rw [hE 6 (by omega) (by omega)] at hp
   obtain ⟨ao, c, e⟩ := own_sl hp
   exact ⟨ao, c, by have := hbx.cell 20 (by omega); rw [show cs 20 = _ from e] at this; exact this⟩
  | 7, _ =>
   have hp := (h.k 7 (by omega)).ob
   rw [hE 7 (by omega) (by omega)] at hp
   obtain ⟨ao, c, e⟩ := own_sl hp
   exact ⟨ao, c, by have := hbx.cell 23 (by omega); rw [show cs 23 = _ from e] at this; exact this⟩
  | 8, _ =>
   have hp := (h.k 8 (by omega)).ob
   rw [hE 8 (by omega) (by omega)] at hp
   obtain ⟨ao, c, e⟩ := own_sl hp
   exact ⟨ao, c, by have := hbx.cell 26 (by omega); rw [show cs 26 = _ from e] at this; exact this⟩
  | 9, _ =>
   have hp := (h.k 9 (by omega)).ob
   rw [hE 9 (by omega) (by omega)] at hp
   obtain ⟨ao, c, e⟩ := own_sl hp
   exact ⟨ao, c, by have := hbx.cell 29 (by omega); rw [show cs 29 = _ from e] at this; exact this⟩
  | 10, _ =>
   have hp := (h.k 10 (by omega)).ob
   rw [hE 10 (by omega) (by omega)] at hp
   obtain ⟨ao, c, e⟩ := own_sl hp
   exact ⟨ao, c, by have := hbx.cell 32 (by omega); rw [show cs 32 = _ from e] at this; exact this⟩
  | 11, _ =>
   have hp := (h.k 11 (by omega)).ob
   rw [hE 11 (by omega) (by omega)] at hp
   obtain ⟨ao, c, e⟩ := own_sl hp
   exact ⟨ao, c, by have := hbx.cell 35 (by omega); rw [show cs 35 = _ from e] at this; exact this⟩
  | 12, _ =>
   have hp := (h.k 12 (by omega)).ob
   rw [hE 12 (by omega) (by omega)] at hp
   obtain ⟨ao, c, e⟩ := own_sl hp
   exact ⟨ao, c, by have := hbx.cell 38 (by omega); rw [show cs 38 = _ from e] at this; exact this⟩
  | n + 13, h => omega
 have het : ∀ i j, i < 13 → j < 13 → i ≠ j → ∀ s ∈ L i, ∀ u ∈ L j, s.g ≠ u.g := fun i j hi hj hne s hs u hu => by
  have hi' : i = 1 := by
   apply Classical.byContradiction
   intro hc
   have := hE i hi (fun e => hc (by simp [e]))
   rw [this] at hs
   simp at hs
  have hj' : j = 1 := by
   apply Classical.byContradiction
   intro hc
   have := hE j hj (fun e => hc (by simp [e]))
   rw [this] at hu
   simp at hu
  refine ((h.k i hi).ok s hs).2.2.2.1.ne ((h.k j hj).ok u hu).2.2.2.1 ?_
  rcases hi' with rfl <;> rcases hj' with rfl <;> first | exact absurd rfl hne | decide
 have hX : Cross (kfam (knD kdI B w.heap.size (cs 5) r1 c1 (L 1) (unt1 B (cs 6) s1 d1 ((L 1).map Lst.v) (ys 1))) B) := fun i j hi hj hne b hb hn => by
  obtain ⟨s, hs, rfl⟩ := hown i hi b hb
  have hf := ((h.k i hi).ok s hs).2.2.2.2
  rcases hneed j hj _ hn with ⟨u, hu, e⟩ | e | e
  ·exact het i j hi hj hne s hs u hu e.symm
  ·exact hf.2 _ (by omega) e
  ·have := hf.1; omega
 have nB : ¬ (B < w.heap.size ∧ B ≠ B ∧ ∀ j, j < 13 → ∀ s ∈ L j, s.g ≠ B) := fun hx => hx.2.1 rfl
 have hStl : ∀ k, (k < w.heap.size ∧ k ≠ B ∧ ∀ j, j < 13 → ∀ s ∈ L j, s.g ≠ k) → k < w.heap.size := fun k hx => hx.1
 refine kn_finish (I := fun v => w0.grownBy v none ∧ w.heap.size ≤ v.heap.size ∧ ∀ k, (k < w.heap.size ∧ k ≠ B ∧ ∀ j, j < 13 → ∀ s ∈ L j, s.g ≠ k) → v.heap[k]? = w.heap[k]?) (by omega) hall hX (fun v v' row hv hg' hr => ?_) (fun v i u hv => ⟨grown_new hv.1 (kset_grown v B i u) (by omega), by have := (kset_grown v B i u).size; omega, fun k hk => ((kset_grown v B i u).block k (by have := hStl k hk; omega) (fun e => nB (by have e2 := Option.some.inj e; rw [e2] at hk; exact hk))).trans (hv.2.2 k hk)⟩) ?_ w (Nat.le_refl _) hzz (by rw [← h.t.c0]; exact hbx.cell 0 (by omega)) pass (hbx.fz 1 (by omega)) ⟨hg, Nat.le_refl _, fun k hk => rfl⟩ |>.mono (fun e w' hq => ⟨hq.1, hq.2.1, hq.2.2.1, hq.2.2.2⟩)
 ·have hrow : ∀ i, row = some i → (w.heap.size ≤ i ∨ base ≤ i) ∧ ¬ (i < w.heap.size ∧ i ≠ B ∧ ∀ j, j < 13 → ∀ s ∈ L j, s.g ≠ i) := fun i e => by
   rcases hr i e with ⟨j, hj, ho⟩ | hi
   ·obtain ⟨s, hs, rfl⟩ := hown j hj i ho
    exact ⟨Or.inr (hge j hj s hs), fun hx => hx.2.2 j hj s hs rfl⟩
   ·exact ⟨Or.inl hi, fun hx => by have := hStl i hx; omega⟩
  refine ⟨?_, Nat.le_trans hv.2.1 hg'.size, fun k hk => (hg'.block k (by have := hStl k hk; have := hv.2.1; omega) (fun e => (hrow k e.symm).2 hk)).trans (hv.2.2 k hk)⟩
  cases row with
  | none => exact grown_trans hv.1 hg'
  | some i => exact grown_new hv.1 hg' (by rcases (hrow i rfl).1 with h1 | h1 <;> omega)
 ·simp only [kid0, kfam, knD, knE]
  omega
end Go.Proofs.YtcfmkpgfeodhaaaGreatDoor
