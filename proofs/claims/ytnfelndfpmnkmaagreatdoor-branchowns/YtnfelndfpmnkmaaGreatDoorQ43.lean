import Derived.Test.YtnfelndfpmnkmaaGreatDoorQ37
import Derived.Test.YtnfelndfpmnkmaaGreatDoorQ41
import Derived.Test.YtnfelndfpmnkmaaGreatDoorQ22
import Derived.Test.YtnfelndfpmnkmaaGreatDoorQ38
import Derived.Test.YtnfelndfpmnkmaaGreatDoorQ29
import Derived.Test.YtnfelndfpmnkmaaGreatDoorQ40
import Derived.Test.YtnfelndfpmnkmaaGreatDoorQ36
import Derived.Test.YtnfelndfpmnkmaaGreatDoorQ42
import Derived.Test.YtnfelndfpmnkmaaGreatDoorQ25
import Derived.Test.YtnfelndfpmnkmaaGreatDoorQ23
import Derived.Test.YtnfelndfpmnkmaaGreatDoorQ33
namespace Go.Proofs.YtnfelndfpmnkmaaGreatDoor
open Go.RowKit
def kdS (j : Nat) : Kdk := match j with
 | 0 => kdB
 | 3 => (kdL (fun _ _ _ => .nilIface))
 | 7 => kdY
 | j => ⟨3 * j + 2, 1, 0, 0, fun _ _ _ => .nilIface⟩
def SameS (j : Nat) : World → Nat → (Nat → Value) → Lst → Value → Prop := match j with
 | 0 => SameB
 | 3 => SameL
 | 7 => SameY
 | _ => fun _ _ _ _ _ => True
theorem kds_ok : Kds kdS SameS where
 q := fun j hj => by
  match j, hj with
  | 0, _ => rfl
  | 1, _ => rfl
  | 2, _ => rfl
  | 3, _ => rfl
  | 4, _ => rfl
  | 5, _ => rfl
  | 6, _ => rfl
  | 7, _ => rfl
  | 8, _ => rfl
  | 9, _ => rfl
  | 10, _ => rfl
  | 11, _ => rfl
  | 12, _ => rfl
  | n + 13, h => omega
 s := fun j hj w w' base cs cs' k => by
  match j, hj with
  | 0, _ => exact SameB.kee k
  | 1, _ => exact fun _ _ h => h
  | 2, _ => exact fun _ _ h => h
  | 3, _ => exact SameL.kee k
  | 4, _ => exact fun _ _ h => h
  | 5, _ => exact fun _ _ h => h
  | 6, _ => exact fun _ _ h => h
  | 7, _ => exact SameY.kee k
  | 8, _ => exact fun _ _ h => h
  | 9, _ => exact fun _ _ h => h
  | 10, _ => exact fun _ _ h => h
  | 11, _ => exact fun _ _ h => h
  | 12, _ => exact fun _ _ h => h
  | n + 13, h => omega
def unt0 (B : Nat) (vw : Value) (sr sc : Nat) (xs yj : List Value) (v : World) : Prop := v.cell? ⟨B, 3, none⟩ = some vw ∧ Kro v vw sr sc yj ∧ ∀ (k : Nat) (x y : Value), xs[k]? = some x → yj[k]? = some y → ∃ ao n ca bo cb zs, x = .slice ao n ca ∧ y = .slice bo n cb ∧ Byt v ao n ca zs ∧ Byt v bo n cb zs
theorem unt0_kept {B : Nat} {vw : Value} {sr sc : Nat} {xs yj : List Value} (v v' : World) (h : unt0 B vw sr sc xs yj v) (hg : v.grownBy v' none) : unt0 B vw sr sc xs yj v' :=
 ⟨hg.cell h.1 (by simp), h.2.1.kept hg (by simp), fun k x y hx hy => by
  obtain ⟨ao, n, ca, bo, cb, zs, e1, e2, e3, e4⟩ := h.2.2 k x y hx hy
  exact ⟨ao, n, ca, bo, cb, zs, e1, e2, e3.keptN hg, e4.keptN hg⟩⟩
theorem unt0_of {v : World} {base : Nat} {cs : Nat → Value} {s : Lst} {x y : Value} (hsame : SameB v base cs s y) (hx : s.v = x) (_hsn : s.n ≤ 1099511620000) : ∃ ao n ca bo cb zs, x = .slice ao n ca ∧ y = .slice bo n cb ∧ Byt v ao n ca zs ∧ Byt v bo n cb zs := by
 obtain ⟨ao, bo, cb, zs, f1, f2, f3, f4⟩ := hsame
 exact ⟨ao, s.n, s.c, bo, cb, zs, by rw [← hx, f1], f2, f3.by', f4.by'⟩
def unt3 (B : Nat) (vw : Value) (sr sc : Nat) (xs yj : List Value) (v : World) : Prop := v.cell? ⟨B, 12, none⟩ = some vw ∧ Kro v vw sr sc yj ∧ ∀ (k : Nat) (x y : Value), xs[k]? = some x → yj[k]? = some y → ∃ ao n ca bo cb, ∃ Z : List (List Int), x = .slice ao n ca ∧ y = .slice bo n cb ∧ Lz v ao Z ∧ Lz v bo Z ∧ Lb Z ∧ Z.length = n ∧ n ≤ 1099511627776
theorem unt3_kept {B : Nat} {vw : Value} {sr sc : Nat} {xs yj : List Value} (v v' : World) (h : unt3 B vw sr sc xs yj v) (hg : v.grownBy v' none) : unt3 B vw sr sc xs yj v' :=
 ⟨hg.cell h.1 (by simp), h.2.1.kept hg (by simp), fun k x y hx hy => by
  obtain ⟨ao, n, ca, bo, cb, Z, e1, e2, e3, e4, e5⟩ := h.2.2 k x y hx hy
  exact ⟨ao, n, ca, bo, cb, Z, e1, e2, e3.keptN hg, e4.keptN hg, e5⟩⟩
theorem unt3_of {v : World} {base : Nat} {cs : Nat → Value} {s : Lst} {x y : Value} (hsame : SameL v base cs s y) (hx : s.v = x) (hsn : s.n ≤ 1099511620000) : ∃ ao n ca bo cb, ∃ Z : List (List Int), x = .slice ao n ca ∧ y = .slice bo n cb ∧ Lz v ao Z ∧ Lz v bo Z ∧ Lb Z ∧ Z.length = n ∧ n ≤ 1099511627776 := by
 obtain ⟨ao, bo, cb, Z, f1, f2, f3, f4, f5, f6⟩ := hsame
 exact ⟨ao, s.n, s.c, bo, cb, Z, by rw [← hx, f1], f2, f3.lz, f4.lz, f5, f6, by omega⟩
def unt7 (B : Nat) (vw : Value) (sr sc : Nat) (xs yj : List Value) (v : World) : Prop := v.cell? ⟨B, 24, none⟩ = some vw ∧ Kro v vw sr sc yj ∧ ∀ (k : Nat) (x y : Value), xs[k]? = some x → yj[k]? = some y → ∃ ao n ca bo cb, ∃ Z : List Kd, x = .slice ao n ca ∧ y = .slice bo n cb ∧ Kl v ao Z ∧ Kl v bo Z ∧ True ∧ Z.length = n ∧ n ≤ 1099511627776
theorem unt7_kept {B : Nat} {vw : Value} {sr sc : Nat} {xs yj : List Value} (v v' : World) (h : unt7 B vw sr sc xs yj v) (hg : v.grownBy v' none) : unt7 B vw sr sc xs yj v' :=
 ⟨hg.cell h.1 (by simp), h.2.1.kept hg (by simp), fun k x y hx hy => by
  obtain ⟨ao, n, ca, bo, cb, Z, e1, e2, e3, e4, e5⟩ := h.2.2 k x y hx hy
  exact ⟨ao, n, ca, bo, cb, Z, e1, e2, e3.keptN hg, e4.keptN hg, e5⟩⟩
theorem unt7_of {v : World} {base : Nat} {cs : Nat → Value} {s : Lst} {x y : Value} (hsame : SameY v base cs s y) (hx : s.v = x) (hsn : s.n ≤ 1099511620000) : ∃ ao n ca bo cb, ∃ Z : List Kd, x = .slice ao n ca ∧ y = .slice bo n cb ∧ Kl v ao Z ∧ Kl v bo Z ∧ True ∧ Z.length = n ∧ n ≤ 1099511627776 := by
 obtain ⟨ao, bo, cb, Z, f1, f2, f3, f4, f5⟩ := hsame
 exact ⟨ao, s.n, s.c, bo, cb, Z, by rw [← hx, f1], f2, f3.kl, f4.kl, trivial, f5, by omega⟩
def kfam (a0 a3 a7 : Kn) (B j : Nat) : Kn := match j with
 | 0 => a0
 | 3 => a3
 | 7 => a7
 | j => knE B j
theorem kro_at {w : World} {base n : Nat} {v : Value} {xs : List Value} {t : TypeId} (h : w.ownsRow base t 1 v n xs) : ∃ r c, Kro w v r c xs ∧ (v.ownBlock = some r ∨ r = 0) := by
 have hl := h.1
 rw [Nat.mul_one] at hl
 rcases h.2 with ⟨rfl, h0⟩ | ⟨g, cap, cur, rfl, hb, hg, hn, hm, hs, ht⟩
 ·refine ⟨0, 0, ⟨⟨none, by rw [hl, h0], fun hp => by omega⟩, fun i x hx => ?_⟩, Or.inr rfl⟩
  have := (List.getElem?_eq_some_iff.1 hx).1
  omega
 ·refine ⟨g, cap, ⟨⟨_, by rw [hl], fun _ => rfl⟩, fun i x hx => ?_⟩, Or.inl rfl⟩
  rw [cell_of_row w g i _ _ (0, 0) hg, ← Array.getElem?_toList]
  rw [← ht, List.getElem?_take] at hx
  split at hx
  ·exact hx
  ·cases hx
theorem kst_finish2 {w w0 wl : World} {B base : Nat} {cs : Nat → Value} {L : Nat → List Lst} {ys : Nat → List Value} (h : Kst kdS SameS w B base cs L ys) (hE : ∀ j, j < 13 → j ≠ 0 → j ≠ 3 → j ≠ 7 → L j = []) (hm : (L 0).length + (L 3).length + (L 7).length ≤ 1000000) (hg : w0.grownBy w none) (hB : w0.heap.size ≤ B) (hwl : wl.grownBy w (some B)) (hls : wl.heap.size ≤ base) (htz : Tz w0) :
  Calls Tryz.prog 19 #[.pointer (some ⟨B, 0, none⟩)] w fun en w' => en = .returned (.bool true) ∧ w0.grownBy w' none ∧ wl.grownBy w' (some B) := by
 have hgp := htz.lt
 have htz' := htz.keptN hg
 have hBb := h.t.bB
 have hbx := h.t.box
 have hsz := hg.size
 have pass : w.cell? ⟨B, 1, none⟩ = some (.int .i64 0) := by rw [← h.t.c1]; exact hbx.cell 1 (by omega)
 have hfr : ∀ j, j < 13 → ∀ s ∈ L j, s.g < w.heap.size ∧ s.g ≠ B ∧ s.n ≤ 1099511620000 := fun j hj s hs => by
  obtain ⟨_, _, a3, a4, a5⟩ := (h.k j hj).ok s hs
  exact ⟨a4.lt, by have := a5.1; omega, a3⟩
 have hge : ∀ j, j < 13 → ∀ s ∈ L j, base ≤ s.g := fun j hj s hs => ((h.k j hj).ok s hs).2.2.2.2.1
 have gno : ∀ j, j < 13 → Gnone w B (3 * j + 2) := fun j hj => ⟨by have := hbx.cell (3 * j + 4) (by omega); rw [h.t.gn j hj] at this; exact this, hbx.fz (3 * j + 4) (by omega)⟩
 have p0 : Kpn kdB w base cs (L 0) (ys 0) SameB := h.k 0 (by omega)
 obtain ⟨r0, c0, k0, o0⟩ := kro_at p0.ob
 obtain ⟨s0, d0, l0, _⟩ := kro_at p0.ow
 have rb0 : r0 < w.heap.size ∧ r0 ≠ B ∧ ((cs 2).ownBlock = some r0 ∨ r0 < base) := by
  rcases o0 with e | e
  ·have := h.t.bk 2 (by omega) _ e; exact ⟨this.2, by omega, Or.inl e⟩
  ·exact ⟨by omega, by omega, Or.inr (by omega)⟩
 have kc0 : Kc kdB w B 0 (cs 2) r0 c0 (L 0) := ⟨pass, hbx.cell 2 (by omega), k0, fun s hs => by
  obtain ⟨a1, a2, _, a4, a5⟩ := p0.ok s hs
  refine ⟨a1, a2, by have := a5.1; omega, fun e => ?_⟩
  rcases rb0.2.2 with e' | e'
  ·exact a5.2 2 (by omega) (by rw [e]; exact e')
  ·have := a5.1; omega, p0.ap, by omega⟩
 have ly0 : (L 0).length = (ys 0).length := by have := p0.ow.1; simpa using this.symm
 have u0 : unt0 B (cs 3) s0 d0 ((L 0).map Lst.v) (ys 0) w := ⟨hbx.cell 3 (by omega), l0, fun k x y hx hy => by
  rw [List.getElem?_map] at hx
  cases hs : (L 0)[k]? with
  | none => rw [hs] at hx; simp at hx
  | some s =>
   rw [hs] at hx
   simp at hx
   exact unt0_of (p0.same k s y hs hy) hx (p0.ok s (List.mem_of_getElem? hs)).2.2.1⟩
 have ok0 : KnOk B w.heap.size (knD kdB B w.heap.size (cs 2) r0 c0 (L 0) (unt0 B (cs 3) s0 d0 ((L 0).map Lst.v) (ys 0))) 0 :=
  knD_ok rfl (by omega) ⟨rb0.1, rb0.2.1⟩ (hfr 0 (by omega)) (fun v hv hk => untouched_bytes B _ _ r0 c0 s0 d0 ((L 0).map Lst.v) (ys 0) v hk.lists hv.1 hk.row hv.2.1 (by rw [List.length_map]; exact ly0) (by rw [List.length_map]; exact hk.many) hv.2.2) unt0_kept
   (fun B ps hp vb r c L id0 I w h1 h2 h3 h4 h5 => write_bytes B ps hp vb r c L id0 I w h1 h2 h3 h4 h5) (fun B ps hp vb vg r c r2 c2 L M id0 w h1 h2 h3 h4 h5 => hold_bytes B ps hp vb vg r c r2 c2 L M id0 w h1 h2 h3 h4 h5) (fun B ps hp vb vg r c bs id0 L M t Q HH I w h1 h2 h3 h4 h5 h6 h7 h8 h9 => grow_bytes B ps hp vb vg r c bs id0 L M t Q HH I w h1 h2 h3 h4 h5 h6 h7 h8 h9)
 have p3 : Kpn (kdL (fun _ _ _ => .nilIface)) w base cs (L 3) (ys 3) SameL := h.k 3 (by omega)
 obtain ⟨r3, c3, k3, o3⟩ := kro_at p3.ob
 obtain ⟨s3, d3, l3, _⟩ := kro_at p3.ow
 have rb3 : r3 < w.heap.size ∧ r3 ≠ B ∧ ((cs 11).ownBlock = some r3 ∨ r3 < base) := by
  rcases o3 with e | e
  ·have := h.t.bk 11 (by omega) _ e; exact ⟨this.2, by omega, Or.inl e⟩
  ·exact ⟨by omega, by omega, Or.inr (by omega)⟩
 have kc3 : Kc (kdL (fun _ _ _ => .nilIface)) w B 0 (cs 11) r3 c3 (L 3) := ⟨pass, hbx.cell 11 (by omega), k3, fun s hs => by
  obtain ⟨a1, a2, _, a4, a5⟩ := p3.ok s hs
  refine ⟨a1, a2, by have := a5.1; omega, fun e => ?_⟩
  rcases rb3.2.2 with e' | e'
  ·exact a5.2 11 (by omega) (by rw [e]; exact e')
  ·have := a5.1; omega, p3.ap, by omega⟩
 have ly3 : (L 3).length = (ys 3).length := by have := p3.ow.1; simpa using this.symm
 have u3 : unt3 B (cs 12) s3 d3 ((L 3).map Lst.v) (ys 3) w := ⟨hbx.cell 12 (by omega), l3, fun k x y hx hy => by
  rw [List.getElem?_map] at hx
  cases hs : (L 3)[k]? with
  | none => rw [hs] at hx; simp at hx
  | some s =>
   rw [hs] at hx
   simp at hx
   exact unt3_of (p3.same k s y hs hy) hx (p3.ok s (List.mem_of_getElem? hs)).2.2.1⟩
 have ok3 : KnOk B w.heap.size (knL B w.heap.size (cs 11) r3 c3 (L 3) (unt3 B (cs 12) s3 d3 ((L 3).map Lst.v) (ys 3))) 3 :=
  knL_ok (by omega) ⟨rb3.1, rb3.2.1⟩ (hfr 3 (by omega)) ⟨by omega, by omega, fun s hs e => by have := hge 3 (by omega) s hs; omega⟩ (fun F v hv hk => untouched_lists B _ _ r3 c3 s3 d3 ((L 3).map Lst.v) (ys 3) v hk.lists hv.1 hk.row hv.2.1 (by rw [List.length_map]; exact ly3) (by rw [List.length_map]; exact hk.many) hv.2.2) unt3_kept
 have p7 : Kpn kdY w base cs (L 7) (ys 7) SameY := h.k 7 (by omega)
 obtain ⟨r7, c7, k7, o7⟩ := kro_at p7.ob
 obtain ⟨s7, d7, l7, _⟩ := kro_at p7.ow
 have rb7 : r7 < w.heap.size ∧ r7 ≠ B ∧ ((cs 23).ownBlock = some r7 ∨ r7 < base) := by
  rcases o7 with e | e
  ·have := h.t.bk 23 (by omega) _ e; exact ⟨this.2, by omega, Or.inl e⟩
  ·exact ⟨by omega, by omega, Or.inr (by omega)⟩
 have kc7 : Kc kdY w B 0 (cs 23) r7 c7 (L 7) := ⟨pass, hbx.cell 23 (by omega), k7, fun s hs => by
  obtain ⟨a1, a2, _, a4, a5⟩ := p7.ok s hs
  refine ⟨a1, a2, by have := a5.1; omega, fun e => ?_⟩
  rcases rb7.2.2 with e' | e'
  ·exact a5.2 23 (by omega) (by rw [e]; exact e')
  ·have := a5.1; omega, p7.ap, by omega⟩
 have ly7 : (L 7).length = (ys 7).length := by have := p7.ow.1; simpa using this.symm
 have u7 : unt7 B (cs 24) s7 d7 ((L 7).map Lst.v) (ys 7) w := ⟨hbx.cell 24 (by omega), l7, fun k x y hx hy => by
  rw [List.getElem?_map] at hx
  cases hs : (L 7)[k]? with
  | none => rw [hs] at hx; simp at hx
  | some s =>
   rw [hs] at hx
   simp at hx
   exact unt7_of (p7.same k s y hs hy) hx (p7.ok s (List.mem_of_getElem? hs)).2.2.1⟩
 have ok7 : KnOk B w.heap.size (knD kdY B w.heap.size (cs 23) r7 c7 (L 7) (unt7 B (cs 24) s7 d7 ((L 7).map Lst.v) (ys 7))) 7 :=
  knD_ok rfl (by omega) ⟨rb7.1, rb7.2.1⟩ (hfr 7 (by omega)) (fun v hv hk => untouched_kids B _ _ r7 c7 s7 d7 ((L 7).map Lst.v) (ys 7) v hk.lists hv.1 hk.row hv.2.1 (by rw [List.length_map]; exact ly7) (by rw [List.length_map]; exact hk.many) hv.2.2) unt7_kept
   (fun B ps hp vb r c L id0 I w h1 h2 h3 h4 h5 => write_kids B ps hp vb r c L id0 I w h1 h2 h3 h4 h5) (fun B ps hp vb vg r c r2 c2 L M id0 w h1 h2 h3 h4 h5 => hold_kids B ps hp vb vg r c r2 c2 L M id0 w h1 h2 h3 h4 h5) (fun B ps hp vb vg r c bs id0 L M t Q HH I w h1 h2 h3 h4 h5 h6 h7 h8 h9 => grow_kids B ps hp vb vg r c bs id0 L M t Q HH I w h1 h2 h3 h4 h5 h6 h7 h8 h9)
 have hall : ∀ j, j < 13 → KnOk B w.heap.size (kfam (knD kdB B w.heap.size (cs 2) r0 c0 (L 0) (unt0 B (cs 3) s0 d0 ((L 0).map Lst.v) (ys 0))) (knL B w.heap.size (cs 11) r3 c3 (L 3) (unt3 B (cs 12) s3 d3 ((L 3).map Lst.v) (ys 3))) (knD kdY B w.heap.size (cs 23) r7 c7 (L 7) (unt7 B (cs 24) s7 d7 ((L 7).map Lst.v) (ys 7))) B j) j := fun j hj => by
  match j, hj with
  | 0, _ => exact ok0
  | 1, _ => exact knE_ints B _
  | 2, _ => exact knE_texts B _
  | 3, _ => exact ok3
  | 4, _ => exact knE_intLists B _
  | 5, _ => exact knE_pairs B _
  | 6, _ => exact knE_items B _
  | 7, _ => exact ok7
  | 8, _ => exact knE_nodes B _
  | 9, _ => exact knE_writes B _
  | 10, _ => exact knE_changes B _
  | 11, _ => exact knE_fates B _
  | 12, _ => exact knE_ops B _
  | n + 13, h => omega
 have hown : ∀ j, j < 13 → ∀ b, (kfam (knD kdB B w.heap.size (cs 2) r0 c0 (L 0) (unt0 B (cs 3) s0 d0 ((L 0).map Lst.v) (ys 0))) (knL B w.heap.size (cs 11) r3 c3 (L 3) (unt3 B (cs 12) s3 d3 ((L 3).map Lst.v) (ys 3))) (knD kdY B w.heap.size (cs 23) r7 c7 (L 7) (unt7 B (cs 24) s7 d7 ((L 7).map Lst.v) (ys 7))) B j).own b → ∃ s ∈ L j, s.g = b := fun j hj b hb => by
  match j, hj with
  | 0, _ => exact hb
  | 1, _ => exact hb.elim
  | 2, _ => exact hb.elim
  | 3, _ => exact hb
  | 4, _ => exact hb.elim
  | 5, _ => exact hb.elim
  | 6, _ => exact hb.elim
  | 7, _ => exact hb
  | 8, _ => exact hb.elim
  | 9, _ => exact hb.elim
  | 10, _ => exact hb.elim
  | 11, _ => exact hb.elim
  | 12, _ => exact hb.elim
  | n + 13, h => omega
 have hneed : ∀ j, j < 13 → ∀ b, (kfam (knD kdB B w.heap.size (cs 2) r0 c0 (L 0) (unt0 B (cs 3) s0 d0 ((L 0).map Lst.v) (ys 0))) (knL B w.heap.size (cs 11) r3 c3 (L 3) (unt3 B (cs 12) s3 d3 ((L 3).map Lst.v) (ys 3))) (knD kdY B w.heap.size (cs 23) r7 c7 (L 7) (unt7 B (cs 24) s7 d7 ((L 7).map Lst.v) (ys 7))) B j).need b → (∃ s ∈ L j, s.g = b) ∨ (cs (3 * j + 2)).ownBlock = some b ∨ b < base := fun j hj b hb => by
  match j, hj with
  | 0, _ =>
   rcases hb with hb | hb
   ·exact Or.inl hb
   ·subst hb; exact Or.inr rb0.2.2
  | 1, _ => exact hb.elim
  | 2, _ => exact hb.elim
  | 3, _ =>
   rcases hb with hb | hb | hb
   ·exact Or.inl hb
   ·subst hb; exact Or.inr rb3.2.2
   ·subst hb; exact Or.inr (Or.inr (by omega))
  | 4, _ => exact hb.elim
  | 5, _ => exact hb.elim
  | 6, _ => exact hb.elim
  | 7, _ =>
   rcases hb with hb | hb
   ·exact Or.inl hb
   ·subst hb; exact Or.inr rb7.2.2
  | 8, _ => exact hb.elim
  | 9, _ => exact hb.elim
  | 10, _ => exact hb.elim
  | 11, _ => exact hb.elim
  | 12, _ => exact hb.elim
  | n + 13, h => omega
 have hzz : ∀ j, j < 13 → (kfam (knD kdB B w.heap.size (cs 2) r0 c0 (L 0) (unt0 B (cs 3) s0 d0 ((L 0).map Lst.v) (ys 0))) (knL B w.heap.size (cs 11) r3 c3 (L 3) (unt3 B (cs 12) s3 d3 ((L 3).map Lst.v) (ys 3))) (knD kdY B w.heap.size (cs 23) r7 c7 (L 7) (unt7 B (cs 24) s7 d7 ((L 7).map Lst.v) (ys 7))) B j).Z w := fun j hj => by
  match j, hj with
  | 0, _ => exact ⟨u0, kc0, gno 0 (by omega)⟩
  | 1, _ =>
   have hp := (h.k 1 (by omega)).ob
   rw [hE 1 (by omega) (by omega) (by omega) (by omega)] at hp
   obtain ⟨ao, c, e⟩ := own_sl hp
   exact ⟨ao, c, by have := hbx.cell 5 (by omega); rw [show cs 5 = _ from e] at this; exact this⟩
  | 2, _ =>
   have hp := (h.k 2 (by omega)).ob
   rw [hE 2 (by omega) (by omega) (by omega) (by omega)] at hp
   obtain ⟨ao, c, e⟩ := own_sl hp
   exact ⟨ao, c, by have := hbx.cell 8 (by omega); rw [show cs 8 = _ from e] at this; exact this⟩
  | 3, _ => exact ⟨u3, ⟨_, kc3⟩, gno 3 (by omega), htz'⟩
  | 4, _ =>
   have hp := (h.k 4 (by omega)).ob
   rw [hE 4 (by omega) (by omega) (by omega) (by omega)] at hp
   obtain ⟨ao, c, e⟩ := own_sl hp
   exact ⟨ao, c, by have := hbx.cell 14 (by omega); rw [show cs 14 = _ from e] at this; exact this⟩
  | 5, _ =>
   have hp := (h.k 5 (by omega)).ob
   rw [hE 5 (by omega) (by omega) (by omega) (by omega)] at hp
   obtain ⟨ao, c, e⟩ := own_sl hp
   exact ⟨ao, c, by have := hbx.cell 17 (by omega); rw [show cs 17 = _ from e] at this; exact this⟩
  | 6, _ =>
   have hp := (h.k 6 (by omega)).ob
   rw [hE 6 (by omega) (by omega) (by omega) (by omega)] at hp
   obtain ⟨ao, c, e⟩ := own_sl hp
   exact ⟨ao, c, by have := hbx.cell 20 (by omega); rw [show cs 20 = _ from e] at this; exact this⟩
  | 7, _ => exact ⟨u7, kc7, gno 7 (by omega)⟩
  | 8, _ =>
   have hp := (h.k 8 (by omega)).ob
   rw [hE 8 (by omega) (by omega) (by omega) (by omega)] at hp
   obtain ⟨ao, c, e⟩ := own_sl hp
   exact ⟨ao, c, by have := hbx.cell 26 (by omega); rw [show cs 26 = _ from e] at this; exact this⟩
  | 9, _ =>
   have hp := (h.k 9 (by omega)).ob
   rw [hE 9 (by omega) (by omega) (by omega) (by omega)] at hp
   obtain ⟨ao, c, e⟩ := own_sl hp
   exact ⟨ao, c, by have := hbx.cell 29 (by omega); rw [show cs 29 = _ from e] at this; exact this⟩
  | 10, _ =>
   have hp := (h.k 10 (by omega)).ob
   rw [hE 10 (by omega) (by omega) (by omega) (by omega)] at hp
   obtain ⟨ao, c, e⟩ := own_sl hp
   exact ⟨ao, c, by have := hbx.cell 32 (by omega); rw [show cs 32 = _ from e] at this; exact this⟩
  | 11, _ =>
   have hp := (h.k 11 (by omega)).ob
   rw [hE 11 (by omega) (by omega) (by omega) (by omega)] at hp
   obtain ⟨ao, c, e⟩ := own_sl hp
   exact ⟨ao, c, by have := hbx.cell 35 (by omega); rw [show cs 35 = _ from e] at this; exact this⟩
  | 12, _ =>
   have hp := (h.k 12 (by omega)).ob
   rw [hE 12 (by omega) (by omega) (by omega) (by omega)] at hp
   obtain ⟨ao, c, e⟩ := own_sl hp
   exact ⟨ao, c, by have := hbx.cell 38 (by omega); rw [show cs 38 = _ from e] at this; exact this⟩
  | n + 13, h => omega
 have het : ∀ i j, i < 13 → j < 13 → i ≠ j → ∀ s ∈ L i, ∀ u ∈ L j, s.g ≠ u.g := fun i j hi hj hne s hs u hu => by
  have hi' : i = 0 ∨ i = 3 ∨ i = 7 := by
   apply Classical.byContradiction
   intro hc
   have := hE i hi (fun e => hc (by simp [e])) (fun e => hc (by simp [e])) (fun e => hc (by simp [e]))
   rw [this] at hs
   simp at hs
  have hj' : j = 0 ∨ j = 3 ∨ j = 7 := by
   apply Classical.byContradiction
   intro hc
   have := hE j hj (fun e => hc (by simp [e])) (fun e => hc (by simp [e])) (fun e => hc (by simp [e]))
   rw [this] at hu
   simp at hu
  refine ((h.k i hi).ok s hs).2.2.2.1.ne ((h.k j hj).ok u hu).2.2.2.1 ?_
  rcases hi' with rfl | rfl | rfl <;> rcases hj' with rfl | rfl | rfl <;> first | exact absurd rfl hne | decide
 have hX : Cross (kfam (knD kdB B w.heap.size (cs 2) r0 c0 (L 0) (unt0 B (cs 3) s0 d0 ((L 0).map Lst.v) (ys 0))) (knL B w.heap.size (cs 11) r3 c3 (L 3) (unt3 B (cs 12) s3 d3 ((L 3).map Lst.v) (ys 3))) (knD kdY B w.heap.size (cs 23) r7 c7 (L 7) (unt7 B (cs 24) s7 d7 ((L 7).map Lst.v) (ys 7))) B) := fun i j hi hj hne b hb hn => by
  obtain ⟨s, hs, rfl⟩ := hown i hi b hb
  have hf := ((h.k i hi).ok s hs).2.2.2.2
  rcases hneed j hj _ hn with ⟨u, hu, e⟩ | e | e
  ·exact het i j hi hj hne s hs u hu e.symm
  ·exact hf.2 _ (by omega) e
  ·have := hf.1; omega
 refine kn_finish (I := fun v => w0.grownBy v none ∧ wl.grownBy v (some B)) (by omega) hall hX (fun v v' row hv hg' hr => ?_) (fun v i u hv => ⟨grown_new hv.1 (kset_grown v B i u) (by omega), grown_trans hv.2 (kset_grown v B i u)⟩) ?_ w (Nat.le_refl _) hzz (by rw [← h.t.c0]; exact hbx.cell 0 (by omega)) pass (hbx.fz 1 (by omega)) ⟨hg, hwl⟩
 ·have hrow : ∀ i, row = some i → w.heap.size ≤ i ∨ ∃ j, j < 13 ∧ ∃ s ∈ L j, s.g = i := fun i e => by
   rcases hr i e with ⟨j, hj, ho⟩ | hi
   ·exact Or.inr ⟨j, hj, hown j hj i ho⟩
   ·exact Or.inl hi
  have hb : ∀ i, row = some i → base ≤ i := fun i e => by
   rcases hrow i e with h1 | ⟨j, hj, s, hs, rfl⟩
   ·omega
   ·exact hge j hj s hs
  refine ⟨?_, ?_⟩
  ·cases row with
   | none => exact grown_trans hv.1 hg'
   | some i => exact grown_new hv.1 hg' (by have := hb i rfl; omega)
  ·exact ⟨hg'.os.trans hv.2.os, hg'.tape.trans hv.2.tape, hg'.output.trans hv.2.output, Nat.le_trans hv.2.size hg'.size, fun i hi hne => (hg'.block i (Nat.lt_of_lt_of_le hi hv.2.size) (fun e => by have := hb i e.symm; omega)).trans (hv.2.block i hi hne)⟩
 ·simp only [kid0, kfam, knD, knL, knE]
  omega
end Go.Proofs.YtnfelndfpmnkmaaGreatDoor
