import Derived.Test.YtiljdhhfhjhhiaaDkA
import Derived.Deep.RegionWith
import Derived.Deep.RegionHeld3
namespace Go.Proofs.Ytiljdhhfhjhhiaa
open Go.RowKit Go.MuLone

/-- A list of writes that was made since w: block g, each Data in a block of its own. -/
structure Wl (w w' : World) (g : Nat) (ql : List (Nat × Nat × List Int)) : Prop where
  row : w'.heap[g]? = some (.cells (wcells ql).toArray 90 (0, 0))
  ge : w.heap.size ≤ g
  rw : ∀ p ∈ ql, Rw w' p.2.1 p.2.2 ∧ g < p.2.1 ∧ p.2.2.length = 4096 ∧ Bt p.2.2
  pw : ql.Pairwise fun p q => p.2.1 < q.2.1

/-- While the list is made. -/
structure Wk (wr : World) (g n : Nat) (ql : List (Nat × Nat × List Int)) : Prop where
  row : ∃ cur : Array Value, wr.heap[g]? = some (.cells cur 90 (0, 0)) ∧ cur.size = n * 2 ∧ ∀ j p, ql[j]? = some p → cur[j * 2]? = some (.int .i64 p.1) ∧ cur[j * 2 + 1]? = some (pv p.2.1)
  rw : ∀ p ∈ ql, Rw wr p.2.1 p.2.2 ∧ g < p.2.1 ∧ p.2.2.length = 4096 ∧ Bt p.2.2
  pw : ql.Pairwise fun p q => p.2.1 < q.2.1

theorem Wk.next {wr W2 : World} {g n no b : Nat} {z : List Int} {ql : List (Nat × Nat × List Int)} (h : Wk wr g n ql) (hn : ql.length < n) (hg : wr.grownBy W2 none) (hb : wr.heap.size ≤ b) (hr : Rw W2 b z) (hz : z.length = 4096) (bz : Bt z) :
    Wk ((W2.setCell ⟨g, ql.length * 2, none⟩ (.int .i64 no)).setCell ⟨g, ql.length * 2 + 1, none⟩ (pv b)) g n (ql ++ [(no, b, z)]) := by
  obtain ⟨cur, h1, h2, h3⟩ := h.row
  have hgl := (Array.getElem?_eq_some_iff.1 h1).1
  have k1 : W2.heap[g]? = some (.cells cur 90 (0, 0)) := (hg.block g hgl (by simp)).trans h1
  have k2 := heap_setCell_same W2 g (ql.length * 2) _ _ (.int .i64 no) k1
  have k3 := heap_setCell_same _ g (ql.length * 2 + 1) _ _ (pv b) k2
  have gg : W2.grownBy ((W2.setCell ⟨g, ql.length * 2, none⟩ (.int .i64 no)).setCell ⟨g, ql.length * 2 + 1, none⟩ (pv b)) (some g) := grown_trans (grown_cell _ _ _ _) (grown_cell _ _ _ _)
  refine ⟨⟨_, k3, by simp [h2], fun j p hj => ?_⟩, fun p hp => ?_, ?_⟩
  · rw [Array.getElem?_setIfInBounds, Array.getElem?_setIfInBounds, Array.getElem?_setIfInBounds, Array.getElem?_setIfInBounds]
    by_cases hjl : j < ql.length
    · rw [List.getElem?_append_left hjl] at hj
      obtain ⟨a, b⟩ := h3 j p hj
      rw [if_neg (by omega), if_neg (by omega), if_neg (by omega), if_neg (by omega)]
      exact ⟨a, b⟩
    · have hj2 : j < (ql ++ [(no, b, z)]).length := (List.getElem?_eq_some_iff.1 hj).1
      rw [List.length_append, List.length_singleton] at hj2
      obtain rfl : j = ql.length := by omega
      simp at hj
      subst hj
      rw [if_neg (by omega), if_pos rfl, if_pos (by omega), if_pos rfl, if_pos (by rw [Array.size_setIfInBounds]; omega)]
      exact ⟨rfl, rfl⟩
  · rcases List.mem_append.1 hp with x | x
    · obtain ⟨a1, a2, a3⟩ := h.rw p x
      exact ⟨(a1.keptN hg).kept gg (fun e => by have := Option.some.inj e; omega), a2, a3⟩
    · simp at x
      subst x
      exact ⟨hr.kept gg (fun e => by have := Option.some.inj e; omega), by show g < b; omega, hz, bz⟩
  · rw [List.pairwise_append]
    refine ⟨h.pw, by simp, fun p hp q hq => ?_⟩
    simp at hq
    subst hq
    have e := (h.rw p hp).1.lt
    exact Nat.lt_of_lt_of_le e hb
theorem Wk.fin {wr : World} {g n : Nat} {ql : List (Nat × Nat × List Int)} (h : Wk wr g n ql) (hn : ql.length = n) : wr.heap[g]? = some (.cells (wcells ql).toArray 90 (0, 0)) := by
  obtain ⟨cur, h1, h2, h3⟩ := h.row
  rw [h1]
  congr 2
  apply Array.ext
  · simp [wcells_len, h2, hn]
  · intro i hi hj
    have hjl : i / 2 < ql.length := by omega
    obtain ⟨p, hp⟩ : ∃ p, ql[i / 2]? = some p := ⟨_, List.getElem?_eq_getElem hjl⟩
    obtain ⟨a, b⟩ := h3 _ _ hp
    obtain ⟨c, d⟩ := wcells_at _ _ _ hp
    have e : cur[i]? = (wcells ql)[i]? := by
      rcases Nat.mod_two_eq_zero_or_one i with m | m
      · have e : i = i / 2 * 2 := by omega
        have e2 : i = 2 * (i / 2) := by omega
        rw [show cur[i]? = cur[i / 2 * 2]? from congrArg (cur[·]?) e, show (wcells ql)[i]? = (wcells ql)[2 * (i / 2)]? from congrArg ((wcells ql)[·]?) e2, a, c]
      · have e : i = i / 2 * 2 + 1 := by omega
        have e2 : i = 2 * (i / 2) + 1 := by omega
        rw [show cur[i]? = cur[i / 2 * 2 + 1]? from congrArg (cur[·]?) e, show (wcells ql)[i]? = (wcells ql)[2 * (i / 2) + 1]? from congrArg ((wcells ql)[·]?) e2, b, d]
    rw [Array.getElem?_eq_getElem hi] at e
    have e3 : (wcells ql).toArray[i]? = some ((wcells ql).toArray[i]) := Array.getElem?_eq_getElem hj
    rw [List.getElem?_toArray, ← e] at e3
    exact Option.some.inj e3

theorem Wk.cell {wr W : World} {g n : Nat} {ql : List (Nat × Nat × List Int)} (h : Wk wr g n ql) (hg : wr.grownBy W none) (i : Nat) (hi : i < n * 2) : (∃ v, W.cell? ⟨g, i, none⟩ = some v) ∧ W.frozen? ⟨g, i, none⟩ = false := by
  obtain ⟨cur, h1, h2, h3⟩ := h.row
  have hgl := (Array.getElem?_eq_some_iff.1 h1).1
  have k1 : W.heap[g]? = some (.cells cur 90 (0, 0)) := (hg.block g hgl (by simp)).trans h1
  exact ⟨⟨cur[i]'(by omega), by rw [cell_of_row W g i _ _ _ k1]; exact Array.getElem?_eq_getElem (by omega)⟩, frozen_of_row W g i _ _ k1⟩

set_option maxHeartbeats 4000000 in
set_option maxRecDepth 4000 in
theorem pending_any {w : World} {B : Nat} {F : Nat → Prop} {d : Dd} (hk : Dk w B F d) (hd : d.done < 1099511627776) :
    Calls Try.prog 26 #[.pointer (some ⟨B, 0, none⟩)] w fun e w' => ∃ g ql, e = .returned (.slice (some ⟨g, 0, none⟩) d.pl.length d.pl.length) ∧ Wl w w' g ql ∧ (ql.map fun p => (p.1, p.2.2)) = d.pl.map (fun p => (p.1, p.2.2)) ∧ Bx w' B 0 d ∧ w.grownBy w' (some B) := by
  obtain ⟨i0, hi, hz0, hz1, hz2⟩ := info_parts info_write
  have hb := hk.bx
  have hpl : d.pl.length < 1099511627776 := Nat.lt_of_le_of_lt hk.dm.pc hd
  have HK := hid_intro hk
  clear hk
  go_enter_defers Try.func26, Try.ntmps26
  go_wp2_with fail
  refine (lock_b hb).mono ?_
  rintro e w1 ⟨rfl, hb1, hg1⟩
  have hm1 := HK.out.dm.box HK.out.bx hg1
  have c4 := hb1.c4
  obtain ⟨al, cl, ev⟩ := owns_slice hm1.pr
  rw [ev] at c4
  have EV := hid_intro ev
  have B1 := hid_intro hb1
  have M1 := hid_intro hm1
  have G1 := hid_intro hg1
  clear hb1 hm1 hg1 ev hb
  go_wp2_with (at_make; refine wpList_make_full _ rfl _ _ 50 rfl w1.heap.size 90 i0 (.agg #[.int .i64 0, .slice none 0 0]) 2 Try.underlying50 hi hz0 hz1 _ _ _ _ d.pl.length rfl rfl rfl rfl ?b2 ?b3 (Nat.le_refl _) ?_)
  case b2 => rw [hz2]; omega
  case b3 => unfold maxLen; omega
  intro w0 hown0 hgrow0
  have K0 : Hid (Wk w0 w1.heap.size d.pl.length []) := by
    rcases hown0 with ⟨hl, ⟨h0, _⟩ | ⟨g', cap, cur, hv, _, hg, _, _, hs, ht⟩⟩
    · cases h0
    · injection hv with e1 e2 e3
      injection e1 with e1
      injection e1 with e4
      subst e4 e3
      exact ⟨⟨cur, hg, hs, fun j p hj => by simp at hj⟩, (fun p hp => by cases hp), List.Pairwise.nil⟩
  have c4' := (B1.out.kept hgrow0 (by simp)).c4
  rw [EV.out] at c4'
  have G0 := hid_intro hgrow0
  clear hown0 hgrow0 c4
  go_wp2_with fail
  go_loopw [24] (fun si wr => ∃ k ql, k ≤ d.pl.length ∧ si = .int .i64 (k : Nat) ∧ ql.length = k ∧ Wk wr w1.heap.size d.pl.length ql ∧ (ql.map fun p => (p.1, p.2.2)) = (d.pl.take k).map (fun p => (p.1, p.2.2)) ∧ w1.grownBy wr none) (fun si _ => d.pl.length - (intOf si).toNat)
  case atStart => exact ⟨0, [], Nat.zero_le _, rfl, rfl, K0.out, rfl, G0.out⟩
  case round =>
    obtain ⟨k, ql, hk, rfl, hql, hwk, hab, hg⟩ := hrel
    by_cases hlt : k < d.pl.length
    · have hlt' : (k : Int) < (d.pl.length : Int) := by omega
      have mR := M1.out.keptN hg
      obtain ⟨gP, capP, curP, hv, _, hgP, hcap, _⟩ := mR.pr.2.resolve_left (fun e => by have := e.2; omega)
      have hv2 := EV.out
      rw [hv] at hv2
      simp only [Value.slice.injEq] at hv2
      obtain ⟨rfl, _, rfl⟩ := hv2
      have hx : d.pl[k]? = some d.pl[k] := List.getElem?_eq_getElem hlt
      revert hx
      generalize d.pl[k] = x
      intro hx
      obtain ⟨no, h, z⟩ := x
      have own := mR.pr
      rw [hv] at own
      have q0 : wr.cell? ⟨gP, k * 2, none⟩ = some (.int .i64 no) := by
        rw [own.cellAt (k * 2) (by omega), Nat.mul_comm]; exact (wcells_at _ _ _ hx).1
      have q1 : wr.cell? ⟨gP, k * 2 + 1, none⟩ = some (.slice (some ⟨h, 0, none⟩) 4096 4096) := by
        rw [own.cellAt (k * 2 + 1) (by omega), Nat.mul_comm]; exact (wcells_at _ _ _ hx).2
      have PB := hid_intro (mR.pp _ (List.mem_of_getElem? hx)).1
      have HX := hid_intro hx
      have HG := hid_intro hg
      have HWK := hid_intro hwk
      have HAB := hid_intro hab
      clear mR hgP hcap hx hg c4' own hab hwk
      have HT : Hid (∀ W : World, wr.grownBy W none → Calls Try.prog 32 #[.slice (some ⟨h, 0, none⟩) 4096 4096] W fun en w' => en = .returned (.slice (some ⟨W.heap.size, 0, none⟩) 4096 4096) ∧ Rw w' W.heap.size z ∧ W.grownBy w' none) := fun W hW => twin_any _ _ _ _ W (PB.out.byt.keptN hW) (by omega)
      go_wp2_with fail
      refine wp_region_noPanic ?_
      go_region_with (go_at_call 32; refine (HT.out _ (grown_trans (World.grownBy_alloc wr _ none) ((Qt.refl _).drew.grown none))).mono ?_; rintro en w3 ⟨rfl, hr3, hg3⟩; have G3 := hid_intro (grown_trans (grown_trans (World.grownBy_alloc wr (.cells #[.int .i64 no, .slice (some ⟨h, 0, none⟩) 4096 4096] 90) none) ((Qt.refl _).drew.grown none)) hg3); have R3 := hid_intro hr3; have y0 : w3.cell? ⟨wr.heap.size, 0, none⟩ = some (.int .i64 no) := hg3.cell (cell_of_row _ _ 0 _ _ _ (heap_alloc_new wr _)) (by simp); obtain ⟨⟨v0, x0⟩, f0⟩ := HWK.out.cell G3.out (k * 2) (by omega); obtain ⟨⟨v1, x1⟩, f1⟩ := HWK.out.cell G3.out (k * 2 + 1) (by omega); clear hr3 hg3)
      all_goals
        refine NoPanic.normal ?_
        go_wp2
        go_roundw
        case rel =>
          refine ⟨k + 1, ql ++ [(no, wr.heap.size + 1, z)], by omega, by go_num, by rw [List.length_append, hql]; rfl, ?_, ?_, ?_⟩
          · have r3 := R3.out
            have := HWK.out.next (no := no) (by omega) G3.out (Nat.le_succ _) (show Rw w3 (wr.heap.size + 1) z by simpa using r3) PB.out.len PB.out.bt
            rw [hql] at this
            exact this
          · rw [List.map_append, HAB.out, List.take_add_one, HX.out, Option.toList_some, List.map_append]
            rfl
          · exact grown_new (grown_new (grown_trans HG.out G3.out) (grown_cell _ _ _ _) (Nat.le_refl _)) (grown_cell _ _ _ _) (Nat.le_refl _)
        case measure => simp [intOf]; omega
    · obtain rfl : k = d.pl.length := by omega
      rw [List.take_length] at hab
      have bR := B1.out.kept hg (by simp)
      have HG := hid_intro hg
      have HWK := hid_intro hwk
      have HAB := hid_intro hab
      clear hg hwk hab c4'
      go_wp2_with fail
      refine leaves_cons (f := 46) (args := #[.pointer (some ⟨B, 0, none⟩)]) (by simp) (by simp [go_sem]) ?_
      refine (unlock_b .returning bR).mono ?_
      rintro e u' w5 ⟨rfl, rfl, hb5, hg5⟩
      have s1 := G1.out.size
      have hBl := HK.out.dm.low B HK.out.fb
      refine ⟨_, results_tmp rfl _ _ _, _, ql, rfl, ⟨?_, s1, fun p hp => ?_, HWK.out.pw⟩, HAB.out, hb5, grown_trans (grown_trans G1.out (grown_any HG.out)) hg5⟩
      · have := HWK.out.fin hql
        exact (hg5.block _ (Array.getElem?_eq_some_iff.1 this).1 (fun e => by have := Option.some.inj e; omega)).trans this
      · obtain ⟨a1, a2, a3⟩ := HWK.out.rw p hp
        exact ⟨a1.kept hg5 (fun e => by have := Option.some.inj e; omega), a2, a3⟩

theorem dz_pending {w : World} {B : Nat} {F : Nat → Prop} {s : Ds} (h : Dz w B F s) (hd : s.done < 1099511627776) : Calls Try.prog 26 #[.pointer (some ⟨B, 0, none⟩)] w fun e w' => ∃ g ql, e = .returned (.slice (some ⟨g, 0, none⟩) s.Q.length s.Q.length) ∧ Wl w w' g ql ∧ (ql.map fun p => (p.1, p.2.2)) = s.Q ∧ Dz w' B F s ∧ Kp w w' F := by
  obtain ⟨d, hk, rfl⟩ := h
  refine (pending_any hk hd).mono ?_
  rintro e w' ⟨g, ql, rfl, h1, h2, h3, h4⟩
  exact ⟨g, ql, by simp [Dd.abs], h1, h2, hk.asked rfl h3 h4⟩
end Go.Proofs.Ytiljdhhfhjhhiaa
