import Derived.Test.YtiljdhhfhjhhiaaRzA
import Derived.Test.YtiljdhhfhjhhiaaDkP
import Derived.Deep.RegionWith
namespace Go.Proofs.Ytiljdhhfhjhhiaa
open Go.RowKit Go.MuLone

set_option maxHeartbeats 1000000 in
theorem sameWrite_yes (no g1 g2 : Nat) (z : List Int) (w : World) (h1 : Byt w (some ⟨g1, 0, none⟩) 4096 4096 z) (h2 : Byt w (some ⟨g2, 0, none⟩) 4096 4096 z) : Calls Try.prog 57 #[.agg #[.int .i64 no, .slice (some ⟨g1, 0, none⟩) 4096 4096], .agg #[.int .i64 no, .slice (some ⟨g2, 0, none⟩) 4096 4096]] w fun e w' => e = .returned (.bool true) ∧ w.grownBy w' none := by
  have gA : w.grownBy ((w.alloc (.cells #[.int .i64 no, .slice (some ⟨g1, 0, none⟩) 4096 4096] 90)).alloc (.cells #[.int .i64 no, .slice (some ⟨g2, 0, none⟩) 4096 4096] 90)) none := grown_trans (World.grownBy_alloc _ _ _) (World.grownBy_alloc _ _ _)
  have HA := hid_intro (h1.keptN gA)
  have HB := hid_intro (h2.keptN gA)
  have GA := hid_intro gA
  clear h1 h2 gA
  go_enter Try.func57, Try.ntmps57
  go_wp2_with fail
  refine (same_yes _ _ _ _ _ _ z z _ HA.out HB.out rfl).mono ?_
  rintro e w1 ⟨rfl, rfl⟩
  go_wp2
  go_ret
  exact ⟨rfl, GA.out⟩

/-- Writes in memory. -/
structure Wc (w : World) (ao : Option Addr) (ql : List (Nat × Nat × List Int)) : Prop where
  ats : ∀ j p, ql[j]? = some p → ∃ b, ao = some ⟨b, 0, none⟩ ∧ w.cell? ⟨b, j * 2, none⟩ = some (.int .i64 p.1) ∧ w.cell? ⟨b, j * 2 + 1, none⟩ = some (.slice (some ⟨p.2.1, 0, none⟩) 4096 4096) ∧ Byt w (some ⟨p.2.1, 0, none⟩) 4096 4096 p.2.2
theorem Wc.keptN {w w' : World} {ao : Option Addr} {ql : List (Nat × Nat × List Int)} (h : Wc w ao ql) (hg : w.grownBy w' none) : Wc w' ao ql := by
  refine ⟨fun j p hj => ?_⟩
  obtain ⟨b, e, h1, h2, h3⟩ := h.ats j p hj
  exact ⟨b, e, hg.cell h1 (by simp), hg.cell h2 (by simp), h3.keptN hg⟩

set_option maxHeartbeats 4000000 in
set_option maxRecDepth 4000 in
theorem sameWrites_yes (ao bo : Option Addr) (n c1 c2 : Nat) (ql rl : List (Nat × Nat × List Int)) (w : World) (ha : Wc w ao ql) (hb : Wc w bo rl) (hq : ql.length = n) (e : ql.map ab12 = rl.map ab12) (hn : n < 1099511627776) : Calls Try.prog 42 #[.slice ao n c1, .slice bo n c2] w fun e w' => e = .returned (.bool true) ∧ w.grownBy w' none := by
  have hrl : rl.length = n := by have := congrArg List.length e; rw [List.length_map, List.length_map] at this; omega
  have HA := hid_intro ha
  have HB := hid_intro hb
  have HE := hid_intro e
  have HQ := hid_intro hq
  have HR := hid_intro hrl
  clear ha hb e hq hrl
  go_enter Try.func42, Try.ntmps42
  go_wp2_with fail
  go_loopw [5] (fun si wr => ∃ k : Nat, k ≤ n ∧ si = .int .i64 (k : Int) ∧ w.grownBy wr none) (fun si _ => n - (intOf si).toNat)
  case atStart => exact ⟨0, Nat.zero_le _, rfl, World.grownBy.refl _ _⟩
  case round =>
    obtain ⟨k, hk, rfl, hg⟩ := hrel
    by_cases hlt : k < n
    · have hlt' : (k : Int) < (n : Int) := by omega
      obtain ⟨p, h1⟩ : ∃ p, ql[k]? = some p := ⟨_, List.getElem?_eq_getElem (by have := HQ.out; omega)⟩
      obtain ⟨q, h2⟩ : ∃ q, rl[k]? = some q := ⟨_, List.getElem?_eq_getElem (by have := HR.out; omega)⟩
      obtain ⟨no, g1, z⟩ := p
      obtain ⟨no2, g2, z2⟩ := q
      have he : (ql.map ab12)[k]? = (rl.map ab12)[k]? := by rw [HE.out]
      rw [List.getElem?_map, List.getElem?_map, h1, h2] at he
      simp only [Option.map_some, Option.some.injEq, ab12, Prod.mk.injEq] at he
      obtain ⟨rfl, rfl⟩ := he
      obtain ⟨b1, rfl, x1, x2, x3⟩ := (HA.out.keptN hg).ats k _ h1
      obtain ⟨b2, rfl, y1, y2, y3⟩ := (HB.out.keptN hg).ats k _ h2
      simp only at x1 x2 y1 y2
      have HS : Hid (∀ W : World, wr.grownBy W none → Calls Try.prog 57 #[.agg #[.int .i64 no, .slice (some ⟨g1, 0, none⟩) 4096 4096], .agg #[.int .i64 no, .slice (some ⟨g2, 0, none⟩) 4096 4096]] W fun e w' => e = .returned (.bool true) ∧ W.grownBy w' none) := fun W hW => sameWrite_yes no g1 g2 z W (x3.keptN hW) (y3.keptN hW)
      have HG := hid_intro hg
      clear hg h1 h2 x3 y3
      go_wp2_with fail
      go_region_with (go_at_call 57; refine (HS.out _ ((Qt.refl wr).drew.grown none)).mono ?_; rintro en w3 ⟨rfl, hg3⟩; have G3 := hid_intro (grown_trans HG.out (grown_trans ((Qt.refl wr).drew.grown none) hg3)); clear hg3)
      all_goals
        go_wp2
        go_roundw
        case rel => exact ⟨k + 1, by omega, by go_num, G3.out⟩
        case measure => simp [intOf]; omega
    · have hlt' : ¬ (k : Int) < (n : Int) := by omega
      go_wp2
      go_ret
      exact ⟨rfl, hg⟩

/-- What the program hands out. -/
theorem Wl.wc {w w' : World} {g : Nat} {ql : List (Nat × Nat × List Int)} (h : Wl w w' g ql) : Wc w' (some ⟨g, 0, none⟩) ql := by
  refine ⟨fun j p hj => ?_⟩
  have hc := fun i => cell_of_row w' g i _ _ _ h.row
  obtain ⟨a1, a2, a3, a4⟩ := h.rw p (List.mem_of_getElem? hj)
  refine ⟨g, rfl, ?_, ?_, a1.all 4096 4096 a3.symm⟩
  · rw [hc, List.getElem?_toArray, Nat.mul_comm]; exact (wcells_at _ _ _ hj).1
  · rw [hc, List.getElem?_toArray, Nat.mul_comm]; exact (wcells_at _ _ _ hj).2
/-- What the document's disk has. -/
theorem Rk.wc {w : World} {B : Nat} {F : Nat → Prop} {d : Dd} (h : Rk w B F d) : ∃ ao c, d.vP = .slice ao d.pl.length c ∧ Wc w ao d.pl := by
  obtain ⟨ao, c, ev⟩ := owns_slice h.dm.pr
  refine ⟨ao, c, ev, ⟨fun j p hj => ?_⟩⟩
  obtain ⟨g, cap, hv, h1, h2⟩ := h.pend j p hj
  rw [ev] at hv
  simp only [Value.slice.injEq] at hv
  exact ⟨g, hv.1, h1, h2, (h.dm.pp p (List.mem_of_getElem? hj)).1.byt⟩
end Go.Proofs.Ytiljdhhfhjhhiaa
