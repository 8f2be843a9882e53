import Derived.Test.YthkjdoipblcfkaaKeys5
import Derived.ProofKit
import Derived.OpenShut
import Derived.Deep.Slices
namespace Go.Proofs.Ythkjdoipblcfkaa
open Go.ChangeShapes Go.WideShapes Go.ChangeAt Go.WideMaps Go.WideElems Go.RowKit Go.Deep

theorem cells_bytes : Try.prog.cellsOf 22 = 1 := by kernel_rfl
theorem cell_plain {w : World} {a : Addr} {v : Value} (h : w.cell? a = some v) : ∃ b off, a = ⟨b, off, none⟩ := by
  obtain ⟨b, off, spot⟩ := a
  have : spot = none := World.cell?_spot h
  exact ⟨b, off, by rw [this]⟩

theorem bytes_open {H : Type} {enc : TypeId × Value → H} {w : World} {base : Nat} {held : Bool} {fuel : Nat} {cs : List Value} {x : DataW H × List MemPlace}
    (h : DataW.trod enc Try.prog w base (fun _ => true) held fuel 22 cs = some x) : ∃ ao n c zs, cs = [.slice ao n c] ∧ Byt w ao n c zs ∧ Bt zs ∧ n ≤ c ∧ c ≤ 9223372036854775807 := by
  rcases open_ints Try.underlying22 Try.underlying5 (by kernel_rfl) h with ⟨hcs, _⟩ | ⟨x, l, c, zs, hcs, _, hl, hm, hz, _, hcell, hwz⟩
  · exact ⟨none, 0, 0, [], hcs, Byt.empty w, Bt.nil, Nat.le_refl _, by omega⟩
  · obtain ⟨h1, h2, h3, h4⟩ := byt_of_row (zs := zs) (.inr ⟨_, rfl, hl, hm, by simpa using hz, hcell, hwz⟩)
    exact ⟨_, _, _, _, hcs, h1, h2, h3, h4⟩

theorem list_of {P : Nat → List Int → Prop} : ∀ (n : Nat), (∀ i, i < n → ∃ zs, P i zs) → ∃ L : List (List Int), L.length = n ∧ ∀ i, i < n → P i (L.getD i [])
  | 0, _ => ⟨[], rfl, fun i hi => by omega⟩
  | n + 1, h => by
    obtain ⟨L, hl, hL⟩ := list_of n (fun i hi => h i (by omega))
    obtain ⟨z, hz⟩ := h n (by omega)
    refine ⟨L ++ [z], by simp [hl], fun i hi => ?_⟩
    by_cases hin : i < n
    · have e : (L ++ [z]).getD i [] = L.getD i [] := by simp [List.getD, List.getElem?_append_left (show i < L.length by omega)]
      rw [e]; exact hL i hin
    · have : i = n := by omega
      subst this
      have e : (L ++ [z]).getD i [] = z := by subst hl; simp [List.getD]
      rw [e]; exact hz

theorem rows_open {H : Type} {enc : TypeId × Value → H} {w : World} {base : Nat} {held : Bool} {fuel : Nat} {a : Option Addr} {len cap : Nat} {x : DataW H × List MemPlace}
    (h : DataW.trod enc Try.prog w base (fun _ => true) held fuel 26 [.slice a len cap] = some x) : ∃ L, Lz w a L ∧ L.length = len ∧ len ≤ cap ∧ cap ≤ 9223372036854775807 := by
  rcases open_slice Try.underlying26 h with ⟨hcs, _⟩ | ⟨ad, l, c, m, n, D, Pl, hcs, _, hl, hm, hmm, _, hel⟩
  · simp at hcs
    obtain ⟨rfl, rfl, rfl⟩ := hcs
    exact ⟨[], Lz.zero w _, rfl, Nat.le_refl _, by omega⟩
  · simp at hcs
    obtain ⟨rfl, rfl, rfl⟩ := hcs
    have hlm : len ≤ m := by rw [hmm]; split <;> omega
    have each : ∀ i, i < len → ∃ zs ao n c, w.cell? ((ad.add (i * 1)).add 0) = some (.slice ao n c) ∧ Byt w ao n c zs ∧ n ≤ c ∧ c ≤ 9223372036854775807 := by
      intro i hi
      obtain ⟨cs', h1, h2⟩ := hel i (by omega)
      rw [cells_bytes] at h1
      obtain ⟨ao, n2, c2, zs, rfl, hb, _, k1, k2⟩ := bytes_open h2
      obtain ⟨_, _, hc⟩ := World.cells?_some h1
      exact ⟨zs, ao, n2, c2, by simpa using hc 0 (by omega), hb, k1, k2⟩
    clear hel
    obtain ⟨L, hLl, hL⟩ := list_of len each
    refine ⟨L, ⟨fun i hi => ?_⟩, hLl, hl, by unfold maxLen at hm; omega⟩
    obtain ⟨b, off, rfl⟩ : ∃ b off, ad = ⟨b, off, none⟩ := by
      obtain ⟨_, _, _, _, h6, _⟩ := each 0 (by omega)
      have e' : (ad.add (0 * 1)).add 0 = ad := by simp [Addr.add]
      rw [e'] at h6
      exact cell_plain h6
    obtain ⟨ao, n2, c2, h3, hb, k1, k2⟩ := hL i (by omega)
    refine ⟨b, off, ao, n2, c2, rfl, ?_, hb, k1, k2⟩
    simp only [Addr.add_lit, Nat.mul_one, Nat.add_zero] at h3
    exact h3

theorem commonAll_any (a : Option Addr) (n cap : Nat) (L : List (List Int)) (w : World) (hl : Lz w a L) (hn : L.length = n) (hc : n ≤ cap) (hcap : cap ≤ 9223372036854775807) :
    Calls Try.prog 13 #[.slice a n cap] w fun en w' => en = .returned (.int .i64 ((comList L : Nat) : Int)) ∧ w.grownBy w' none := by
  subst hn
  cases L with
  | nil => exact (commonAll_none a cap w).mono fun en w' ⟨h1, h2⟩ => ⟨h1, by rw [h2]; exact World.grownBy.refl _ _⟩
  | cons z L => exact commonAll_some a cap z L w hl hc hcap
theorem refAll_any (a : Option Addr) (n cap : Nat) (L : List (List Int)) (w : World) (hl : Lz w a L) (hn : L.length = n) (hc : n ≤ cap) (hcap : cap ≤ 9223372036854775807) :
    Calls Try.prog 15 #[.slice a n cap] w fun en w' => en = .returned (.int .i64 ((comList L : Nat) : Int)) ∧ Dr w w' := by
  subst hn
  cases L with
  | nil => exact (refAll_none a cap w).mono fun en w' ⟨h1, h2⟩ => ⟨h1, by rw [h2]; exact Dr.refl _⟩
  | cons z L => exact refAll_some a cap z L w hl hc hcap

set_option maxHeartbeats 1000000 in
theorem common_walk (a0 : Option Addr) (n0 c0 : Nat) (z0 : List Int) (a1 : Option Addr) (n1 c1 : Nat) (z1 : List Int) (a2 : Option Addr) (n2 c2 : Nat) (L : List (List Int)) (w : World) (b0 : Byt w a0 n0 c0 z0) (_t0 : Bt z0) (l0 : n0 ≤ c0) (k0 : c0 ≤ 140737488351232) (b1 : Byt w a1 n1 c1 z1) (_t1 : Bt z1) (l1 : n1 ≤ c1) (k1 : c1 ≤ 140737488351232) (b2 : Lz w a2 L) (t2 : L.length = n2) (l2 : n2 ≤ c2) (k2 : c2 ≤ 9223372036854775807) :
    Calls Try.prog 4 #[.slice a0 n0 c0, .slice a1 n1 c1, .slice a2 n2 c2] w fun en w' => en = .returned (.bool true) ∧ w.grownBy w' none := by
  have H0 := hid_intro b0
  have H1 := hid_intro b1
  have H2 := hid_intro b2
  have HL := hid_intro t2
  clear b0 b1 b2 t2
  go_enter Try.func4, Try.ntmps4
  go_wp2_with fail
  refine (first3_any w).mono ?_
  rintro en w1 ⟨rfl, hg⟩
  have G1 := hid_intro hg
  clear hg
  go_wp2_with fail
  refine (common_any _ _ _ _ _ _ z0 z1 w1 (H0.out.keptN G1.out) (H1.out.keptN G1.out) (by omega) (by omega)).mono ?_
  rintro en w2 ⟨rfl, hq⟩
  have G2 := hid_intro (grown_trans G1.out (hq.qt.grown none))
  clear hq
  go_wp2_with fail
  refine (commonAll_any _ _ _ L w2 (H2.out.keptN G2.out) HL.out l2 k2).mono ?_
  rintro en w3 ⟨rfl, hq⟩
  have G3 := hid_intro (grown_trans G2.out hq)
  clear hq
  go_wp2_with fail
  refine (refCommon_any _ _ _ _ _ _ z0 z1 w3 (H0.out.keptN G3.out) (H1.out.keptN G3.out) (by omega) (by omega)).mono ?_
  rintro en w4 ⟨rfl, hq⟩
  have G4 := hid_intro (grown_trans G3.out (hq.qt.grown none))
  clear hq
  go_wp2_with fail
  refine (refAll_any _ _ _ L w4 (H2.out.keptN G4.out) HL.out l2 k2).mono ?_
  rintro en w5 ⟨rfl, hq⟩
  have G5 := hid_intro (grown_trans G4.out (hq.qt.grown none))
  clear hq
  go_wp2
  go_ret
  exact ⟨ret_bool (by simp), G5.out⟩
end Go.Proofs.Ythkjdoipblcfkaa
