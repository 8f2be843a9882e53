import Derived.Test.YtioleabkbkmggaaDoorDuQ
namespace Go.Proofs.YtioleabkbkmggaaDoor
open Go.RowKit

theorem row_cells20 {w : World} {base n e sz : Nat} {a : Option Addr} {c : Nat} {xs : List Value} (ho : w.ownsRow base e sz (.slice a n c) n xs) (hn : 0 < n) : ∃ G, a = some ⟨G, 0, none⟩ ∧ n ≤ c ∧ ∀ j u, xs[j]? = some u → w.cell? ⟨G, j, none⟩ = some u := by
  rcases ho.2 with ⟨_, e2⟩ | ⟨g, cap, cur, e1, _, e3, e4, e5, e6, e7⟩
  · omega
  · simp only [Value.slice.injEq] at e1
    obtain ⟨rfl, _, rfl⟩ := e1
    refine ⟨g, rfl, e4, fun j u hu => ?_⟩
    rw [cell_of_row w g j cur _ _ e3, ← Array.getElem?_toList]
    rw [← e7, List.getElem?_take] at hu
    split at hu
    · exact hu
    · cases hu
theorem last_at20 (zs : List Int) (z : Int) : (zs ++ [z]).getD zs.length 0 = z := by simp [List.getD]
/-- What lent left: the row, its pairs, the mark. -/
structure Ln (w : World) (B : Nat) (a : Option Addr) (n c : Nat) (bl : Nat → Nat) (xs : List Value) (g : Nat) (l : List Pq) : Prop where
  len : l.length = n
  cap : n + 1 ≤ c
  row : w.ownsRow B 44 2 (.slice a (n + 1) c) (n + 1) (xs ++ [.slice (some ⟨g, 0, none⟩) 1 1, .slice none 0 0])
  lw : Lw w B bl xs l
  mark : w.ownsRow B 5 1 (.slice (some ⟨g, 0, none⟩) 1 1) 1 [.int .u8 203]
  top : ∀ j, j < l.length * 2 → bl j < g
theorem Ln.keptN {w w' : World} {B : Nat} {a : Option Addr} {n c : Nat} {bl : Nat → Nat} {xs : List Value} {g : Nat} {l : List Pq} (h : Ln w B a n c bl xs g l) (hg : w.grownBy w' none) : Ln w' B a n c bl xs g l :=
  ⟨h.len, h.cap, own_keptD h.row hg, h.lw.keptN hg, own_keptD h.mark hg, h.top⟩
theorem Ln.pm {w : World} {B : Nat} {a : Option Addr} {n c : Nat} {bl : Nat → Nat} {xs : List Value} {g : Nat} {l : List Pq} (h : Ln w B a n c bl xs g l) : Pm w a l := h.lw.pm h.row h.len (by omega)
/-- What a round of stays reads. -/
theorem Ln.el {w : World} {B : Nat} {a : Option Addr} {n c : Nat} {bl : Nat → Nat} {xs : List Value} {g : Nat} {l : List Pq} (h : Ln w B a n c bl xs g l) {G i : Nat} (hG : a = some ⟨G, 0, none⟩) {p : Pq} (hp : l[i]? = some p) :
    ∃ g1 g2 c1 d1, w.cell? ⟨G, i * 2, none⟩ = some (.slice (some ⟨g1, 0, none⟩) p.1.length c1) ∧ w.cell? ⟨G, i * 2 + 1, none⟩ = some (.slice (some ⟨g2, 0, none⟩) p.2.length d1) ∧ p.1.length + 1 ≤ c1 ∧ p.2.length + 1 ≤ d1 ∧
      w.cell? ⟨g1, p.1.length, none⟩ = some (.int .u8 201) ∧ w.cell? ⟨g2, p.2.length, none⟩ = some (.int .u8 202) := by
  obtain ⟨c1, d1, h1, h2, h3, h4, h5, h6⟩ := h.lw.el i p hp
  obtain ⟨G', e, hc, hcell⟩ := row_cells20 h.row (by omega)
  rw [hG] at e
  simp only [Option.some.injEq, Addr.mk.injEq, and_true] at e
  subst e
  obtain ⟨_, _, e3, _, h3b, h3c, _⟩ := own_atD h3 (by omega)
  obtain ⟨_, _, e4, _, h4b, h4c, _⟩ := own_atD h4 (by omega)
  simp only [Value.slice.injEq, Option.some.injEq, Addr.mk.injEq, and_true] at e3 e4
  obtain ⟨rfl, _, rfl⟩ := e3
  obtain ⟨rfl, _, rfl⟩ := e4
  have a3 := h3c p.1.length (by omega)
  have a4 := h4c p.2.length (by omega)
  rw [last_at20] at a3 a4
  exact ⟨_, _, c1, d1, hcell _ _ (by rw [List.getElem?_append_left (List.getElem?_eq_some_iff.1 h1).1]; exact h1), hcell _ _ (by rw [List.getElem?_append_left (List.getElem?_eq_some_iff.1 h2).1]; exact h2), h3b, h4b, a3, a4⟩
theorem Ln.last {w : World} {B : Nat} {a : Option Addr} {n c : Nat} {bl : Nat → Nat} {xs : List Value} {g : Nat} {l : List Pq} (h : Ln w B a n c bl xs g l) :
    ∃ G, a = some ⟨G, 0, none⟩ ∧ w.cell? ⟨G, n * 2, none⟩ = some (.slice (some ⟨g, 0, none⟩) 1 1) ∧ w.cell? ⟨G, n * 2 + 1, none⟩ = some (.slice none 0 0) ∧ w.cell? ⟨g, 0, none⟩ = some (.int .u8 203) := by
  obtain ⟨G, e, hc, hcell⟩ := row_cells20 h.row (by omega)
  obtain ⟨G2, e2, _, hcell2⟩ := row_cells20 h.mark (by omega)
  simp only [Option.some.injEq, Addr.mk.injEq, and_true] at e2
  subst e2
  have hl := h.lw.len
  have hn := h.len
  exact ⟨G, e, hcell _ _ (by rw [List.getElem?_append_right (by omega), hl, hn, Nat.sub_self]; rfl), hcell _ _ (by rw [List.getElem?_append_right (by omega), hl, hn, Nat.add_sub_cancel_left]; rfl), hcell2 0 _ rfl⟩
set_option maxHeartbeats 4000000 in
set_option maxRecDepth 100000 in
theorem stays20 (a b : Option Addr) (n c d B g : Nat) (bl : Nat → Nat) (xs : List Value) (l : List Pq) (w : World) (hm : Ln w B a n c bl xs g l) (hl : Pm w b l) (h0 : n ≤ 2000) (hs : ∀ p ∈ l, p.1.length ≤ 1048576 ∧ p.2.length ≤ 1048576) :
    Calls Tryd.prog 21 #[.slice a n c, .slice b n d] w fun en w' => en = .returned (.bool true) ∧ w.grownBy w' none := by
  obtain ⟨G, hG, e1, e2, e3⟩ := hm.last
  have HC := hid_intro (samePairs20 a b n n c d l l w hm.pm hl hm.len hm.len (by omega) (by omega))
  rw [decide_eq_true (rfl : l = l)] at HC
  subst hG
  have HM := hid_intro hm
  have HP := hid_intro hl
  have HSM := hid_intro hs
  have E1 := hid_intro e1
  have E2 := hid_intro e2
  have E3 := hid_intro e3
  have hcap := hm.cap
  clear hm hl hs e1 e2 e3
  go_enter Tryd.func21, Tryd.ntmps21
  go_wp2_with fail
  refine HC.out.mono ?_
  rintro en w1 ⟨rfl, hg1⟩
  have G1 := hid_intro hg1
  clear hg1 HC
  go_wp2
  go_loopw [5, 6, 7, 8] (fun so si _ _ wr => ∃ i : Nat, i ≤ n ∧ si = .int .i64 (i : Nat) ∧ so = .bool true ∧ w.grownBy wr none) (fun _ si _ _ _ => n - (intOf si).toNat)
  case atStart => exact ⟨0, Nat.zero_le _, rfl, rfl, G1.out⟩
  case round =>
    obtain ⟨i, hi', rfl, rfl, hg⟩ := hrel
    have HG := hid_intro hg
    clear hg
    by_cases hlt : i < n
    · obtain ⟨p, hp⟩ : ∃ p, l[i]? = some p := ⟨_, List.getElem?_eq_getElem (by have := HM.out.len; omega)⟩
      have hsm := HSM.out p (List.mem_of_getElem? hp)
      obtain ⟨g1, g2, c1, d1, r1, r2, r3, r4, r5, r6⟩ := HM.out.el rfl hp
      obtain ⟨b', off, ao, c2, bo, d2, rfl, q1, q2⟩ := HP.out.two hp
      obtain ⟨ky, vl⟩ := p
      simp only at r1 r2 r3 r4 r5 r6 q1 q2 hsm
      obtain ⟨n1, hn1⟩ : ∃ n1, ky.length = n1 := ⟨_, rfl⟩
      obtain ⟨n2, hn2⟩ : ∃ n2, vl.length = n2 := ⟨_, rfl⟩
      rw [hn1] at r1 r3 r5 q1 hsm
      rw [hn2] at r2 r4 r6 q2 hsm
      have m0 := HG.out.cell r1 (by simp)
      have m1 := HG.out.cell r2 (by simp)
      have m2 := HG.out.cell r5 (by simp)
      have m3 := HG.out.cell r6 (by simp)
      have c0 := HG.out.cell q1 (by simp)
      have c3 := HG.out.cell q2 (by simp)
      have j0 : (0 : Int) ≤ (i : Int) := by omega
      have j1 : (i : Int) < (n : Int) := by omega
      have k1 : (n1 : Int) + 1 ≤ (c1 : Int) := by omega
      have k2 : (n2 : Int) + 1 ≤ (d1 : Int) := by omega
      have k3 : (0 : Int) ≤ (n1 : Int) + 1 := by omega
      have k4 : (0 : Int) ≤ (n2 : Int) + 1 := by omega
      have k5 : IntKind.i64.wrap ((n1 : Int) + 1) = (n1 : Int) + 1 := wrap_small _ (by omega) (by omega)
      have k6 : IntKind.i64.wrap ((n2 : Int) + 1) = (n2 : Int) + 1 := wrap_small _ (by omega) (by omega)
      have k7 : (n1 : Int) < ((n1 + 1 : Nat) : Int) := by omega
      have k8 : (n2 : Int) < ((n2 + 1 : Nat) : Int) := by omega
      clear r1 r2 r5 r6 q1 q2 hn1 hn2 hp
      go_wp2
      go_quiet (fail)
      go_wp2
      generalize hw5 : wr.drewN _ = w5
      have Q5 : Hid (Qt wr w5) := by rw [← hw5]; exact Qt.drewN _ _
      clear hw5
      have m0' := (Q5.out.cell _).trans m0
      have m1' := (Q5.out.cell _).trans m1
      have m2' := (Q5.out.cell _).trans m2
      have m3' := (Q5.out.cell _).trans m3
      have c0' := (Q5.out.cell _).trans c0
      have c3' := (Q5.out.cell _).trans c3
      clear m0 m1 m2 m3 c0 c3
      go_quiet (fail)
      go_wp2
      go_roundw
      case rel => exact ⟨i + 1, by omega, by go_num, rfl, grown_trans (grown_trans HG.out (Q5.out.grown none)) ((Qt.drewN _ _).grown none)⟩
      case measure => simp [intOf]; omega
    · obtain rfl : i = n := by omega
      have l1 := HG.out.cell E1.out (by simp)
      have l2 := HG.out.cell E2.out (by simp)
      have l3 := HG.out.cell E3.out (by simp)
      have k1 : (i : Int) + 1 ≤ (c : Int) := by omega
      have k3 : (0 : Int) ≤ (i : Int) + 1 := by omega
      have k5 : IntKind.i64.wrap ((i : Int) + 1) = (i : Int) + 1 := wrap_small _ (by omega) (by omega)
      have k7 : (i : Int) < ((i + 1 : Nat) : Int) := by omega
      have gx := hid_intro (World.grownBy_alloc wr (.cells #[.slice (some ⟨g, 0, none⟩) 1 1, .slice none 0 0] 44) none)
      have l4 := gx.out.cell l3 (by simp)
      go_wp2
      go_ret
      exact ⟨rfl, grown_trans HG.out gx.out⟩
end Go.Proofs.YtioleabkbkmggaaDoor
