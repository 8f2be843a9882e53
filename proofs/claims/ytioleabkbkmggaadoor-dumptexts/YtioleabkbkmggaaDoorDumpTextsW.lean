import Derived.Test.YtioleabkbkmggaaDoorDuR
namespace Go.Proofs.YtioleabkbkmggaaDoor
open Go.RowKit

theorem str_same20 (t : List UInt8) : ((tstr t).toList == (tstr t).toList) = true := by simp
theorem Lw.inj {w : World} {B : Nat} {bl : Nat → Nat} {xs : List Value} {l : List Pq} (h : Lw w B bl xs l) {a b : Nat} (ha : a < l.length * 2) (hb : b < l.length * 2) (hne : a ≠ b) : bl a ≠ bl b := by
  rcases Nat.lt_or_gt_of_ne hne with h1 | h1
  · have := h.mono a b h1 hb; omega
  · have := h.mono b a h1 ha; omega
theorem Lw.setV {w : World} {B : Nat} {bl : Nat → Nat} {xs : List Value} {l : List Pq} (h : Lw w B bl xs l) {i : Nat} {p : Pq} (hp : l[i]? = some p) {k : Nat} (hk : k < p.2.length) {z : Int} (hz : 0 ≤ z ∧ z ≤ 255) :
    Lw (w.setCell ⟨bl (i * 2 + 1), k, none⟩ (.int .u8 z)) B bl xs (l.set i (p.1, p.2.set k z)) := by
  have hi := (List.getElem?_eq_some_iff.1 hp).1
  refine ⟨by rw [List.length_set]; exact h.len, by rw [List.length_set]; exact h.mono, fun j q hq => ?_⟩
  by_cases hij : i = j
  · subst hij
    rw [List.getElem?_set_self hi, Option.some.injEq] at hq
    subst hq
    obtain ⟨c, d, h1, h2, h3, h4, h5, h6⟩ := h.el i p hp
    have h4' := own_setD (k := k) (z := z) h4
    rw [List.set_append_left _ _ hk] at h4'
    simp only [List.length_set]
    exact ⟨c, d, h1, h2, h3.kept (grown_cellD w _ k _) (.inr (by simp only [Value.ownBlock, ne_eq, Option.some.injEq]; exact h.inj (by omega) (by omega) (by omega))), h4', h5, h6.setD k z hz⟩
  · rw [List.getElem?_set_ne hij] at hq
    have hj := (List.getElem?_eq_some_iff.1 hq).1
    obtain ⟨c, d, h1, h2, h3, h4, h5⟩ := h.el j q hq
    exact ⟨c, d, h1, h2, h3.kept (grown_cellD w _ k _) (.inr (by simp only [Value.ownBlock, ne_eq, Option.some.injEq]; exact h.inj (by omega) (by omega) (by omega))), h4.kept (grown_cellD w _ k _) (.inr (by simp only [Value.ownBlock, ne_eq, Option.some.injEq]; exact h.inj (by omega) (by omega) (by omega))), h5⟩
theorem Lw.setK {w : World} {B : Nat} {bl : Nat → Nat} {xs : List Value} {l : List Pq} (h : Lw w B bl xs l) {i : Nat} {p : Pq} (hp : l[i]? = some p) {k : Nat} (hk : k < p.1.length) {z : Int} (hz : 0 ≤ z ∧ z ≤ 255) :
    Lw (w.setCell ⟨bl (i * 2), k, none⟩ (.int .u8 z)) B bl xs (l.set i (p.1.set k z, p.2)) := by
  have hi := (List.getElem?_eq_some_iff.1 hp).1
  refine ⟨by rw [List.length_set]; exact h.len, by rw [List.length_set]; exact h.mono, fun j q hq => ?_⟩
  by_cases hij : i = j
  · subst hij
    rw [List.getElem?_set_self hi, Option.some.injEq] at hq
    subst hq
    obtain ⟨c, d, h1, h2, h3, h4, h5, h6⟩ := h.el i p hp
    have h3' := own_setD (k := k) (z := z) h3
    rw [List.set_append_left _ _ hk] at h3'
    simp only [List.length_set]
    exact ⟨c, d, h1, h2, h3', h4.kept (grown_cellD w _ k _) (.inr (by simp only [Value.ownBlock, ne_eq, Option.some.injEq]; exact h.inj (by omega) (by omega) (by omega))), h5.setD k z hz, h6⟩
  · rw [List.getElem?_set_ne hij] at hq
    have hj := (List.getElem?_eq_some_iff.1 hq).1
    obtain ⟨c, d, h1, h2, h3, h4, h5⟩ := h.el j q hq
    exact ⟨c, d, h1, h2, h3.kept (grown_cellD w _ k _) (.inr (by simp only [Value.ownBlock, ne_eq, Option.some.injEq]; exact h.inj (by omega) (by omega) (by omega))), h4.kept (grown_cellD w _ k _) (.inr (by simp only [Value.ownBlock, ne_eq, Option.some.injEq]; exact h.inj (by omega) (by omega) (by omega))), h5⟩
/-- A byte of a row may be turned, and then the list in memory is the turned one. -/
def Turn (w : World) (B : Nat) (a : Option Addr) (g n : Nat) (L : Nat → Int → List Pq) : Prop := ∀ k, k < n → ∃ z, (0 ≤ z ∧ z ≤ 255) ∧ w.cell? ⟨g, k, none⟩ = some (.int .u8 z) ∧ w.frozen? ⟨g, k, none⟩ = false ∧ ∀ y, 0 ≤ y ∧ y ≤ 255 → Pm (w.setCell ⟨g, k, none⟩ (.int .u8 y)) a (L k y) ∧ ∀ W0 : World, W0.grownBy w none → W0.heap.size ≤ B → W0.grownBy (w.setCell ⟨g, k, none⟩ (.int .u8 y)) none
theorem Ln.at {w : World} {B : Nat} {a : Option Addr} {n c : Nat} {bl : Nat → Nat} {xs : List Value} {g : Nat} {l : List Pq} (h : Ln w B a n c bl xs g l) {G i : Nat} (hG : a = some ⟨G, 0, none⟩) {p : Pq} (hp : l[i]? = some p) :
    ∃ g1 g2 c1 d1, w.cell? ⟨G, i * 2, none⟩ = some (.slice (some ⟨g1, 0, none⟩) p.1.length c1) ∧ w.cell? ⟨G, i * 2 + 1, none⟩ = some (.slice (some ⟨g2, 0, none⟩) p.2.length d1) ∧ Turn w B a g1 p.1.length (fun k y => l.set i (p.1.set k y, p.2)) ∧ Turn w B a g2 p.2.length (fun k y => l.set i (p.1, p.2.set k y)) := by
  have hi := (List.getElem?_eq_some_iff.1 hp).1
  obtain ⟨c1, d1, h1, h2, h3, h4, h5, h6⟩ := h.lw.el i p hp
  obtain ⟨G', e, hc, hcell⟩ := row_cells20 h.row (by omega)
  rw [hG] at e
  simp only [Option.some.injEq, Addr.mk.injEq, and_true] at e
  subst e
  have hln := h.len
  have hl1 := h.lw.lt (a := i * 2) (by omega)
  have hl2 := h.lw.lt (a := i * 2 + 1) (by omega)
  refine ⟨_, _, c1, d1, hcell _ _ (by rw [List.getElem?_append_left (List.getElem?_eq_some_iff.1 h1).1]; exact h1), hcell _ _ (by rw [List.getElem?_append_left (List.getElem?_eq_some_iff.1 h2).1]; exact h2), fun k hk => ?_, fun k hk => ?_⟩
  · obtain ⟨_, _, e3, _, h3b, h3c, h3d⟩ := own_atD h3 (by omega)
    simp only [Value.slice.injEq, Option.some.injEq, Addr.mk.injEq, and_true] at e3
    obtain ⟨rfl, _, rfl⟩ := e3
    refine ⟨_, (h5.app (btD [201] rfl)).getD k, h3c k (by omega), h3d k, fun y hy => ⟨?_, fun W0 hW hB => grown_setd hW (by omega) k _⟩⟩
    have hro := h.row.kept (grown_cellD w (bl (i * 2)) k (.int .u8 y)) (by
      have := own_neD h.row h3 (by decide)
      simpa only [Value.ownBlock] using this)
    exact (h.lw.setK hp hk hy).pm (m := n) hro (by rw [List.length_set]; exact h.len) (by omega)
  · obtain ⟨_, _, e3, _, h3b, h3c, h3d⟩ := own_atD h4 (by omega)
    simp only [Value.slice.injEq, Option.some.injEq, Addr.mk.injEq, and_true] at e3
    obtain ⟨rfl, _, rfl⟩ := e3
    refine ⟨_, (h6.app (btD [202] rfl)).getD k, h3c k (by omega), h3d k, fun y hy => ⟨?_, fun W0 hW hB => grown_setd hW (by omega) k _⟩⟩
    have hro := h.row.kept (grown_cellD w (bl (i * 2 + 1)) k (.int .u8 y)) (by
      have := own_neD h.row h4 (by decide)
      simpa only [Value.ownBlock] using this)
    exact (h.lw.setV hp hk hy).pm (m := n) hro (by rw [List.length_set]; exact h.len) (by omega)
theorem set_small {l : List Pq} {i : Nat} {q : Pq} (h : ∀ p ∈ l, p.1.length ≤ 1048576 ∧ p.2.length ≤ 1048576) (hq : q.1.length ≤ 1048576 ∧ q.2.length ≤ 1048576) : ∀ p ∈ l.set i q, p.1.length ≤ 1048576 ∧ p.2.length ≤ 1048576 := by
  intro p hp
  rcases List.mem_or_eq_of_mem_set hp with h1 | h1
  · exact h p h1
  · subst h1; exact hq
set_option maxHeartbeats 16000000 in
set_option maxRecDepth 100000 in
theorem dumpTexts_walk (a : Option Addr) (n c : Nat) (l : List Pq) (i at' x : Int) (w : World) (hl : Pm w a l) (hn : l.length = n) (ht : Tzd w) (hx : 0 ≤ x ∧ x ≤ 255) :
    Calls Tryd.prog 5 #[.slice a n c, .int .i64 i, .int .i64 at', .int .u8 x] w fun en w' => en = .returned (.bool true) ∧ w.grownBy w' none := by
  have HF := hid_intro (first20 w ht)
  have HL := hid_intro hl
  have HN := hid_intro hn
  have HT := hid_intro ht
  have HX := hid_intro hx
  clear hl hn ht hx
  go_enter Tryd.func5, Tryd.ntmps5
  go_wp2_with fail
  refine HF.out.mono ?_
  rintro en w1 ⟨rfl, hg1⟩
  have G1 := hid_intro hg1
  clear hg1 HF
  go_wp2_with fail
  refine (few20 a n c l w1 (HL.out.keptN G1.out) HN.out).mono ?_
  rintro en w2 ⟨f1, rfl, hq2, hf1⟩
  have G2 := hid_intro (grown_trans G1.out (hq2.grown none))
  have F1 := hid_intro hf1
  clear hq2 hf1 G1
  cases f1 with
  | false =>
    go_wp2
    go_ret
    exact ⟨rfl, G2.out⟩
  | true =>
    have hn2 := (F1.out rfl).1
    have HSM := hid_intro (F1.out rfl).2
    clear F1
    go_wp2_with fail
    refine (lent20 a n c l w2 (HL.out.keptN G2.out) HN.out hn2 HSM.out).mono ?_
    rintro en w3 ⟨m, mc, bl, xs, g, rfl, hg3, r1, r2, r3, r4, r5⟩
    have LN3 : Hid (Ln w3 w2.heap.size m n mc bl xs g l) := ⟨HN.out, r1, r2, r3, r4, r5⟩
    have G3 := hid_intro (grown_trans G2.out hg3)
    have hsB := G2.out.size
    generalize w2.heap.size = B at *
    clear hg3 r1 r2 r3 r4 r5 G2
    go_wp2_with fail
    refine (text_any m n mc l w3 LN3.out.pm HN.out (by omega) (HT.out.keptN G3.out)).mono ?_
    rintro en w4 ⟨rfl, hg4⟩
    have G4 := hid_intro (grown_trans G3.out hg4)
    have LN4 := hid_intro (LN3.out.keptN hg4)
    clear hg4 G3 LN3
    go_wp2_with fail
    refine (refText_any a n c l w4 (HL.out.keptN G4.out) HN.out (by omega)).mono ?_
    rintro en w5 ⟨rfl, hg5⟩
    have G5 := hid_intro (grown_trans G4.out hg5)
    have LN5 := hid_intro (LN4.out.keptN hg5)
    clear hg5 G4 LN4
    have hss := str_same20 (txt l)
    generalize tstr (txt l) = S at *
    generalize jdg [] l = e0 at *
    go_wp2_with fail
    refine (stays20 m a n mc c B g bl xs l w5 LN5.out (HL.out.keptN G5.out) hn2 HSM.out).mono ?_
    rintro en w6 ⟨rfl, hg6⟩
    have G6 := hid_intro (grown_trans G5.out hg6)
    have LN6 := hid_intro (LN5.out.keptN hg6)
    clear hg6 G5 LN5
    by_cases hn0 : n = 0
    · have z0 : ((n : Int) == 0) = true := by rw [hn0]; rfl
      clear hn0
      go_wp2_with (go_at_call 15; refine (num20 _ _).mono ?_; rintro en w7 ⟨rfl, hw7⟩; subst hw7)
      go_ret
      exact ⟨rfl, G6.out⟩
    · have z0 : ((n : Int) == 0) = false := by rw [beq_eq_false_iff_ne]; omega
      obtain ⟨G, hG, _⟩ := LN6.out.last
      subst hG
      obtain ⟨ix, y, hk, hy, hy1, hy2, hk2⟩ := placeD i n (by omega)
      have hk3 : (y + (n : Int)) % (n : Int) = (ix : Int) := by rw [← hk2, Int.tmod_eq_emod_of_nonneg (by omega)]
      have hw : IntKind.i64.wrap (y + (n : Int)) = y + (n : Int) := wrap_small _ (by omega) (by omega)
      have y0 : (0 : Int) ≤ y + (n : Int) := by omega
      have j0 : (0 : Int) ≤ (ix : Int) := by omega
      have j1 : (ix : Int) < (n : Int) := by omega
      have n0 : ¬ (n : Int) = 0 := by omega
      have n1 : (0 : Int) < (n : Int) := by omega
      obtain ⟨p, hp⟩ : ∃ p, l[ix]? = some p := ⟨_, List.getElem?_eq_getElem (by have := HN.out; omega)⟩
      have hsm := HSM.out p (List.mem_of_getElem? hp)
      obtain ⟨g1, g2, c1, d1, m0, m1, t1, t2⟩ := LN6.out.at rfl hp
      obtain ⟨ky, vl⟩ := p
      simp only at m0 m1 t1 t2 hsm
      obtain ⟨n1', hn1⟩ : ∃ n1, ky.length = n1 := ⟨_, rfl⟩
      obtain ⟨n2', hn2'⟩ : ∃ n2, vl.length = n2 := ⟨_, rfl⟩
      have HSK : Hid (∀ k y, ∀ p ∈ l.set ix (ky.set k y, vl), p.1.length ≤ 1048576 ∧ p.2.length ≤ 1048576) := fun k y => set_small HSM.out (by simp only [List.length_set]; exact hsm)
      have HSV : Hid (∀ k y, ∀ p ∈ l.set ix (ky, vl.set k y), p.1.length ≤ 1048576 ∧ p.2.length ≤ 1048576) := fun k y => set_small HSM.out (by simp only [List.length_set]; exact hsm)
      have HLK : Hid (∀ q : Pq, (l.set ix q).length = n) := fun q => by rw [List.length_set]; exact HN.out
      rw [hn1] at m0 t1 hsm
      rw [hn2'] at m1 t2 hsm
      have T1 := hid_intro t1
      have T2 := hid_intro t2
      clear t1 t2 hn1 hn2' hp hk2 hk hn0
      by_cases hv0 : 0 < n2'
      · have v0 : (0 : Int) < (n2' : Int) := by omega
        obtain ⟨k, yv, hk, hyv, hyv1, hyv2, hkb⟩ := placeD at' n2' (by omega)
        have hk4 : (yv + (n2' : Int)) % (n2' : Int) = (k : Int) := by rw [← hkb, Int.tmod_eq_emod_of_nonneg (by omega)]
        have hw2 : IntKind.i64.wrap (yv + (n2' : Int)) = yv + (n2' : Int) := wrap_small _ (by omega) (by omega)
        have yv0 : (0 : Int) ≤ yv + (n2' : Int) := by omega
        have jk0 : (0 : Int) ≤ (k : Int) := by omega
        have jk1 : (k : Int) < (n2' : Int) := by omega
        have nn0 : ¬ (n2' : Int) = 0 := by omega
        have nq0 : ¬ n2' = 0 := by omega
        have nz0 : ((n2' : Int) == 0) = false := by rw [beq_eq_false_iff_ne]; exact nn0
        have nn1 : (0 : Int) < (n2' : Int) := by omega
        obtain ⟨zk, hzk, ck, fk, hset⟩ := T2.out k hk
        have hxy := xor_byteD hzk HX.out
        generalize hyy : bits .xor .u8 zk x = zx at *
        obtain ⟨hpm8, hgr8⟩ := hset zx hxy
        have PM8 := hid_intro (hpm8.keptN ((Qt.refl _).drew.grown none))
        have G8 := hid_intro (grown_trans (hgr8 w G6.out hsB) ((Qt.refl _).drew.grown none))
        clear hset hpm8 hgr8 hxy hzk hk
        go_wp2_with (go_at_call 15; refine (num20 _ _).mono ?_; rintro en w7 ⟨rfl, hw7⟩; subst hw7)
        go_region_law fail
        go_wp2_with fail
        generalize (w7.setCell ⟨g2, k, none⟩ (.int .u8 zx)).drew = w8 at *
        refine (refPairs20 _ n mc (l.set ix (ky, vl.set k zx)) w8 PM8.out (HLK.out _) hn2 (HSV.out _ _)).mono ?_
        rintro en w9 ⟨na, nc, rfl, hg9, hpm9⟩
        have G9 := hid_intro (grown_trans G8.out hg9)
        have PM9 := hid_intro (PM8.out.keptN hg9)
        have PN9 := hid_intro hpm9
        clear hg9 hpm9 G8 PM8
        go_wp2_with fail
        refine (text_any _ n mc (l.set ix (ky, vl.set k zx)) w9 PM9.out (HLK.out _) (by omega) (HT.out.keptN G9.out)).mono ?_
        rintro en wA ⟨rfl, hgA⟩
        have GA := hid_intro (grown_trans G9.out hgA)
        have PNA := hid_intro (PN9.out.keptN hgA)
        clear hgA G9 PM9 PN9
        go_wp2_with fail
        refine (refText_any na n nc (l.set ix (ky, vl.set k zx)) wA PNA.out (HLK.out _) (by omega)).mono ?_
        rintro en wB ⟨rfl, hgB⟩
        have GB := hid_intro (grown_trans GA.out hgB)
        clear hgB GA PNA
        have hs9 := str_same20 (txt (l.set ix (ky, vl.set k zx)))
        generalize tstr (txt (l.set ix (ky, vl.set k zx))) = S9 at *
        generalize jdg [] (l.set ix (ky, vl.set k zx)) = e9 at *
        go_wp2_with (go_at_call 15; refine (num20 _ _).mono ?_; rintro en w7 ⟨rfl, hw7⟩; subst hw7)
        go_ret
        exact ⟨rfl, GB.out⟩
      · have v0 : ¬ (0 : Int) < (n2' : Int) := by omega
        by_cases hk0 : 0 < n1'
        · have u0 : (0 : Int) < (n1' : Int) := by omega
          obtain ⟨k, yv, hk, hyv, hyv1, hyv2, hkb⟩ := placeD at' n1' (by omega)
          have hk4 : (yv + (n1' : Int)) % (n1' : Int) = (k : Int) := by rw [← hkb, Int.tmod_eq_emod_of_nonneg (by omega)]
          have hw2 : IntKind.i64.wrap (yv + (n1' : Int)) = yv + (n1' : Int) := wrap_small _ (by omega) (by omega)
          have yv0 : (0 : Int) ≤ yv + (n1' : Int) := by omega
          have jk0 : (0 : Int) ≤ (k : Int) := by omega
          have jk1 : (k : Int) < (n1' : Int) := by omega
          have nn0 : ¬ (n1' : Int) = 0 := by omega
          have nq0 : ¬ n1' = 0 := by omega
          have nz0 : ((n1' : Int) == 0) = false := by rw [beq_eq_false_iff_ne]; exact nn0
          have nn1 : (0 : Int) < (n1' : Int) := by omega
          obtain ⟨zk, hzk, ck, fk, hset⟩ := T1.out k hk
          have hxy := xor_byteD hzk HX.out
          generalize hyy : bits .xor .u8 zk x = zx at *
          obtain ⟨hpm8, hgr8⟩ := hset zx hxy
          have PM8 := hid_intro (hpm8.keptN ((Qt.refl _).drew.grown none))
          have G8 := hid_intro (grown_trans (hgr8 w G6.out hsB) ((Qt.refl _).drew.grown none))
          clear hset hpm8 hgr8 hxy hzk hk
          go_wp2_with (go_at_call 15; refine (num20 _ _).mono ?_; rintro en w7 ⟨rfl, hw7⟩; subst hw7)
          go_region_law fail
          go_wp2_with fail
          generalize (w7.setCell ⟨g1, k, none⟩ (.int .u8 zx)).drew = w8 at *
          refine (refPairs20 _ n mc (l.set ix (ky.set k zx, vl)) w8 PM8.out (HLK.out _) hn2 (HSK.out _ _)).mono ?_
          rintro en w9 ⟨na, nc, rfl, hg9, hpm9⟩
          have G9 := hid_intro (grown_trans G8.out hg9)
          have PM9 := hid_intro (PM8.out.keptN hg9)
          have PN9 := hid_intro hpm9
          clear hg9 hpm9 G8 PM8
          go_wp2_with fail
          refine (text_any _ n mc (l.set ix (ky.set k zx, vl)) w9 PM9.out (HLK.out _) (by omega) (HT.out.keptN G9.out)).mono ?_
          rintro en wA ⟨rfl, hgA⟩
          have GA := hid_intro (grown_trans G9.out hgA)
          have PNA := hid_intro (PN9.out.keptN hgA)
          clear hgA G9 PM9 PN9
          go_wp2_with fail
          refine (refText_any na n nc (l.set ix (ky.set k zx, vl)) wA PNA.out (HLK.out _) (by omega)).mono ?_
          rintro en wB ⟨rfl, hgB⟩
          have GB := hid_intro (grown_trans GA.out hgB)
          clear hgB GA PNA
          have hs9 := str_same20 (txt (l.set ix (ky.set k zx, vl)))
          generalize tstr (txt (l.set ix (ky.set k zx, vl))) = S9 at *
          generalize jdg [] (l.set ix (ky.set k zx, vl)) = e9 at *
          go_wp2_with (go_at_call 15; refine (num20 _ _).mono ?_; rintro en w7 ⟨rfl, hw7⟩; subst hw7)
          go_ret
          exact ⟨rfl, GB.out⟩
        · have u0 : ¬ (0 : Int) < (n1' : Int) := by omega
          have PM8 := hid_intro LN6.out.pm
          have G8 := G6
          have HLK : Hid (∀ q : List Pq, l.length = n) := fun _ => HN.out
          go_wp2_with (go_at_call 15; refine (num20 _ _).mono ?_; rintro en w7 ⟨rfl, hw7⟩; subst hw7)
          generalize w7 = w8 at *
          refine (refPairs20 _ n mc (l) w8 PM8.out HN.out hn2 (HSM.out)).mono ?_
          rintro en w9 ⟨na, nc, rfl, hg9, hpm9⟩
          have G9 := hid_intro (grown_trans G8.out hg9)
          have PM9 := hid_intro (PM8.out.keptN hg9)
          have PN9 := hid_intro hpm9
          clear hg9 hpm9 G8 PM8
          go_wp2_with fail
          refine (text_any _ n mc (l) w9 PM9.out HN.out (by omega) (HT.out.keptN G9.out)).mono ?_
          rintro en wA ⟨rfl, hgA⟩
          have GA := hid_intro (grown_trans G9.out hgA)
          have PNA := hid_intro (PN9.out.keptN hgA)
          clear hgA G9 PM9 PN9
          go_wp2_with fail
          refine (refText_any na n nc (l) wA PNA.out HN.out (by omega)).mono ?_
          rintro en wB ⟨rfl, hgB⟩
          have GB := hid_intro (grown_trans GA.out hgB)
          clear hgB GA PNA
          have hs9 := str_same20 (txt (l))
          generalize tstr (txt (l)) = S9 at *
          generalize jdg [] (l) = e9 at *
          go_wp2_with (go_at_call 15; refine (num20 _ _).mono ?_; rintro en w7 ⟨rfl, hw7⟩; subst hw7)
          go_ret
          exact ⟨rfl, GB.out⟩
end Go.Proofs.YtioleabkbkmggaaDoor
