import Derived.Test.YtomknmboapgmbaaBranchEncodesW
namespace Go.Proofs.Ytomknmboapgmbaa
open Go.RowKit

theorem Lk.row {w : World} {base A cap : Nat} {K : List Kd} (k : Lk w base A cap K) : ∃ cur : Array Value, w.heap[A]? = some (.cells cur 37 (0, 0)) ∧ (K.length + 1) * 2 ≤ cur.size := by
  rcases k.own.2 with ⟨e, _⟩ | ⟨g, cap', cur, hv, _, hg, hc, _, hs, _⟩
  · cases e
  · injection hv with x1 _ x3
    simp only [Option.some.injEq, Addr.mk.injEq] at x1
    obtain ⟨rfl, _⟩ := x1
    subst x3
    exact ⟨cur, hg, by rw [hs]; exact Nat.mul_le_mul_right _ hc⟩
/-- One kid's Keys turned. -/
theorem Lk.set {w : World} {base A cap : Nat} {K : List Kd} (k : Lk w base A cap K) (j : Nat) (hj : j < K.length) (v : Int) :
    Kl (w.setCell ⟨A, j * 2 + 1, none⟩ (.int .i64 v)) (some ⟨A, 0, none⟩) (K.set j ⟨(K.getD j kd0).no, v⟩) := by
  obtain ⟨cur, h1, h2⟩ := k.row
  have h3 := heap_setCell_same w A (j * 2 + 1) cur _ (.int .i64 v) h1
  refine ⟨fun i hi => ⟨A, 0, rfl, ?_⟩⟩
  rw [List.length_set] at hi
  have hc := k.cells i (by omega)
  have e : (K ++ [kdm]).getD i kd0 = K.getD i kd0 := by simp [List.getD, List.getElem?_append_left hi]
  rw [e] at hc
  have c0 := hc.1
  have c1 := hc.2
  rw [cell_of_row w A (i * 2) _ _ _ h1] at c0
  rw [cell_of_row w A (i * 2 + 1) _ _ _ h1] at c1
  rw [Nat.zero_add, cell_of_row _ A (i * 2) _ _ _ h3, cell_of_row _ A (i * 2 + 1) _ _ _ h3]
  by_cases e2 : i = j
  · subst e2
    have eg : (K.set i ⟨(K.getD i kd0).no, v⟩).getD i kd0 = ⟨(K.getD i kd0).no, v⟩ := by simp only [List.getD, List.getElem?_set_self hi, Option.getD_some]
    rw [eg]
    refine ⟨?_, ?_⟩
    · rw [Array.getElem?_setIfInBounds_ne (by omega)]; exact c0
    · rw [Array.getElem?_setIfInBounds_self_of_lt (by omega)]
  · have eg : (K.set j ⟨(K.getD j kd0).no, v⟩).getD i kd0 = K.getD i kd0 := by
      simp only [List.getD]
      rw [List.getElem?_set_ne (fun h => e2 h.symm)]
    rw [eg]
    exact ⟨by rw [Array.getElem?_setIfInBounds_ne (by omega)]; exact c0, by rw [Array.getElem?_setIfInBounds_ne (by omega)]; exact c1⟩
theorem Lk.frozen {w : World} {base A cap : Nat} {K : List Kd} (k : Lk w base A cap K) (j : Nat) : w.frozen? ⟨A, j, none⟩ = false := by
  obtain ⟨cur, h1, _⟩ := k.row
  exact frozen_of_row w A j _ _ h1
theorem Lk.kept {w w' : World} {base A cap : Nat} {K : List Kd} {row : Option Nat} (k : Lk w base A cap K) (hg : w.grownBy w' row) (hne : some A ≠ row) : Lk w' base A cap K := ⟨k.own.kept hg (.inr hne)⟩

/-- A list of strings whose blocks are known by their types. -/
structure Lt (w : World) (a : Option Addr) (L : List (List Int)) : Prop where
  row : ∀ i, i < L.length → ∃ b off g n c, a = some ⟨b, off, none⟩ ∧ w.cell? ⟨b, off + i, none⟩ = some (.slice (some ⟨g, 0, none⟩) n c) ∧ Byt w (some ⟨g, 0, none⟩) n c (L.getD i []) ∧ n ≤ c ∧ c ≤ 9223372036854775807 ∧
    (∃ cur, w.heap[b]? = some (.cells cur 28 (0, 0))) ∧ ∃ cur, w.heap[g]? = some (.cells cur 5 (0, 0))
theorem Lt.lz {w : World} {a : Option Addr} {L : List (List Int)} (h : Lt w a L) : Lz w a L := by
  refine ⟨fun i hi => ?_⟩
  obtain ⟨b, off, g, n, c, h1, h2, h3, h4, h5, _⟩ := h.row i hi
  exact ⟨b, off, _, n, c, h1, h2, h3, h4, h5⟩
theorem Lt.beside {w w' : World} {a : Option Addr} {L : List (List Int)} (h : Lt w a L) {B : Nat} {cur : Array Value} (hB : w.heap[B]? = some (.cells cur 37 (0, 0))) (hg : w.grownBy w' (some B)) : Lz w' a L := by
  refine ⟨fun i hi => ?_⟩
  obtain ⟨b, off, g, n, c, h1, h2, h3, h4, h5, ⟨c6, h6⟩, c7, h7⟩ := h.row i hi
  have e1 : b ≠ B := fun e => by
    rw [e, hB] at h6
    simp only [Option.some.injEq, Obj.cells.injEq] at h6
    exact absurd h6.2.1 (by decide)
  have e2 : g ≠ B := fun e => by
    rw [e, hB] at h7
    simp only [Option.some.injEq, Obj.cells.injEq] at h7
    exact absurd h7.2.1 (by decide)
  exact ⟨b, off, _, n, c, h1, hg.cell h2 (fun e => e1 (Option.some.inj e)), h3.kept hg (fun ad e _ e9 => by obtain rfl := Option.some.inj e; exact e2 (Option.some.inj e9)), h4, h5⟩
theorem Ln.lt {w : World} {base A cap h : Nat} {gs : List (Nat × Nat)} {xs : List Value} {L : List (List Int)} (k : Ln w base A cap h gs xs L) : Lt w (some ⟨A, 0, none⟩) L := by
  refine ⟨fun i hi => ?_⟩
  obtain ⟨_, h2, _⟩ := k.lp.el i hi
  have hle := h2.le
  have hmx := h2.max
  rw [List.length_append] at hle
  simp only [List.length_cons, List.length_nil] at hle
  refine ⟨A, 0, _, _, _, rfl, by rw [Nat.zero_add]; exact k.cell i hi, ow_byt h2 _ rfl, by omega, hmx, ?_, h2.blk⟩
  rcases k.own.2 with ⟨e, _⟩ | ⟨g, cap', cur, hv, _, hg, _⟩
  · cases e
  · injection hv with x1
    simp only [Option.some.injEq, Addr.mk.injEq] at x1
    obtain ⟨rfl, _⟩ := x1
    exact ⟨cur, hg⟩
theorem Ln.setT {w : World} {base A cap h : Nat} {gs : List (Nat × Nat)} {xs : List Value} {L : List (List Int)} (k : Ln w base A cap h gs xs L) (i : Nat) (hi : i < L.length) (j : Nat) (hj : j < (L.getD i []).length) (v : Int) :
    Lt (w.setCell ⟨(gs.getD i (0, 0)).1, j, none⟩ (.int .u8 v)) (some ⟨A, 0, none⟩) (L.set i ((L.getD i []).set j v)) := by
  have hg := grown_cell w (gs.getD i (0, 0)).1 j (.int .u8 v)
  obtain ⟨_, hi2, hi3⟩ := k.lp.el i hi
  obtain ⟨cur, hcur⟩ := hi2.blk
  have hA : some (gs.getD i (0, 0)).1 ≠ some A := own_ne k.own hcur (by decide)
  refine ⟨fun m hm => ?_⟩
  have hz := (k.set i hi j hj v).row m hm
  rw [List.length_set] at hm
  obtain ⟨b', o', ao', n', c', e1, e2, e3, e4, e5⟩ := hz
  simp only [Option.some.injEq, Addr.mk.injEq] at e1
  obtain ⟨rfl, rfl, _⟩ := e1
  have hcell : (w.setCell ⟨(gs.getD i (0, 0)).1, j, none⟩ (.int .u8 v)).cell? ⟨A, 0 + m, none⟩ = some (.slice (some ⟨(gs.getD m (0, 0)).1, 0, none⟩) (L.getD m []).length (gs.getD m (0, 0)).2) := by
    rw [Nat.zero_add]
    exact hg.cell (k.cell m hm) (fun e => hA e.symm)
  have he := Option.some.inj (e2.symm.trans hcell)
  injection he with y1 y2 y3
  subst y1
  obtain ⟨_, _, _, _, _, _, _, _, _, _, ⟨cA, hcA⟩, cg, hcg⟩ := k.lt.row m hm
  obtain ⟨_, hm2, _⟩ := k.lp.el m hm
  have hA2 : ∃ cur, (w.setCell ⟨(gs.getD i (0, 0)).1, j, none⟩ (.int .u8 v)).heap[A]? = some (.cells cur 28 (0, 0)) := by
    obtain ⟨b9, o9, g9, n9, c9, f1, _, _, _, _, ⟨cB, hcB⟩, _⟩ := k.lt.row m hm
    simp only [Option.some.injEq, Addr.mk.injEq] at f1
    obtain ⟨rfl, _⟩ := f1
    exact ⟨cB, (hg.block A (Array.getElem?_eq_some_iff.1 hcB).1 (fun e => hA e.symm)).trans hcB⟩
  refine ⟨A, 0, _, n', c', rfl, e2, e3, e4, e5, hA2, ?_⟩
  by_cases e : m = i
  · subst e
    exact ⟨_, heap_setCell_same w _ j cur _ _ hcur⟩
  · obtain ⟨c3, hc3⟩ := hm2.blk
    refine ⟨c3, (hg.block _ (Array.getElem?_eq_some_iff.1 hc3).1 (fun e9 => ?_)).trans hc3⟩
    have e8 := Option.some.inj e9
    rcases Nat.lt_or_gt_of_ne e with q | q
    · have := k.lp.dif m i q hi; omega
    · have := k.lp.dif i m q hm; omega
theorem Lt.heap {w w' : World} {a : Option Addr} {L : List (List Int)} (h : Lt w a L) (e : w'.heap = w.heap) : Lt w' a L := by
  refine ⟨fun i hi => ?_⟩
  obtain ⟨b, off, g, n, c, h1, h2, h3, h4, h5, h6, h7⟩ := h.row i hi
  exact ⟨b, off, g, n, c, h1, (World.cell?_of_block (by rw [e])).trans h2, h3.heap e, h4, h5, by rw [e]; exact h6, by rw [e]; exact h7⟩

set_option maxHeartbeats 4000000 in
set_option maxRecDepth 100000 in
theorem branchPlace_walk (lv : Int) (a : Option Addr) (n cap : Nat) (L : List (List Int)) (b : Option Addr) (m cap2 : Nat) (K : List Kd) (pi pa x : Int) (w : World) (_hlv : (Lit.int .i64 lv).wf = true) (hl : Lz w a L) (hlb : Lb L) (hn : L.length = n) (_hnc : n ≤ cap) (_hcm : cap ≤ 9223372036854775807) (hk : Kl w b K) (_hkb : Kb K) (hkn : K.length = m) (_hmc : m ≤ cap2) (_hcm2 : cap2 ≤ 9223372036854775807) (_h1 : (Lit.int .i64 pi).wf = true) (_h2 : (Lit.int .i64 pa).wf = true) (hx : (Lit.int .u8 x).wf = true) :
    Calls Try.prog 5 #[.int .i64 lv, .slice a n cap, .slice b m cap2, .int .i64 pi, .int .i64 pa, .int .u8 x] w fun en w' => en = .returned (.bool true) ∧ w.grownBy w' none := by
  have hxb := bounds_u8 hx
  have HL := hid_intro hl
  have HK := hid_intro hk
  clear hl hk
  go_enter Try.func5, Try.ntmps5
  go_wp2_with fail
  refine (first5_any _).mono ?_
  rintro en w1 ⟨rfl, hg1⟩
  have G1 := hid_intro hg1
  clear hg1
  go_wp2_with fail
  refine (few_any a n cap L b m cap2 _ (HL.out.keptN G1.out) hn).mono ?_
  rintro en w1 ⟨rfl, rfl⟩
  cases hfw : fw L m with
  | false =>
    clear hfw
    go_wp2
    go_ret
    exact ⟨rfl, G1.out⟩
  | true =>
    have hp := fw_parts hfw
    have HKL : Hid (∀ x ∈ L, x.length ≤ 4096) := hp.2.2
    have HKM : Hid (∀ x ∈ L, x.length ≤ 1000000) := fun x hx => by have := hp.2.2 x hx; omega
    have hn2 : n ≤ 2000 := by omega
    have hm2 : m ≤ 2000 := hp.2.1
    clear hfw hp
    by_cases hm0 : m = 0
    · have hm1 : (m : Int) = 0 := by omega
      go_wp2
      go_ret
      exact ⟨rfl, G1.out⟩
    · have hm1 : ¬ (m : Int) = 0 := by omega
      have hA0 : w.heap.size ≤ w1.heap.size := G1.out.size
      go_wp2_with fail
      refine (lent_any a n cap L _ (HL.out.keptN G1.out) hn (by omega) HKM.out).mono ?_
      rintro en w2 ⟨⟨A, c, h, gs, xs, rfl, hln⟩, hg2⟩
      have N2 := hid_intro hln
      have G2 := hid_intro (grown_trans G1.out hg2)
      have hcl := hln.cap_le
      clear hln hg2
      go_wp2_with fail
      refine (lentKids_any b m cap2 K _ (HK.out.keptN G2.out) hkn (by omega)).mono ?_
      rintro en w3 ⟨⟨B, d, rfl, hlk⟩, hg3⟩
      have N3 := hid_intro (N2.out.keptN hg3)
      have K3 := hid_intro hlk
      have G3 := hid_intro (grown_trans G2.out hg3)
      have hB0 : w.heap.size ≤ w2.heap.size := G2.out.size
      clear hlk hg3 N2 G2
      go_wp2_with fail
      refine (bencode_any lv (some ⟨A, 0, none⟩) n c L (some ⟨B, 0, none⟩) m d K _ N3.out.lz hlb hn (by omega) (by omega) (by omega) K3.out.kl hkn (by omega)).mono ?_
      rintro en w5 ⟨⟨ao, jq, jc, e, zs, rfl, _, _, _, _, _, _⟩, hg4⟩
      have N5 := hid_intro (N3.out.keptN hg4)
      have K5 := hid_intro (K3.out.keptN hg4)
      have G5 := hid_intro (grown_trans G3.out hg4)
      clear hg4 N3 K3 G3
      generalize w2.heap.size = base2 at *
      go_upto_if 49 with fail
      go_cut [] (fun wx => ∃ L', Lt wx (some ⟨A, 0, none⟩) L' ∧ Lb L' ∧ L'.length = n ∧ (∀ s ∈ L', s.length ≤ 4096) ∧ Lk wx base2 B d K ∧ w.grownBy wx none)
      case first =>
        by_cases hn0 : 0 < n
        · obtain ⟨i, y, hi, hy, hy1, hy2, hi2⟩ := placeN pi n (by omega)
          have g0 : (0 : Int) ≤ (i : Int) := by omega
          have g1 : (i : Int) < (n : Int) := by omega
          have g2 : ¬ (n : Int) = 0 := by omega
          have g2' : (0 : Int) < (n : Int) := by omega
          have cl := N5.out.cell i (by omega)
          have HKi := hid_intro (HKL.out _ (lget_mem (show i < L.length by omega)))
          obtain ⟨k, hk⟩ : ∃ k, (L.getD i []).length = k := ⟨_, rfl⟩
          obtain ⟨g, hgg⟩ : ∃ g, (gs.getD i (0, 0)).1 = g := ⟨_, rfl⟩
          obtain ⟨gc, hgc⟩ : ∃ gc, (gs.getD i (0, 0)).2 = gc := ⟨_, rfl⟩
          rw [hk, hgg, hgc] at cl
          have hkk := HKi.out
          rw [hk] at hkk
          obtain ⟨_, hOw, hgb⟩ := N5.out.lp.el i (by omega)
          rw [hgg, hgc] at hOw
          rw [hgg] at hgb
          by_cases hk0 : 0 < k
          · obtain ⟨j, z, hj, hz, hz1, hz2, hj2⟩ := placeN pa k hk0
            have cb := hOw.cell (j := j) (by rw [List.length_append]; omega)
            have cf := hOw.frozen j
            have hby : 0 ≤ (L.getD i [] ++ [201, 202]).getD j 0 ∧ (L.getD i [] ++ [201, 202]).getD j 0 ≤ 255 := ((hlb _ (lget_mem (show i < L.length by omega))).app (btl [201, 202] rfl)).getD j
            have hxy := xor_byte5 hby hxb
            have hset := N5.out.setT i (by omega) j (by omega) (bits .xor .u8 ((L.getD i [] ++ [201, 202]).getD j 0) x)
            rw [hgg] at hset
            have HSET := hid_intro hset
            clear hset
            have hw1 : IntKind.i64.wrap (z + (k : Int)) = z + (k : Int) := by simp [IntKind.wrap, IntKind.bits, IntKind.signed]; omega
            have HLL : Hid (∀ s ∈ L.set i ((L.getD i []).set j (bits .xor .u8 ((L.getD i [] ++ [201, 202]).getD j 0) x)), s.length ≤ 4096) := mem_set5 HKL.out (by rw [List.length_set]; omega)
            have HLB : Hid (Lb (L.set i ((L.getD i []).set j (bits .xor .u8 ((L.getD i [] ++ [201, 202]).getD j 0) x)))) := mem_set5 hlb ((hlb _ (lget_mem (show i < L.length by omega))).set5 j _ hxy)
            have HLN : Hid ((L.set i ((L.getD i []).set j (bits .xor .u8 ((L.getD i [] ++ [201, 202]).getD j 0) x))).length = n) := by show _ = _; rw [List.length_set]; exact hn
            have HGC := grown_cell w5 g j (.int .u8 (bits .xor .u8 ((L.getD i [] ++ [201, 202]).getD j 0) x))
            have HGR := hid_intro (grown_new G5.out HGC (Nat.le_trans hA0 hgb))
            obtain ⟨cur9, hcur9⟩ := hOw.blk
            have HK9 := hid_intro (K5.out.kept HGC (fun e9 => own_ne K5.out.own hcur9 (by decide) e9.symm))
            generalize L.set i ((L.getD i []).set j (bits .xor .u8 ((L.getD i [] ++ [201, 202]).getD j 0) x)) = L' at *
            generalize (L.getD i [] ++ [201, 202]).getD j 0 = by0 at *
            have g3 : (0 : Int) < (k : Int) := by omega
            have g4 : ¬ (k : Int) = 0 := by omega
            have g5 : (0 : Int) ≤ (j : Int) := by omega
            have g6 : (j : Int) < (k : Int) := by omega
            clear hOw hk hgg hgc HGC hcur9
            go_wp2_with fail
            go_region
            all_goals
              go_wp2_with fail
              go_meet
              exact ⟨L', HSET.out.heap rfl, HLB.out, HLN.out, HLL.out, HK9.out.keptN ((Qt.refl _).drew.grown none), grown_trans HGR.out ((Qt.refl _).drew.grown none)⟩
          · have g3 : ¬ (0 : Int) < (k : Int) := by omega
            clear hOw hk hgg hgc
            go_wp2_with fail
            go_meet
            exact ⟨L, N5.out.lt, hlb, hn, HKL.out, K5.out, G5.out⟩
        · have HN0 := hid_intro hn0
          clear hn0
          go_wp2_with fail
          all_goals first
            | exact absurd (by assumption) HN0.out
            | (go_meet; exact ⟨L, N5.out.lt, hlb, hn, HKL.out, K5.out, G5.out⟩)
      case rest =>
      obtain ⟨L', h1, h1b, h2, h3, h5, h4⟩ := hcut
      have H1 := hid_intro h1
      have H1b := hid_intro h1b
      have H3' : Hid (∀ s ∈ L', s.length ≤ 20000) := fun s hs => by have := h3 s hs; omega
      have K6 := hid_intro h5
      have G6 := hid_intro h4
      clear h1 h1b h3 h4 h5 N5 G5 K5
      obtain ⟨q, y, hq, hy, hy1, hy2, hq2⟩ := placeN pi m (by omega)
      have hcc := K6.out.cells q (by omega)
      have eq : (K ++ [kdm]).getD q kd0 = K.getD q kd0 := by simp [List.getD, List.getElem?_append_left (show q < K.length by omega)]
      rw [eq] at hcc
      have cq := hcc.2
      have fq := K6.out.frozen (q * 2 + 1)
      obtain ⟨ky, hky⟩ : ∃ ky, (K.getD q kd0).keys = ky := ⟨_, rfl⟩
      rw [hky] at cq
      have HSK := hid_intro (fun v => K6.out.set q (by omega) v)
      have HLK : Hid (∀ v, (K.set q ⟨(K.getD q kd0).no, v⟩).length = m) := fun v => by rw [List.length_set]; exact hkn
      obtain ⟨kno, hkno⟩ : ∃ kno, (K.getD q kd0).no = kno := ⟨_, rfl⟩
      rw [hkno] at HSK HLK
      obtain ⟨curk, hcurk, _⟩ := K6.out.row
      have HL6 : Hid (∀ v : Value, Lz (wc.setCell ⟨B, q * 2 + 1, none⟩ v) (some ⟨A, 0, none⟩) L' ∧ w.grownBy (wc.setCell ⟨B, q * 2 + 1, none⟩ v) none) := fun v =>
        ⟨H1.out.beside hcurk (grown_cell wc B (q * 2 + 1) v), grown_new G6.out (grown_cell wc B (q * 2 + 1) v) (by have := (K6.out.own.lt B rfl).1; omega)⟩
      have g0 : (0 : Int) ≤ (q : Int) := by omega
      have g1 : (q : Int) < (m : Int) := by omega
      clear hcc eq hky hkno hcurk
      go_wp2_with fail
      have HL7 := hid_intro (HL6.out (.int .i64 (wrap64 (ky + 1)))).1
      have HG7 := hid_intro (HL6.out (.int .i64 (wrap64 (ky + 1)))).2
      have HK7 := hid_intro (HSK.out (wrap64 (ky + 1)))
      have HM7 := hid_intro (HLK.out (wrap64 (ky + 1)))
      clear cq fq HL6 HSK HLK H1 K6 G6
      generalize K.set q ⟨kno, wrap64 (ky + 1)⟩ = K' at *
      generalize wc.setCell ⟨B, q * 2 + 1, none⟩ (.int .i64 (wrap64 (ky + 1))) = w7 at *
      refine (refLists_any (some ⟨A, 0, none⟩) n c L' _ HL7.out h2 (by omega) H3'.out).mono ?_
      rintro en w8 ⟨⟨a8, c8, rfl, hl8, hc8, hc9⟩, hg8⟩
      have L8 := hid_intro hl8
      have M8 := hid_intro (HL7.out.keptN hg8)
      have K8 := hid_intro (HK7.out.keptN hg8)
      have G8 := hid_intro (grown_trans HG7.out hg8)
      clear hl8 hg8 HL7 HK7 HG7
      go_wp2_with fail
      refine (refKids_any (some ⟨B, 0, none⟩) m d K' _ K8.out HM7.out (by omega)).mono ?_
      rintro en w9 ⟨⟨v9, rfl, hown9⟩, hg9, _⟩
      obtain ⟨b9, d9, rfl, hk9, hm9, hd9, hd10⟩ := kc_kl hown9
      have L9 := hid_intro (L8.out.keptN hg9)
      have M9 := hid_intro (M8.out.keptN hg9)
      have K9 := hid_intro (K8.out.keptN hg9)
      have Q9 := hid_intro hk9
      have G9 := hid_intro (grown_trans G8.out hg9)
      clear hk9 hg9 hown9 L8 M8 K8 G8
      go_wp2_with fail
      refine (bencode_any lv (some ⟨A, 0, none⟩) n c L' (some ⟨B, 0, none⟩) m d K' _ M9.out H1b.out h2 (by omega) (by omega) (by omega) K9.out HM7.out (by omega)).mono ?_
      rintro en w10 ⟨⟨ao, j, jc, e, zs, rfl, hb4, hbe, hj4, hj5, hj6, _⟩, hg10⟩
      have L10 := hid_intro (L9.out.keptN hg10)
      have Q10 := hid_intro (Q9.out.keptN hg10)
      have G10 := hid_intro (grown_trans G9.out hg10)
      have B10 := hid_intro hb4
      have E10 := hid_intro hbe
      clear hb4 hbe hg10 L9 M9 K9 Q9 G9
      go_wp2_with fail
      refine (refEncode5_any lv a8 n c8 L' b9 m d9 K' _ L10.out H1b.out h2 (by omega) Q10.out HM7.out (by omega)).mono ?_
      rintro en w11 ⟨⟨ao5, j5, jc5, e5, ys, rfl, hb5, hbe5, hj7, hj8, hj9⟩, hg11⟩
      obtain ⟨hzy, rfl⟩ := E10.out.uniq hbe5
      have B11 := hid_intro (B10.out.keptN hg11)
      have C11 := hid_intro hb5
      have G11 := hid_intro (grown_trans G10.out hg11)
      have HZY := hid_intro hzy
      clear hb5 hbe5 hg11 hzy E10 L10 Q10 G10 B10
      go_wp2_with fail
      refine (same_yes _ _ _ _ _ _ _ _ _ B11.out C11.out HZY.out).mono ?_
      rintro en w11 ⟨rfl, rfl⟩
      go_wp2_with fail
      refine (num5_any _ _).mono ?_
      rintro en w11 ⟨rfl, rfl⟩
      go_wp2
      go_ret
      exact ⟨rfl, G11.out⟩
end Go.Proofs.Ytomknmboapgmbaa
