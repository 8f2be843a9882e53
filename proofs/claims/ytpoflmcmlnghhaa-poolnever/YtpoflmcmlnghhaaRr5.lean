import Derived.Test.YtpoflmcmlnghhaaRr4
namespace Go.Proofs.Ytpoflmcmlnghhaa
open Go.RowKit Go.Maps

/-- A row that is written over: block g, cap cells, all else stays. -/
structure Ow7 (w0 w : World) (g cap : Nat) : Prop where
  row : ∃ cur, w.heap[g]? = some (.cells cur 3 (0, 0)) ∧ cur.size = cap
  fr : Fr w0 w (fun j => j = g)
theorem Ow7.cell {w0 w : World} {g cap : Nat} (h : Ow7 w0 w g cap) {i : Nat} (hi : i < cap) : (∃ v, w.cell? ⟨g, i, none⟩ = some v) ∧ w.frozen? ⟨g, i, none⟩ = false := by
  obtain ⟨cur, hc, hs⟩ := h.row
  refine ⟨⟨cur[i]'(by omega), ?_⟩, frozen_of_row w g i _ _ hc⟩
  rw [cell_of_row w g i _ _ _ hc]
  simp [Array.getElem?_eq_getElem (show i < cur.size by omega)]
theorem Ow7.put {w0 w : World} {g cap : Nat} (h : Ow7 w0 w g cap) (i : Nat) (v : Value) : Ow7 w0 (w.setCell ⟨g, i, none⟩ v) g cap := by
  obtain ⟨cur, hc, hs⟩ := h.row
  exact ⟨⟨_, heap_setCell_same w g i _ _ v hc, by simp [hs]⟩, h.fr.trans (Fr.of (grown_cellP w g i v) (fun j e => .inr (Option.some.inj e).symm))⟩

/-- A list with two marks behind it: its cells. -/
theorem marks_cells {w : World} {base g n cap : Nat} {zs : List Int} (h : w.ownsRow base 3 1 (.slice (some ⟨g, 0, none⟩) (n + 2) cap) (n + 2) ((zs ++ [201, 202]).map (Value.int .i64))) (hn : zs.length = n) :
    Nt w (some ⟨g, 0, none⟩) zs ∧ w.cell? ⟨g, n, none⟩ = some (.int .i64 201) ∧ w.cell? ⟨g, n + 1, none⟩ = some (.int .i64 202) ∧ n + 2 ≤ cap ∧ cap ≤ 9223372036854775807 := by
  obtain ⟨ao, cp, e, hnt, h1, h2, -, -⟩ := owns_ints h
  injection e with e1 e2 e3
  subst e1 e3
  have hl : (zs ++ [201, 202]).length = n + 2 := by simp [hn]
  refine ⟨⟨fun i hi => ⟨g, 0, rfl, ?_⟩⟩, ?_, ?_, h1, h2⟩
  · have := hnt.at i (by omega)
    rw [this]
    congr 2
    simp [List.getD, List.getElem?_append_left hi]
  · have := hnt.at n (by omega)
    rw [Nat.zero_add] at this
    rw [this]
    subst hn
    simp [List.getD]
  · have := hnt.at (n + 1) (by omega)
    rw [Nat.zero_add] at this
    rw [this]
    subst hn
    simp [List.getD]

set_option maxHeartbeats 8000000 in
set_option maxRecDepth 100000 in
theorem begin_no (c k : Int) (a : Option Addr) (n cap : Nat) (fr : List Int) (w : World) (hl : Nt w a fr) (hn : fr.length = n) (hm : n ≤ 4000) (hok : newOk c k fr = false) :
    Calls Try.prog 8 #[.int .i64 c, .int .i64 k, .slice a n cap] w fun e w' => ∃ Q, e = .returned (.tuple #[.pointer (some ⟨Q, 0, none⟩), .bool true]) ∧ w'.heap[Q]? = some (.cells #[.pointer none, .pointer none] 30 (0, 0)) ∧ w.grownBy w' none ∧ w.heap.size ≤ Q := by
  obtain ⟨i1, hi1, hy0, hy1, hy2⟩ := info_parts info_int
  have HL := hid_intro hl
  clear hl
  go_enter Try.func8, Try.ntmps8
  go_wp2_with fail
  refine (refInts_any a n cap fr _ HL.out hn (by omega)).mono ?_
  rintro en w1 ⟨⟨v1, rfl, ho1⟩, hg1, hs1⟩
  have HO1 := hid_intro ho1
  have HG1 := hid_intro hg1
  clear ho1 hg1
  go_wp2_with (first
    | (at_builtin; refine wpList_append_own _ rfl _ _ 22 rfl w.heap.size 3 i1 (.int .i64 0) 1 8 Try.underlying22 hi1 hy0 hy1 hy2 rfl (by decide) v1 n (fr.map (Value.int .i64)) rfl (HO1.out.alloc _) ⟨w1.heap.size, 0, none⟩ 2 2 [.int .i64 201, .int .i64 202] rfl rfl (news2 w1 3 (.int .i64 201) (.int .i64 202) _ rfl) (by intro u hu; simp at hu; rcases hu with rfl | rfl <;> rfl) (by unfold maxLen; omega) (by omega) (by have := HG1.out.size; simp; omega) ?_; intro v2 w2 ho2 hg2 _; obtain ⟨gl, cp, cur, e2, -⟩ := ho2.2.resolve_left (fun e => by have := e.2; omega); subst e2; have HG2 := hid_intro (grown_app5 HG1.out HO1.out (Nat.le_refl _) hg2); have HO2 : Hid (w2.ownsRow w.heap.size 3 1 (.slice (some ⟨gl, 0, none⟩) (n + 2) cp) (n + 2) ((fr ++ [201, 202]).map (Value.int .i64))) := (by rw [List.map_append]; exact ho2); clear ho2 hg2; have NL2 := hid_intro (marks_cells HO2.out hn).1; have hcp := (marks_cells HO2.out hn).2.2.2.1; have hcp2 := (marks_cells HO2.out hn).2.2.2.2))
  go_wp2_with fail
  refine (new_no c k (some ⟨gl, 0, none⟩) n cp fr w2 NL2.out hn (by omega) hok).mono ?_
  rintro en w3 ⟨rfl, rfl⟩
  have hg3 := World.grownBy.refl w3 none
  have HG3 := hid_intro (grown_trans HG2.out hg3)
  have HO3 := hid_intro (own_kept5 HO2.out hg3)
  have HGL0 := hid_intro (own_lt HO2.out (g := gl) rfl)
  have HS23 := hid_intro hg3.size
  clear hg3
  go_wp2_with fail
  refine (rnew_no c k a n cap fr _ (HL.out.keptN HG3.out) hn (by omega) hok).mono ?_
  rintro en w4 ⟨rfl, hg4⟩
  have HG4 := hid_intro (grown_trans HG3.out hg4)
  have HO4 := hid_intro (own_kept5 HO3.out hg4)
  have HS34 := hid_intro hg4.size
  clear hg4 HO3
  have gb := World.grownBy_alloc w4 (.cells #[.pointer none, .pointer none] 30) none
  have QX : Hid ((w4.alloc (.cells #[.pointer none, .pointer none] 30)).heap[w4.heap.size]? = some (.cells #[.pointer none, .pointer none] 30 (0, 0))) := heap_alloc_new w4 _
  have HGL : Hid (w.heap.size ≤ gl ∧ gl < w3.heap.size ∧ gl < w4.heap.size ∧ w.heap.size ≤ w3.heap.size) := by
    obtain ⟨h1, cur, hc⟩ := HGL0.out
    have h2 := (Array.getElem?_eq_some_iff.1 hc).1
    have h3 := HS23.out
    have h4 := HS34.out
    exact ⟨h1, h2, by omega, HG2.out.size⟩
  go_wp2_with fail
  generalize w4.alloc (.cells #[.pointer none, .pointer none] 30) = w5 at *
  have HOB : Hid (w.heap.size ≤ w4.heap.size ∧ w4.heap.size ≠ gl) := ⟨HG4.out.size, by have := HGL.out.2.2.1; omega⟩
  have HO5 := hid_intro (own_kept5 HO4.out gb)
  have HG5 := hid_intro (grown_trans HG4.out gb)
  obtain ⟨m1, m2, m3, -, -⟩ := marks_cells HO5.out hn
  have NL5 := hid_intro m1
  have M2 := hid_intro m2
  have M3 := hid_intro m3
  have HA5 := hid_intro (HL.out.keptN HG5.out)
  clear gb m1 m2 m3 HO4 HG4
  refine (sameI_yes (some ⟨gl, 0, none⟩) n cp a n cap fr w5 NL5.out hn HA5.out hn (by omega)).mono ?_
  rintro en w6 ⟨rfl, hq6⟩
  have c20 := (hq6.cell _).trans M2.out
  have c21 := (hq6.cell _).trans M3.out
  have HQ6 := hid_intro hq6
  clear hq6 NL5 HA5 M2 M3
  have hn1 : (n : Int) < (n : Int) + 2 := by omega
  have hn2 : (n : Int) + 1 < (n : Int) + 2 := by omega
  go_wp2
  have HW0 : Hid (Ow7 w5 w6 gl cp) := by
    obtain ⟨_, cur, hc⟩ := own_lt HO5.out (g := gl) rfl
    refine ⟨⟨cur, by rw [HQ6.out.heap]; exact hc, ?_⟩, Fr.ofN (HQ6.out.grown none)⟩
    rcases HO5.out.2 with ⟨e, _⟩ | ⟨g', cp', cur', e, _, hc', _, _, hsz, _⟩
    · cases e
    · injection e with e1 _ e3
      injection e1 with e1
      injection e1 with e1
      subst e1 e3
      rw [hc] at hc'
      injection hc' with hc'
      injection hc' with hc'
      rw [hc', hsz]
      omega
  have HG6 := hid_intro (grown_trans HG5.out (HQ6.out.grown none))
  go_loopw [12] (fun si wr => ∃ i : Nat, i ≤ n + 2 ∧ si = .int .i64 i ∧ Ow7 w5 wr gl cp) (fun si _ => n + 2 - (zOf si).toNat)
  case atStart => exact ⟨0, Nat.zero_le _, rfl, HW0.out⟩
  case round =>
    obtain ⟨i, hi, rfl, hw⟩ := hrel
    have HW := hid_intro hw
    clear hw HW0 HQ6 c20 c21
    by_cases hlt : i < n + 2
    · obtain ⟨⟨v, d0⟩, f0⟩ := HW.out.cell (i := i) (by omega)
      have HW2 := hid_intro (HW.out.put i (.int .i64 7))
      have g1 : (i : Int) < (n : Int) + 2 := by omega
      go_wp2
      go_roundw
      case rel => exact ⟨i + 1, by omega, by go_num, HW2.out⟩
      case measure => simp [zOf]; omega
    · have g1 : ¬ (i : Int) < (n : Int) + 2 := by omega
      have HPE : Hid (wr.heap[w4.heap.size]? = some (.cells #[.pointer none, .pointer none] 30 (0, 0))) := (HW.out.fr.block _ (Array.getElem?_eq_some_iff.1 QX.out).1 HOB.out.2).trans QX.out
      have k0 : wr.cell? ⟨w4.heap.size, 0, none⟩ = some (.pointer none) := cell_of_row wr _ 0 _ _ _ HPE.out
      have k1 : wr.cell? ⟨w4.heap.size, 1, none⟩ = some (.pointer none) := cell_of_row wr _ 1 _ _ _ HPE.out
      have HGE : Hid (w.grownBy wr none) := grown_fr HG5.out HW.out.fr (fun j e => by rw [e]; exact HGL.out.1)
      go_wp2
      go_quiet (fail)
      go_wp2
      go_ret2
      exact ⟨_, by first | rfl | simp, HPE.out, grown_trans HGE.out ((Qt.drewN _ _).grown none), HOB.out.1⟩

set_option maxHeartbeats 8000000 in
set_option maxRecDepth 100000 in
theorem begin_yes (c k : Int) (a : Option Addr) (n cap : Nat) (fr : List Int) (w : World) (hl : Nt w a fr) (hn : fr.length = n) (hm : n ≤ 4000) (hok : newOk c k fr = true) :
    Calls Try.prog 8 #[.int .i64 c, .int .i64 k, .slice a n cap] w fun e w' => ∃ Q B s q R F, e = .returned (.tuple #[.pointer (some ⟨Q, 0, none⟩), .bool true]) ∧ Pr w' Q B s q R F (newP c k fr) ⟨c, k, fr.map fun x => (x, 0), []⟩ ∧ w.grownBy w' none ∧ (∀ i, Ob Q B s q F i → w.heap.size ≤ i) := by
  obtain ⟨i1, hi1, hy0, hy1, hy2⟩ := info_parts info_int
  have HL := hid_intro hl
  clear hl
  go_enter Try.func8, Try.ntmps8
  go_wp2_with fail
  refine (refInts_any a n cap fr _ HL.out hn (by omega)).mono ?_
  rintro en w1 ⟨⟨v1, rfl, ho1⟩, hg1, hs1⟩
  have HO1 := hid_intro ho1
  have HG1 := hid_intro hg1
  clear ho1 hg1
  go_wp2_with (first
    | (at_builtin; refine wpList_append_own _ rfl _ _ 22 rfl w.heap.size 3 i1 (.int .i64 0) 1 8 Try.underlying22 hi1 hy0 hy1 hy2 rfl (by decide) v1 n (fr.map (Value.int .i64)) rfl (HO1.out.alloc _) ⟨w1.heap.size, 0, none⟩ 2 2 [.int .i64 201, .int .i64 202] rfl rfl (news2 w1 3 (.int .i64 201) (.int .i64 202) _ rfl) (by intro u hu; simp at hu; rcases hu with rfl | rfl <;> rfl) (by unfold maxLen; omega) (by omega) (by have := HG1.out.size; simp; omega) ?_; intro v2 w2 ho2 hg2 _; obtain ⟨gl, cp, cur, e2, -⟩ := ho2.2.resolve_left (fun e => by have := e.2; omega); subst e2; have HG2 := hid_intro (grown_app5 HG1.out HO1.out (Nat.le_refl _) hg2); have HO2 : Hid (w2.ownsRow w.heap.size 3 1 (.slice (some ⟨gl, 0, none⟩) (n + 2) cp) (n + 2) ((fr ++ [201, 202]).map (Value.int .i64))) := (by rw [List.map_append]; exact ho2); clear ho2 hg2; have NL2 := hid_intro (marks_cells HO2.out hn).1; have hcp := (marks_cells HO2.out hn).2.2.2.1; have hcp2 := (marks_cells HO2.out hn).2.2.2.2))
  go_wp2_with fail
  refine (new_yes c k (some ⟨gl, 0, none⟩) n cp fr w2 NL2.out hn (by omega) hok).mono ?_
  rintro en w3 ⟨B, s, q, rfl, hp3, hg3, hb3⟩
  have HP3 := hid_intro hp3
  have HB3 := hid_intro hb3
  have HG3 := hid_intro (grown_trans HG2.out hg3)
  have HO3 := hid_intro (own_kept5 HO2.out hg3)
  have HGL0 := hid_intro (own_lt HO2.out (g := gl) rfl)
  have HS23 := hid_intro hg3.size
  clear hg3 hp3 hb3
  have HLO3 := hid_intro HP3.out.low
  go_wp2_with fail
  refine (rnew_yes c k a n cap fr _ (HL.out.keptN HG3.out) hn (by omega) hok).mono ?_
  rintro en w4 ⟨R, rfl, hz4, hg4⟩
  have HZ4 := hid_intro hz4
  have HP4 := hid_intro (HP3.out.keptN hg4)
  clear hz4 HP3
  have HG4 := hid_intro (grown_trans HG3.out hg4)
  have HO4 := hid_intro (own_kept5 HO3.out hg4)
  have HS34 := hid_intro hg4.size
  clear hg4 HO3
  have gb := World.grownBy_alloc w4 (.cells #[.pointer (some ⟨B, 0, none⟩), .pointer (some ⟨R, 0, none⟩)] 30) none
  have QX : Hid ((w4.alloc (.cells #[.pointer (some ⟨B, 0, none⟩), .pointer (some ⟨R, 0, none⟩)] 30)).heap[w4.heap.size]? = some (.cells #[.pointer (some ⟨B, 0, none⟩), .pointer (some ⟨R, 0, none⟩)] 30 (0, 0))) := heap_alloc_new w4 _
  have HGL : Hid (w.heap.size ≤ gl ∧ gl < w2.heap.size ∧ gl < w4.heap.size ∧ w.heap.size ≤ w2.heap.size) := by
    obtain ⟨h1, cur, hc⟩ := HGL0.out
    have h2 := (Array.getElem?_eq_some_iff.1 hc).1
    have h3 := HS23.out
    have h4 := HS34.out
    exact ⟨h1, h2, by omega, HG2.out.size⟩
  go_wp2_with fail
  generalize w4.alloc (.cells #[.pointer (some ⟨B, 0, none⟩), .pointer (some ⟨R, 0, none⟩)] 30) = w5 at *
  have HPR : Hid (Pr w5 w4.heap.size B s q R (fun i => w3.heap.size ≤ i ∧ i < w4.heap.size) (newP c k fr) ⟨c, k, fr.map fun x => (x, 0), []⟩) := by
    refine ⟨QX.out, HP4.out.keptN gb, newP_okR hok, HZ4.out.keptN gb, fun i hi hb => ?_, fun hq => by have := hq.2; omega, ⟨rfl, rfl, rfl, Pq.nil⟩, by simp⟩
    have h1 := hi.1
    have := HLO3.out i hb
    omega
  have HOB : Hid (∀ i, Ob w4.heap.size B s q (fun i => w3.heap.size ≤ i ∧ i < w4.heap.size) i → w.heap.size ≤ i ∧ i ≠ gl) := by
    have g3 := HG3.out.size
    have g4 := HG4.out.size
    rintro i (rfl | hi | hi)
    · exact ⟨g4, by have := HGL.out.2.2.1; omega⟩
    · refine ⟨?_, fun e => ?_⟩
      · have h1 := HB3.out i hi
        have h2 := HGL.out.2.2.2
        omega
      · have h1 := HB3.out i hi
        have h2 := HGL.out.2.1
        omega
    · exact ⟨by have := hi.1; omega, by have := hi.1; have := HGL.out.2.1; have := HS23.out; omega⟩
  have HO5 := hid_intro (own_kept5 HO4.out gb)
  have HG5 := hid_intro (grown_trans HG4.out gb)
  obtain ⟨m1, m2, m3, -, -⟩ := marks_cells HO5.out hn
  have NL5 := hid_intro m1
  have M2 := hid_intro m2
  have M3 := hid_intro m3
  have HA5 := hid_intro (HL.out.keptN HG5.out)
  clear gb m1 m2 m3 HO4 HG4
  refine (sameI_yes (some ⟨gl, 0, none⟩) n cp a n cap fr w5 NL5.out hn HA5.out hn (by omega)).mono ?_
  rintro en w6 ⟨rfl, hq6⟩
  have c20 := (hq6.cell _).trans M2.out
  have c21 := (hq6.cell _).trans M3.out
  have HQ6 := hid_intro hq6
  clear hq6 NL5 HA5 M2 M3
  have hn1 : (n : Int) < (n : Int) + 2 := by omega
  have hn2 : (n : Int) + 1 < (n : Int) + 2 := by omega
  go_wp2
  have HW0 : Hid (Ow7 w5 w6 gl cp) := by
    obtain ⟨_, cur, hc⟩ := own_lt HO5.out (g := gl) rfl
    refine ⟨⟨cur, by rw [HQ6.out.heap]; exact hc, ?_⟩, Fr.ofN (HQ6.out.grown none)⟩
    rcases HO5.out.2 with ⟨e, _⟩ | ⟨g', cp', cur', e, _, hc', _, _, hsz, _⟩
    · cases e
    · injection e with e1 _ e3
      injection e1 with e1
      injection e1 with e1
      subst e1 e3
      rw [hc] at hc'
      injection hc' with hc'
      injection hc' with hc'
      rw [hc', hsz]
      omega
  have HG6 := hid_intro (grown_trans HG5.out (HQ6.out.grown none))
  go_loopw [12] (fun si wr => ∃ i : Nat, i ≤ n + 2 ∧ si = .int .i64 i ∧ Ow7 w5 wr gl cp) (fun si _ => n + 2 - (zOf si).toNat)
  case atStart => exact ⟨0, Nat.zero_le _, rfl, HW0.out⟩
  case round =>
    obtain ⟨i, hi, rfl, hw⟩ := hrel
    have HW := hid_intro hw
    clear hw HW0 HQ6 c20 c21
    by_cases hlt : i < n + 2
    · obtain ⟨⟨v, d0⟩, f0⟩ := HW.out.cell (i := i) (by omega)
      have HW2 := hid_intro (HW.out.put i (.int .i64 7))
      have g1 : (i : Int) < (n : Int) + 2 := by omega
      go_wp2
      go_roundw
      case rel => exact ⟨i + 1, by omega, by go_num, HW2.out⟩
      case measure => simp [zOf]; omega
    · have g1 : ¬ (i : Int) < (n : Int) + 2 := by omega
      have HPE := hid_intro (HPR.out.fr HW.out.fr (fun i hi e => (HOB.out i hi).2 e))
      have k0 := HPE.out.c0
      have k1 := HPE.out.c1
      have HGE : Hid (w.grownBy wr none) := grown_fr HG5.out HW.out.fr (fun j e => by rw [e]; exact HGL.out.1)
      go_wp2
      go_quiet (fail)
      go_wp2
      go_ret2
      exact ⟨_, B, s, q, R, _, by first | rfl | simp, HPE.out.keptN ((Qt.drewN _ _).grown none), grown_trans HGE.out ((Qt.drewN _ _).grown none), fun i hi => (HOB.out i hi).1⟩
end Go.Proofs.Ytpoflmcmlnghhaa
