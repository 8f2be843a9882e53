import Derived.Test.YtlhjociijkhimaaGreatDoorBookM
namespace Go.Proofs.YtlhjociijkhimaaGreatDoor
open Go.RowKit

/-- A row of lists, as it is read. -/
structure Row (w : World) (v : Value) (r c : Nat) (xs : List Value) : Prop where
  val : ∃ ao, v = .slice ao xs.length c ∧ (0 < xs.length → ao = some ⟨r, 0, none⟩)
  cells : ∀ i x, xs[i]? = some x → w.cell? ⟨r, i, none⟩ = some x

theorem Row.kept {w w' : World} {v : Value} {r c : Nat} {xs : List Value} {row : Option Nat} (h : Row w v r c xs) (hg : w.grownBy w' row) (hne : some r ≠ row) : Row w' v r c xs :=
  ⟨h.val, fun i x hx => hg.cell (h.cells i x hx) hne⟩

theorem Row.set {w : World} {v : Value} {r c : Nat} {xs : List Value} (h : Row w v r c xs) (a : Addr) (u : Value) (hne : a.block ≠ r) : Row (w.setCell a u) v r c xs :=
  ⟨h.val, fun i x hx => by rw [World.cell?_setCell_other _ _ _ _ (fun e => hne (by rw [e]))]; exact h.cells i x hx⟩

/-- What the walks over a book's lists read of it. -/
structure Bc (w : World) (B : Nat) (ps : Int) (vb : Value) (r c : Nat) (L : List Sl) : Prop where
  pass : w.cell? ⟨B, 1, none⟩ = some (.int .i64 ps)
  lists : w.cell? ⟨B, 2, none⟩ = some vb
  row : Row w vb r c (L.map Sl.v)
  ok : ∀ s ∈ L, s.Ok ∧ s.There w ∧ s.g ≠ B ∧ s.g ≠ r
  apart : L.Pairwise Sl.Apart
  many : L.length ≤ 1000000

theorem Bc.set {w : World} {B : Nat} {ps : Int} {vb : Value} {r c : Nat} {L : List Sl} (h : Bc w B ps vb r c L) (s : Sl) (hs : s ∈ L) (j : Nat) (u : Value) : Bc (w.setCell ⟨s.g, s.o + j, none⟩ u) B ps vb r c L := by
  obtain ⟨_, _, h3, h4⟩ := h.ok s hs
  refine ⟨?_, ?_, h.row.set _ _ h4, fun t ht => ?_, h.apart, h.many⟩
  · rw [World.cell?_setCell_other _ _ _ _ (fun e => h3 (by injection e))]; exact h.pass
  · rw [World.cell?_setCell_other _ _ _ _ (fun e => h3 (by injection e))]; exact h.lists
  · obtain ⟨a1, a2, a3, a4⟩ := h.ok t ht
    exact ⟨a1, a2.set _ _, a3, a4⟩

theorem pair_at {L : List Sl} (h : L.Pairwise Sl.Apart) {i k : Nat} {s t : Sl} (hi : L[i]? = some s) (hk : L[k]? = some t) (hne : i ≠ k) : s.Apart t := by
  obtain ⟨li, ei⟩ := List.getElem?_eq_some_iff.1 hi
  obtain ⟨lk, ek⟩ := List.getElem?_eq_some_iff.1 hk
  rw [List.pairwise_iff_getElem] at h
  rcases Nat.lt_or_ge i k with hlt | hge
  · have := h i k li lk hlt
    rwa [ei, ek] at this
  · have := h k i lk li (by omega)
    rw [ei, ek] at this
    exact this.symm

/-- The first i lists show their marks, and j places of the next one. -/
structure Wn (I : World → Prop) (w : World) (B : Nat) (ps : Int) (vb : Value) (r c : Nat) (L : List Sl) (id0 i j : Nat) : Prop where
  inv : I w
  bc : Bc w B ps vb r c L
  done : ∀ k s, k < i → L[k]? = some s → s.Shows w (mark ps (id0 + k + 1))
  part : ∀ s, L[i]? = some s → ∀ q, q < j → w.cell? ⟨s.g, s.o + q, none⟩ = some (.int .u8 (mark ps (id0 + i + 1) q))

theorem Wn.step {I : World → Prop} {w : World} {B : Nat} {ps : Int} {vb : Value} {r c : Nat} {L : List Sl} {id0 i j : Nat} (h : Wn I w B ps vb r c L id0 i j) (hI : ∀ w s j v, s ∈ L → j < s.n → I w → I (w.setCell ⟨s.g, s.o + j, none⟩ v))
    {s : Sl} (hs : L[i]? = some s) (hj : j < s.n) : Wn I (w.setCell ⟨s.g, s.o + j, none⟩ (.int .u8 (mark ps (id0 + i + 1) j))) B ps vb r c L id0 i (j + 1) := by
  have hm : s ∈ L := List.mem_of_getElem? hs
  have hok := h.bc.ok s hm
  have hle := hok.1.le
  refine ⟨hI w s j _ hm hj h.inv, h.bc.set s hm j _, fun k t hk ht => ?_, fun t ht q hq => ?_⟩
  · refine (h.done k t hk ht).far _ _ fun q hq => ?_
    have h2 := (h.bc.ok t (List.mem_of_getElem? ht)).1.le
    exact pair_at h.bc.apart hs ht (by omega) j q (by omega) (by omega)
  · have e : t = s := by rw [hs] at ht; exact (Option.some.inj ht).symm
    subst e
    by_cases e : q = j
    · subst e
      obtain ⟨u, hu⟩ := (hok.2.1 q (by omega)).1
      exact World.cell?_setCell_same _ _ _ hu
    · rw [World.cell?_setCell_other _ _ _ _ (by intro e'; injection e' with _ e2; omega)]
      exact h.part t hs q (by omega)

theorem Bc.qt {w w' : World} {B : Nat} {ps : Int} {vb : Value} {r c : Nat} {L : List Sl} (h : Bc w B ps vb r c L) (hq : Qt w w') : Bc w' B ps vb r c L :=
  ⟨(hq.cell _).trans h.pass, (hq.cell _).trans h.lists, h.row.kept (hq.grown none) (by simp), fun s hs => ⟨(h.ok s hs).1, (h.ok s hs).2.1.kept (hq.grown none) (by simp), (h.ok s hs).2.2⟩, h.apart, h.many⟩

theorem Wn.qt {I : World → Prop} {w w' : World} {B : Nat} {ps : Int} {vb : Value} {r c : Nat} {L : List Sl} {id0 i j : Nat} (h : Wn I w B ps vb r c L id0 i j) (hI : ∀ w w', Qt w w' → I w → I w') (hq : Qt w w') : Wn I w' B ps vb r c L id0 i j :=
  ⟨hI w w' hq h.inv, h.bc.qt hq, fun k s hk hs => (h.done k s hk hs).kept (hq.grown none) (by simp), fun s hs q hlt => (hq.cell _).trans (h.part s hs q hlt)⟩

theorem Wn.next {I : World → Prop} {w : World} {B : Nat} {ps : Int} {vb : Value} {r c : Nat} {L : List Sl} {id0 i : Nat} {s : Sl} (hs : L[i]? = some s) (h : Wn I w B ps vb r c L id0 i s.n) : Wn I w B ps vb r c L id0 (i + 1) 0 :=
  ⟨h.inv, h.bc, fun k t hk ht => by
    by_cases e : k = i
    · subst e
      have e : t = s := by rw [hs] at ht; exact (Option.some.inj ht).symm
      subst e
      exact fun q hq => h.part t hs q hq
    · exact h.done k t (by omega) ht, fun t ht q hq => by omega⟩

set_option maxHeartbeats 2000000 in
set_option maxRecDepth 100000 in
theorem write_any (B : Nat) (ps : Int) (vb : Value) (r c : Nat) (L : List Sl) (id0 : Nat) (I : World → Prop) (w : World) (hid : id0 ≤ 1000000) (h : Bc w B ps vb r c L) (hI : I w)
    (hIs : ∀ w s j v, s ∈ L → j < s.n → I w → I (w.setCell ⟨s.g, s.o + j, none⟩ v)) (hIq : ∀ w w', Qt w w' → I w → I w') :
    Calls Tryz.prog 49 #[.pointer (some ⟨B, 0, none⟩), .int .i64 id0] w fun en w' => en = .returned (.int .i64 ((id0 + L.length : Nat) : Int)) ∧ Wn I w' B ps vb r c L id0 L.length 0 := by
  have hmany := h.many
  obtain ⟨vo, hvb, hvo⟩ := h.row.val
  rw [List.length_map] at hvb hvo
  have HVO := hid_intro hvo
  have HIS := hid_intro hIs
  have HIQ := hid_intro hIq
  have H0 : Hid (Wn I w B ps vb r c L id0 0 0) := ⟨hI, h, fun k s hk => by omega, fun s hs q hq => by omega⟩
  clear h hI hIs hIq hvo
  subst hvb
  go_enter Tryz.func49, Tryz.ntmps49
  go_wp2
  go_loopw [1, 5] (fun sid si wr => ∃ i : Nat, i ≤ L.length ∧ si = .int .i64 i ∧ sid = .int .i64 ((id0 + i : Nat) : Int) ∧ Wn I wr B ps (.slice vo L.length c) r c L id0 i 0) (fun _ si _ => L.length - (intOf si).toNat)
  case atStart => exact ⟨0, Nat.zero_le _, rfl, rfl, H0.out⟩
  case round =>
    obtain ⟨i, hi, rfl, rfl, hw⟩ := hrel
    have HW := hid_intro hw
    have cl := hw.bc.lists
    clear hw
    by_cases hlt : i < L.length
    · obtain ⟨s, hs⟩ : ∃ s, L[i]? = some s := ⟨L[i], List.getElem?_eq_getElem hlt⟩
      have hok := (HW.out.bc.ok s (List.mem_of_getElem? hs)).1
      obtain ⟨ao, hsv, hao⟩ := hok.val
      have h1 := hok.le
      have h2 := hok.max
      have HS := hid_intro hs
      have HAO := hid_intro hao
      have HSV := hid_intro hsv
      obtain rfl := HVO.out (by omega)
      clear hs hok hao hsv
      go_wp2
      go_loopw [6] (fun sj wr => ∃ j : Nat, j ≤ s.n ∧ sj = .int .i64 j ∧ Wn I wr B ps (.slice (some ⟨r, 0, none⟩) L.length c) r c L id0 i j) (fun sj _ => s.n - (intOf sj).toNat)
      case atStart => exact ⟨0, Nat.zero_le _, rfl, HW.out⟩
      case round =>
        obtain ⟨j, hj, rfl, hw⟩ := hrel
        have HJ := hid_intro hw
        have cl := hw.bc.lists
        have cr : wr.cell? ⟨r, i, none⟩ = some (.slice ao s.n s.c) := by
          rw [← HSV.out]; exact hw.bc.row.cells i _ (by rw [List.getElem?_map, HS.out]; rfl)
        clear hw
        by_cases hlj : j < s.n
        · obtain rfl := HAO.out (by omega)
          obtain ⟨⟨u, hu⟩, hf⟩ := (HJ.out.bc.ok s (List.mem_of_getElem? HS.out)).2.1 j (by omega)
          have HN := hid_intro (HJ.out.step HIS.out HS.out hlj)
          have PP : Hid (∀ w' : World, w'.heap = wr.heap → w'.cell? ⟨B, 1, none⟩ = some (.int .i64 ps)) := fun w' e => (World.cell?_of_block (by rw [e])).trans HJ.out.bc.pass
          go_wp2
          go_region_with (go_at_call 106; refine (mark_at B ps (id0 + i + 1) j _ _ _ (by exact PP.out _ rfl) (by omega) (by omega) (by omega) (by omega)).mono ?_; rintro en w4 ⟨rfl, rfl⟩)
          all_goals
            go_wp2
            go_roundw
            case rel => exact ⟨j + 1, by omega, by go_num, HN.out.qt HIQ.out (Qt.refl _).drew⟩
            case measure => simp [intOf]; omega
        · have hjn : j = s.n := by omega
          subst hjn
          have HN := hid_intro (HJ.out.next HS.out)
          go_wp2
          go_roundw
          case rel => exact ⟨i + 1, by omega, by go_num, by go_num, HN.out⟩
          case measure => simp [intOf]; omega
    · have hin : i = L.length := by omega
      subst hin
      go_wp2
      go_ret
      exact ⟨rfl, HW.out⟩

end Go.Proofs.YtlhjociijkhimaaGreatDoor
