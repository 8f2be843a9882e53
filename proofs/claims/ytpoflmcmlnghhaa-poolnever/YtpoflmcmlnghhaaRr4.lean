import Derived.Test.YtpoflmcmlnghhaaRr3
namespace Go.Proofs.Ytpoflmcmlnghhaa
open Go.RowKit Go.Maps

/-- The pins, as a map and as a list. -/
structure Pq (q : List (Int × Int)) (ps : List Int) : Prop where
  ris : Ris q
  cnt : ∀ v, getI q v = (ps.count v : Nat)
  pos : ∀ x ∈ q, 1 ≤ x.2
theorem Pq.has {q : List (Int × Int)} {ps : List Int} (h : Pq q ps) (v : Int) : v ∈ ps ↔ ∃ x ∈ q, x.1 = v := by
  constructor
  · intro hv
    have h1 : 0 < ps.count v := List.count_pos_iff.2 hv
    have h2 := h.cnt v
    cases hh : hasI q v with
    | true => exact (hasI_iff q v).1 hh
    | false =>
      rw [getI_none hh] at h2
      omega
  · rintro ⟨x, hx, rfl⟩
    have h1 := h.pos x hx
    have h2 := h.cnt x.1
    rw [getI_mem h.ris hx] at h2
    exact List.count_pos_iff.1 (by omega)
theorem Pq.nil : Pq [] [] := ⟨Ris.nil, fun v => by simp [getI], fun x hx => by simp at hx⟩

/-- Both pools say the same. -/
structure Ag (p : Po) (r : Ro) : Prop where
  c : r.c = p.c
  k : r.k = p.k
  l : r.l = p.l
  q : Pq p.q r.ps
theorem Ag.us {p : Po} {r : Ro} (h : Ag p r) : usR r = us p := by
  unfold usR Go.Proofs.Ytpoflmcmlnghhaa.us usb
  rw [h.l]
  congr 1
  apply List.filter_congr
  intro x _
  rw [Bool.eq_iff_iff, List.all_eq_true, List.all_eq_true]
  simp only [decide_eq_true_eq]
  constructor
  · intro h1 y hy
    exact h1 y.1 ((h.q.has y.1).2 ⟨y, hy, rfl⟩)
  · intro h1 v hv
    obtain ⟨y, hy, rfl⟩ := (h.q.has v).1 hv
    exact h1 y hy
theorem Ag.rm {p : Po} {r : Ro} (h : Ag p r) : rmR r = rm p := by
  unfold rmR Go.Proofs.Ytpoflmcmlnghhaa.rm
  rw [h.us, h.k, h.c]

theorem newP_okR {c k : Int} {fr : List Int} (h : newOk c k fr = true) : Ok (newP c k fr) := by
  simp only [newOk, Bool.and_eq_true, decide_eq_true_eq, rp_iff] at h
  obtain ⟨⟨⟨h1, h2⟩, h3⟩, h4, h5⟩ := h
  refine ⟨h1, h2, h3, fun x hx => ?_⟩
  obtain ⟨y, hy, rfl⟩ := List.mem_map.1 hx
  have := h5 y hy
  exact ⟨by show 2 ≤ y; omega, this.2⟩
theorem gd {w W : World} (h : w.grownBy W none) : w.grownBy W.drew none := grown_trans h ((Qt.refl W).drew.grown none)
/-- A pool of the program and the document's. -/
structure Pr (w : World) (Q B s q R : Nat) (F : Nat → Prop) (p : Po) (r : Ro) : Prop where
  qx : w.heap[Q]? = some (.cells #[.pointer (some ⟨B, 0, none⟩), .pointer (some ⟨R, 0, none⟩)] 30 (0, 0))
  pl : Pl w B s q p
  ok : Ok p
  rz : Rz w F R r
  dj : ∀ i, F i → ¬ Bk B s q i
  qF : ¬ F Q
  ag : Ag p r
  ml : r.ps.length ≤ 1000000
theorem Pr.qlt {w : World} {Q B s q R : Nat} {F : Nat → Prop} {p : Po} {r : Ro} (h : Pr w Q B s q R F p r) : Q < w.heap.size := (Array.getElem?_eq_some_iff.1 h.qx).1
theorem Pr.c0 {w : World} {Q B s q R : Nat} {F : Nat → Prop} {p : Po} {r : Ro} (h : Pr w Q B s q R F p r) : w.cell? ⟨Q, 0, none⟩ = some (.pointer (some ⟨B, 0, none⟩)) := cell_of_row w Q 0 _ _ _ h.qx
theorem Pr.c1 {w : World} {Q B s q R : Nat} {F : Nat → Prop} {p : Po} {r : Ro} (h : Pr w Q B s q R F p r) : w.cell? ⟨Q, 1, none⟩ = some (.pointer (some ⟨R, 0, none⟩)) := cell_of_row w Q 1 _ _ _ h.qx
theorem Pr.keptN {w w' : World} {Q B s q R : Nat} {F : Nat → Prop} {p : Po} {r : Ro} (h : Pr w Q B s q R F p r) (hg : w.grownBy w' none) : Pr w' Q B s q R F p r :=
  ⟨(hg.block Q h.qlt (by simp)).trans h.qx, h.pl.keptN hg, h.ok, h.rz.keptN hg, h.dj, h.qF, h.ag, h.ml⟩
/-- All blocks of a pair. -/
def Ob (Q B s q : Nat) (F : Nat → Prop) (i : Nat) : Prop := i = Q ∨ Bk B s q i ∨ F i
theorem Pr.fr {w w' : World} {G : Nat → Prop} {Q B s q R : Nat} {F : Nat → Prop} {p : Po} {r : Ro} (h : Pr w Q B s q R F p r) (hf : Fr w w' G) (hd : ∀ i, Ob Q B s q F i → ¬ G i) : Pr w' Q B s q R F p r :=
  ⟨(hf.block Q h.qlt (hd Q (.inl rfl))).trans h.qx, hf.pl h.pl (fun i hi => hd i (.inr (.inl hi))), h.ok, h.rz.fr hf (fun i hi => hd i (.inr (.inr hi))), h.dj, h.qF, h.ag, h.ml⟩
theorem Pr.low {w : World} {Q B s q R : Nat} {F : Nat → Prop} {p : Po} {r : Ro} (h : Pr w Q B s q R F p r) : ∀ i, Ob Q B s q F i → i < w.heap.size := by
  rintro i (rfl | hi | hi)
  · exact h.qlt
  · exact h.pl.low i hi
  · exact h.rz.low i hi

set_option maxHeartbeats 8000000 in
set_option maxRecDepth 100000 in
theorem tells_any {w : World} {Q B s q R : Nat} {F : Nat → Prop} {p : Po} {r : Ro} (h : Pr w Q B s q R F p r) :
    Calls Try.prog 9 #[.pointer (some ⟨Q, 0, none⟩)] w fun e w' => e = .returned (.bool true) ∧ w.grownBy w' none := by
  have hl := h.ok.len h.pl.ms.ris
  have hrl : r.l.length ≤ 524287 := by rw [h.ag.l]; exact hl
  have hml := h.ml
  have hul := us_len p
  have HF := hid_intro (fun (W : World) (hW : w.grownBy W none) => free_any (h.keptN hW).pl (by omega))
  have HFR := hid_intro (fun (W : World) (hW : w.grownBy W none) => rfree_any (h.keptN hW).rz (by omega))
  have HU := hid_intro (fun (W : World) (hW : w.grownBy W none) => usable_any (h.keptN hW).pl (by omega))
  have HUR := hid_intro (fun (W : World) (hW : w.grownBy W none) => rusable_any (h.keptN hW).rz (by omega) (by omega))
  have HCN := hid_intro (fun (W : World) (hW : w.grownBy W none) => count_any (h.keptN hW).pl)
  have HRM := hid_intro (fun (W : World) (hW : w.grownBy W none) => room_any (h.keptN hW).pl h.ok)
  have HRR := hid_intro (fun (W : World) (hW : w.grownBy W none) => rroom_any (h.keptN hW).rz (by omega) (by omega) (by rw [h.ag.c]; have := h.ok.c2; omega) (by rw [h.ag.c, h.ag.k]; exact h.ok.ck) (by rw [h.ag.k]; have := h.ok.k; omega))
  rw [h.ag.rm] at HRR
  rw [h.ag.l] at HFR
  rw [h.ag.us] at HUR
  have HSS : Hid (∀ W, w.grownBy W none → W.cell? ⟨Q, 0, none⟩ = some (.pointer (some ⟨B, 0, none⟩)) ∧ W.cell? ⟨Q, 1, none⟩ = some (.pointer (some ⟨R, 0, none⟩)) ∧ W.cell? ⟨R, 0, none⟩ = some (.int .i64 p.c)) := fun W hW => by
    have hP := h.keptN hW
    obtain ⟨vL, vP, hr⟩ := hP.rz
    exact ⟨hP.c0, hP.c1, by rw [← hP.ag.c]; exact hr.c0⟩
  have hLn : Hid ((p.l.map (·.1)).length = p.l.length) := by show _ = _; simp
  obtain ⟨n, hn⟩ : ∃ n, n = p.l.length := ⟨_, rfl⟩
  obtain ⟨m, hm⟩ : ∃ m, m = (us p).length := ⟨_, rfl⟩
  have hUn : Hid ((us p).length = m) := hm.symm
  rw [← hn] at hl HF HFR hLn hul
  rw [← hm] at HU HUR hul
  clear h hrl hml hn hm
  generalize p.l.map (·.1) = L at *
  generalize us p = U at *
  generalize p.c = pc at *
  generalize rm p = pr at *
  have c0 := (HSS.out w (World.grownBy.refl _ _)).1
  go_enter Try.func9, Try.ntmps9
  go_wp2_with fail
  refine (HF.out w (World.grownBy.refl _ _)).mono ?_
  rintro en w1 ⟨v1, rfl, ho1, hg1⟩
  obtain ⟨a1, k1, rfl, hn1, -⟩ := owns_ints ho1
  have HN1 := hid_intro hn1
  have HG1 := hid_intro hg1
  have c1 := (HSS.out w1 hg1).2.1
  clear ho1 hg1 hn1 c0
  go_wp2_with fail
  refine (HFR.out w1 HG1.out).mono ?_
  rintro en w2 ⟨v2, rfl, ho2, hg2⟩
  obtain ⟨a2, k2, rfl, hn2, -⟩ := owns_ints ho2
  have HN1b := hid_intro (HN1.out.keptN hg2)
  have HN2 := hid_intro hn2
  have HG2 := hid_intro (grown_trans HG1.out hg2)
  have c0 := (HSS.out w2 HG2.out).1
  clear ho2 hg2 hn2 c1 HN1 HG1
  go_wp2_with fail
  refine (HU.out w2 HG2.out).mono ?_
  rintro en w3 ⟨v3, rfl, ho3, hg3⟩
  obtain ⟨a3, k3, rfl, hn3, -⟩ := owns_ints ho3
  have HN1 := hid_intro (HN1b.out.keptN hg3)
  have HN2b := hid_intro (HN2.out.keptN hg3)
  have HN3 := hid_intro hn3
  have HG3 := hid_intro (grown_trans HG2.out hg3)
  have c1 := (HSS.out w3 HG3.out).2.1
  clear ho3 hg3 hn3 c0 HN1b HN2 HG2
  go_wp2_with fail
  refine (HUR.out w3 HG3.out).mono ?_
  rintro en w4 ⟨v4, rfl, ho4, hg4⟩
  obtain ⟨a4, k4, rfl, hn4, -⟩ := owns_ints ho4
  have HN1b := hid_intro (HN1.out.keptN hg4)
  have HN2 := hid_intro (HN2b.out.keptN hg4)
  have HN3b := hid_intro (HN3.out.keptN hg4)
  have HN4 := hid_intro hn4
  have HG4 := hid_intro (grown_trans HG3.out hg4)
  clear ho4 hg4 hn4 c1 HN1 HN2b HN3 HG3
  go_wp2_with fail
  refine (sameI_yes a1 n k1 a2 n k2 L w4 HN1b.out hLn.out HN2.out hLn.out (by omega)).mono ?_
  rintro en w5 ⟨rfl, hq5⟩
  have HN3 := hid_intro (HN3b.out.keptN (hq5.grown none))
  have HN4b := hid_intro (HN4.out.keptN (hq5.grown none))
  have HG5 := hid_intro (grown_trans HG4.out (hq5.grown none))
  clear hq5 HN1b HN2 HN3b HN4 HG4
  go_wp2_with fail
  refine (sameI_yes a3 m k3 a4 m k4 U w5 HN3.out hUn.out HN4b.out hUn.out (by omega)).mono ?_
  rintro en w6 ⟨rfl, hq6⟩
  have HG6 := hid_intro (grown_trans HG5.out (hq6.grown none))
  clear hq6 HN3 HN4b HG5
  have S0 := HSS.out w6 HG6.out
  clear HF HFR HU HUR
  go_wp2_with fail
  clear S0
  go_region_held3 (fun w' => w'.cell? ⟨Q, 0, none⟩ = some (.pointer (some ⟨B, 0, none⟩)) ∧ w'.cell? ⟨Q, 1, none⟩ = some (.pointer (some ⟨R, 0, none⟩)) ∧ w'.cell? ⟨R, 0, none⟩ = some (.int .i64 pc)) (exact HSS.out _ (by first | exact HG8.out | exact gd HG8.out | exact gd (gd HG8.out) | exact HG7.out | exact gd HG7.out | exact gd (gd HG7.out) | exact HG6.out | exact gd HG6.out | exact gd (gd HG6.out) | exact gd (gd (gd HG6.out))))
    (first
      | (go_at_call 20; refine (HCN.out _ (by first | exact HG8.out | exact gd HG8.out | exact gd (gd HG8.out) | exact HG7.out | exact gd HG7.out | exact gd (gd HG7.out) | exact HG6.out | exact gd HG6.out | exact gd (gd HG6.out) | exact gd (gd (gd HG6.out)))).mono ?_; rintro en w9 ⟨rfl, rfl⟩)
      | (go_at_call 19; refine (HRM.out _ (by first | exact HG8.out | exact gd HG8.out | exact gd (gd HG8.out) | exact HG6.out | exact gd HG6.out | exact gd (gd HG6.out) | exact gd (gd (gd HG6.out)))).mono ?_; rintro en w7 ⟨rfl, hg7⟩; have HG7 := hid_intro (grown_trans (by first | exact HG8.out | exact gd HG8.out | exact gd (gd HG8.out) | exact HG6.out | exact gd HG6.out | exact gd (gd HG6.out) | exact gd (gd (gd HG6.out))) hg7); clear hg7)
      | (go_at_call 31; refine (HRR.out _ (by first | exact HG7.out | exact gd HG7.out | exact gd (gd HG7.out) | exact HG6.out | exact gd HG6.out | exact gd (gd HG6.out) | exact gd (gd (gd HG6.out)))).mono ?_; rintro en w8 ⟨rfl, hg8⟩; have HG8 := hid_intro (grown_trans (by first | exact HG7.out | exact gd HG7.out | exact gd (gd HG7.out) | exact HG6.out | exact gd HG6.out | exact gd (gd HG6.out) | exact gd (gd (gd HG6.out))) hg8); clear hg8))
  all_goals
    go_wp2
    go_ret
    exact ⟨by first | rfl | simp, HG8.out⟩
end Go.Proofs.Ytpoflmcmlnghhaa
