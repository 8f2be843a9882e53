import Derived.Test.YtioleabkbkmggaaDoorDuS
namespace Go.Proofs.YtioleabkbkmggaaDoor
open Go.RowKit

/-- What a line says, but for the order. -/
def pq (line : List UInt8) : Rs Pq :=
  match cutC 32 line with
  | none => .error 200
  | some (l, r) => if l = [] ∨ r = [] ∨ 32 ∈ r then .error 200 else
    match uh l with
    | none => .error 201
    | some k => if k.length < 1 ∨ 255 < k.length then .error 41 else
      match uh r with
      | none => .error 201
      | some v => if 262144 < v.length then .error 41 else .ok (k, v)
theorem pp_pq (a : List Int) (line : List UInt8) : pp a line = match pq line with | .error e => .error e | .ok p => if cmpZ p.1 a ≤ 0 then .error 30 else .ok p := by
  unfold pp pq
  cases cutC 32 line with
  | none => rfl
  | some q =>
    obtain ⟨l, r⟩ := q
    simp only
    by_cases hc : l = [] ∨ r = [] ∨ 32 ∈ r
    · rw [if_pos hc, if_pos hc]
    · rw [if_neg hc, if_neg hc]
      cases uh l with
      | none => rfl
      | some k =>
        simp only
        by_cases h1 : k.length < 1 ∨ 255 < k.length
        · rw [if_pos h1, if_pos h1]
        · rw [if_neg h1, if_neg h1]
          cases uh r with
          | none => rfl
          | some v =>
            simp only
            by_cases h2 : 262144 < v.length
            · rw [if_pos h2, if_pos h2]
            · rw [if_neg h2, if_neg h2]
theorem pq_ok {line : List UInt8} {k v : List Int} (h : pq line = .ok (k, v)) : 1 ≤ k.length := by
  unfold pq at h
  split at h
  · cases h
  · split at h
    · cases h
    · split at h
      · cases h
      · split at h
        · cases h
        · split at h
          · cases h
          · split at h
            · cases h
            · simp only [Except.ok.injEq, Prod.mk.injEq] at h
              obtain ⟨rfl, rfl⟩ := h
              omega
theorem uh_bt {t : List UInt8} {b : List Int} (h : uh t = some b) : Bt b := (hx_uh h).2
theorem own_blkD {w : World} {G e sz n : Nat} {v : Value} {xs : List Value} (h : w.ownsRow (G + 1) e sz v n xs) : v.ownBlock = none ∨ v.ownBlock ≠ some G := by
  cases hb : v.ownBlock with
  | none => exact .inl rfl
  | some b => exact .inr (by simp only [ne_eq, Option.some.injEq]; have := (h.lt b hb).1; omega)
set_option maxHeartbeats 8000000 in
set_option maxRecDepth 100000 in
theorem refLine20 (line : List UInt8) (w : World) (ht : line.length ≤ 2000000000) : Calls Tryd.prog 52 #[.string (tstr line)] w fun en w' => PpP w (pq line) en w' := by
  have hts := tstr_size line
  have HSP := hid_intro (fun W => refSpace20 (tstr line) W (by omega))
  rw [tstr_data] at HSP
  have g1 := World.grownBy_alloc w (.cells #[.slice none 0 0, .slice none 0 0] 44) none
  have x1 : (w.alloc (.cells #[.slice none 0 0, .slice none 0 0] 44)).heap[w.heap.size]? = some (.cells #[.slice none 0 0, .slice none 0 0] 44 (0, 0)) := heap_alloc_new w _
  have hsz : w.heap.size < (w.alloc (.cells #[.slice none 0 0, .slice none 0 0] 44)).heap.size := by simp
  have d0 : (w.alloc (.cells #[.slice none 0 0, .slice none 0 0] 44)).cell? ⟨w.heap.size, 0, none⟩ = some (.slice none 0 0) := by rw [Lib.cell_of_heap x1]; rfl
  have d1 : (w.alloc (.cells #[.slice none 0 0, .slice none 0 0] 44)).cell? ⟨w.heap.size, 1, none⟩ = some (.slice none 0 0) := by rw [Lib.cell_of_heap x1]; rfl
  have f0 : (w.alloc (.cells #[.slice none 0 0, .slice none 0 0] 44)).frozen? ⟨w.heap.size, 0, none⟩ = false := Lib.frozen_of_heap x1 0
  have f1 : (w.alloc (.cells #[.slice none 0 0, .slice none 0 0] 44)).frozen? ⟨w.heap.size, 1, none⟩ = false := Lib.frozen_of_heap x1 1
  have X1 := hid_intro x1
  have G1 := hid_intro g1
  clear x1 g1
  by_cases hbad : spc line < 1 ∨ spc line = (line.length : Int) - 1
  · have HR : Hid (pq line = .error 200) := by
      show _ = _
      unfold pq spc at *
      cases hc : cutC 32 line with
      | none => rfl
      | some q =>
        obtain ⟨a, b⟩ := q
        rw [hc] at hbad
        simp only at hbad ⊢
        have hl := congrArg List.length (cutC_some hc).1
        simp at hl
        by_cases h32 : 32 ∈ b
        · rw [if_pos (.inr (.inr h32))]
        · rw [if_neg h32] at hbad
          rw [if_pos]
          rcases hbad with h | h
          · exact .inl (List.length_eq_zero_iff.1 (by omega))
          · exact .inr (.inl (List.length_eq_zero_iff.1 (by omega)))
    rw [← hts] at hbad
    have hsl : (tstr line).size ≤ 2000000000 := by omega
    clear hts ht
    generalize pq line = R at *
    generalize spc line = z at *
    generalize tstr line = s at *
    go_enter Tryd.func52, Tryd.ntmps52
    go_upto_region 1 with fail
    generalize w.alloc (.cells #[.slice none 0 0, .slice none 0 0] 44) = w1 at *
    generalize hGb : w.heap.size = G at *
    have HGb := hid_intro hGb
    clear hGb
    go_wp2_with fail
    refine (HSP.out _).mono ?_
    rintro en w2 ⟨rfl, hw2⟩
    subst hw2
    by_cases hz1 : z < 1
    · go_wp2
      obtain ⟨y1, y2⟩ := pair_putD X1.out (.slice none 0 0) (.slice none 0 0)
      refine bodyPost_ret (results_pairD rfl _ _ G _ _ rfl y1) rfl ?_
      exact ⟨grown_boxD G1.out y2 (by have := HGb.out; omega), .inl ⟨200, HR.out, by decide, rfl⟩⟩
    · have hz2 : z = (s.size : Int) - 1 := by omega
      have hw : IntKind.i64.wrap ((s.size : Int) - 1) = (s.size : Int) - 1 := wrap_small _ (by omega) (by omega)
      have hz3 : (z == (s.size : Int) - 1) = true := by rw [hz2]; simp
      clear hz2 hbad
      go_wp2
      obtain ⟨y1, y2⟩ := pair_putD X1.out (.slice none 0 0) (.slice none 0 0)
      refine bodyPost_ret (results_pairD rfl _ _ G _ _ rfl y1) rfl ?_
      exact ⟨grown_boxD G1.out y2 (by have := HGb.out; omega), .inl ⟨200, HR.out, by decide, rfl⟩⟩
  · obtain ⟨a, b, hcut, hsp, hla, hlb, h32, hal⟩ : ∃ a b, cutC 32 line = some (a, b) ∧ spc line = (a.length : Int) ∧ 1 ≤ a.length ∧ 1 ≤ b.length ∧ 32 ∉ b ∧ line.length = a.length + b.length + 1 := by
      unfold spc at *
      cases hc : cutC 32 line with
      | none => rw [hc] at hbad; simp at hbad
      | some q =>
        obtain ⟨a, b⟩ := q
        rw [hc] at hbad
        simp only at hbad ⊢
        have hl := congrArg List.length (cutC_some hc).1
        simp at hl
        by_cases h32 : 32 ∈ b
        · rw [if_pos h32] at hbad; simp at hbad
        · rw [if_neg h32] at hbad
          exact ⟨a, b, rfl, by rw [if_neg h32], by omega, by omega, h32, by omega⟩
    have HE : Hid (pq line = match uh a with | none => .error 201 | some k => if k.length < 1 ∨ 255 < k.length then .error 41 else match uh b with | none => .error 201 | some v => if 262144 < v.length then .error 41 else .ok (k, v)) := by
      show _ = _
      unfold pq
      rw [hcut]
      simp only
      rw [if_neg]
      · rintro (h | h | h)
        · rw [h] at hla; simp at hla
        · rw [h] at hlb; simp at hlb
        · exact h32 h
    have hline := (cutC_some hcut).1
    have e1 : (tstr line).extract 0 a.length = tstr a := by rw [ext_take, hline, List.take_left' rfl]
    have e2 : (tstr line).extract (a.length + 1) (tstr line).size = tstr b := by
      rw [ext_drop, hline, List.drop_append, List.drop_of_length_le (by omega)]
      simp
    have HUA := hid_intro (fun W => refUnhex_any (tstr a) W (by rw [tstr_size]; omega))
    have HUB := hid_intro (fun W => refUnhex_any (tstr b) W (by rw [tstr_size]; omega))
    rw [tstr_data] at HUA HUB
    unfold UhP at HUA HUB
    rw [hsp] at HSP
    clear hbad hsp hcut h32 hline
    generalize pq line = R at *
    have k1 : ¬ ((a.length : Int) < 1) := by omega
    have hw : IntKind.i64.wrap (((tstr line).size : Int) - 1) = ((tstr line).size : Int) - 1 := wrap_small _ (by omega) (by omega)
    have k2 : ((a.length : Int) == ((tstr line).size : Int) - 1) = false := by rw [beq_eq_false_iff_ne]; omega
    have k3 : (a.length : Int) ≤ ((tstr line).size : Int) := by omega
    have k4 : (0 : Int) ≤ (a.length : Int) := by omega
    have k5 : (a.length : Int) + 1 ≤ ((tstr line).size : Int) := by omega
    have k6 : (0 : Int) ≤ (a.length : Int) + 1 := by omega
    have k7 : IntKind.i64.wrap ((a.length : Int) + 1) = (a.length : Int) + 1 := wrap_small _ (by omega) (by omega)
    have k8 : ((a.length : Int) + 1).toNat = a.length + 1 := by omega
    have HBL : Hid (2 * b.length + 2 * a.length ≤ 4000000000) := by show _ ≤ _; omega
    have HLA : Hid (∀ k, uh a = some k → 2 * k.length ≤ a.length) := fun k h => uh_len h
    have HLB : Hid (∀ k, uh b = some k → 2 * k.length ≤ b.length) := fun k h => uh_len h
    have HTA : Hid (∀ k, uh a = some k → Bt k) := fun k h => uh_bt h
    have HTB : Hid (∀ k, uh b = some k → Bt k) := fun k h => uh_bt h
    clear hts hal hla hlb ht
    generalize tstr a = sa at *
    generalize tstr b = sb at *
    generalize tstr line = s at *
    generalize a.length = na at *
    generalize uh a = ua at *
    generalize uh b = ub at *
    generalize b.length = nb' at *
    go_enter Tryd.func52, Tryd.ntmps52
    go_upto_region 1 with fail
    generalize w.alloc (.cells #[.slice none 0 0, .slice none 0 0] 44) = w1 at *
    generalize hGb : w.heap.size = G at *
    have HGb := hid_intro hGb
    clear hGb
    go_wp2_with fail
    refine (HSP.out _).mono ?_
    rintro en w2 ⟨rfl, hw2⟩
    subst hw2
    clear d0 d1 f0 f1 HSP
    go_wp2_with fail
    refine (HUA.out _).mono ?_
    rintro en w3 ⟨hg3, ⟨hu, rfl⟩ | ⟨k, ao, c, hu, rfl, ho⟩⟩
    · have X3 : Hid (w3.heap[G]? = some (.cells #[.slice none 0 0, .slice none 0 0] 44 (0, 0))) := (hg3.block G hsz (by simp)).trans X1.out
      have G3 := hid_intro (grown_trans G1.out hg3)
      have HR : Hid (R = .error 201) := by show _ = _; rw [HE.out, hu]
      clear hg3 hu
      have d0 : w3.cell? ⟨G, 0, none⟩ = some (.slice none 0 0) := by rw [Lib.cell_of_heap X3.out]; rfl
      have d1 : w3.cell? ⟨G, 1, none⟩ = some (.slice none 0 0) := by rw [Lib.cell_of_heap X3.out]; rfl
      have f0 : w3.frozen? ⟨G, 0, none⟩ = false := Lib.frozen_of_heap X3.out 0
      have f1 : w3.frozen? ⟨G, 1, none⟩ = false := Lib.frozen_of_heap X3.out 1
      go_wp2
      obtain ⟨y1, y2⟩ := pair_putD X3.out (.slice none 0 0) (.slice none 0 0)
      refine bodyPost_ret (results_pairD rfl _ _ G _ _ rfl y1) rfl ?_
      exact ⟨grown_boxD G3.out y2 (by have := HGb.out; omega), .inl ⟨201, HR.out, by decide, rfl⟩⟩
    · have X3 : Hid (w3.heap[G]? = some (.cells #[.slice none 0 0, .slice none 0 0] 44 (0, 0))) := (hg3.block G hsz (by simp)).trans X1.out
      have G3 := hid_intro (grown_trans G1.out hg3)
      have BK := hid_intro (HTA.out k hu)
      have hkl := HLA.out k hu
      have O3 := hid_intro (own_low ho (show G + 1 ≤ w2.heap.size by omega))
      have hsz3 : G < w3.heap.size := by have := hg3.size; omega
      rw [hu] at HE
      simp only at HE
      obtain ⟨nk, hnk⟩ : ∃ nk, k.length = nk := ⟨_, rfl⟩
      have HNK := hid_intro hnk
      rw [hnk] at hkl O3 HE ⊢
      clear hg3 hu ho hnk
      by_cases h1 : nk < 1 ∨ 255 < nk
      · have HR : Hid (R = .error 41) := by show _ = _; rw [HE.out, if_pos h1]
        by_cases h2 : nk < 1
        · have m1 : (nk : Int) < 1 := by omega
          have d0 : w3.cell? ⟨G, 0, none⟩ = some (.slice none 0 0) := by rw [Lib.cell_of_heap X3.out]; rfl
          have d1 : w3.cell? ⟨G, 1, none⟩ = some (.slice none 0 0) := by rw [Lib.cell_of_heap X3.out]; rfl
          have f0 : w3.frozen? ⟨G, 0, none⟩ = false := Lib.frozen_of_heap X3.out 0
          have f1 : w3.frozen? ⟨G, 1, none⟩ = false := Lib.frozen_of_heap X3.out 1
          go_wp2
          obtain ⟨y1, y2⟩ := pair_putD X3.out (.slice none 0 0) (.slice none 0 0)
          refine bodyPost_ret (results_pairD rfl _ _ G _ _ rfl y1) rfl ?_
          exact ⟨grown_boxD G3.out y2 (by have := HGb.out; omega), .inl ⟨41, HR.out, by decide, rfl⟩⟩
        · have m1 : ¬ (nk : Int) < 1 := by omega
          have m2 : (255 : Int) < (nk : Int) := by omega
          have d0 : w3.cell? ⟨G, 0, none⟩ = some (.slice none 0 0) := by rw [Lib.cell_of_heap X3.out]; rfl
          have d1 : w3.cell? ⟨G, 1, none⟩ = some (.slice none 0 0) := by rw [Lib.cell_of_heap X3.out]; rfl
          have f0 : w3.frozen? ⟨G, 0, none⟩ = false := Lib.frozen_of_heap X3.out 0
          have f1 : w3.frozen? ⟨G, 1, none⟩ = false := Lib.frozen_of_heap X3.out 1
          go_wp2
          obtain ⟨y1, y2⟩ := pair_putD X3.out (.slice none 0 0) (.slice none 0 0)
          refine bodyPost_ret (results_pairD rfl _ _ G _ _ rfl y1) rfl ?_
          exact ⟨grown_boxD G3.out y2 (by have := HGb.out; omega), .inl ⟨41, HR.out, by decide, rfl⟩⟩
      · rw [if_neg h1] at HE
        have m1 : ¬ (nk : Int) < 1 := by omega
        have m2 : ¬ (255 : Int) < (nk : Int) := by omega
        go_wp2_with fail
        refine (HUB.out _).mono ?_
        rintro en w4 ⟨hg4, ⟨hu, rfl⟩ | ⟨v, bo, d, hu, rfl, ho⟩⟩
        · have X4 : Hid (w4.heap[G]? = some (.cells #[.slice none 0 0, .slice none 0 0] 44 (0, 0))) := (hg4.block G hsz3 (by simp)).trans X3.out
          have G4 := hid_intro (grown_trans G3.out hg4)
          have HR : Hid (R = .error 201) := by show _ = _; rw [HE.out, hu]
          clear hg4 hu
          have d0 : w4.cell? ⟨G, 0, none⟩ = some (.slice none 0 0) := by rw [Lib.cell_of_heap X4.out]; rfl
          have d1 : w4.cell? ⟨G, 1, none⟩ = some (.slice none 0 0) := by rw [Lib.cell_of_heap X4.out]; rfl
          have f0 : w4.frozen? ⟨G, 0, none⟩ = false := Lib.frozen_of_heap X4.out 0
          have f1 : w4.frozen? ⟨G, 1, none⟩ = false := Lib.frozen_of_heap X4.out 1
          go_wp2
          obtain ⟨y1, y2⟩ := pair_putD X4.out (.slice none 0 0) (.slice none 0 0)
          refine bodyPost_ret (results_pairD rfl _ _ G _ _ rfl y1) rfl ?_
          exact ⟨grown_boxD G4.out y2 (by have := HGb.out; omega), .inl ⟨201, HR.out, by decide, rfl⟩⟩
        · have X4 : Hid (w4.heap[G]? = some (.cells #[.slice none 0 0, .slice none 0 0] 44 (0, 0))) := (hg4.block G hsz3 (by simp)).trans X3.out
          have G4 := hid_intro (grown_trans G3.out hg4)
          have BV := hid_intro (HTB.out v hu)
          have hvl := HLB.out v hu
          have O4 := hid_intro (own_keptD O3.out hg4)
          have V4 := hid_intro (own_low ho (show G + 1 ≤ w3.heap.size by omega))
          rw [hu] at HE
          simp only at HE
          obtain ⟨nv, hnv⟩ : ∃ nv, v.length = nv := ⟨_, rfl⟩
          have HNV := hid_intro hnv
          rw [hnv] at hvl V4 HE ⊢
          clear hg4 hu ho hnv
          have d0 : w4.cell? ⟨G, 0, none⟩ = some (.slice none 0 0) := by rw [Lib.cell_of_heap X4.out]; rfl
          have d1 : w4.cell? ⟨G, 1, none⟩ = some (.slice none 0 0) := by rw [Lib.cell_of_heap X4.out]; rfl
          have f0 : w4.frozen? ⟨G, 0, none⟩ = false := Lib.frozen_of_heap X4.out 0
          have f1 : w4.frozen? ⟨G, 1, none⟩ = false := Lib.frozen_of_heap X4.out 1
          by_cases h3 : 262144 < nv
          · have HR : Hid (R = .error 41) := by show _ = _; rw [HE.out, if_pos h3]
            have m3 : (262144 : Int) < (nv : Int) := by omega
            go_wp2
            obtain ⟨y1, y2⟩ := pair_putD X4.out (.slice none 0 0) (.slice none 0 0)
            refine bodyPost_ret (results_pairD rfl _ _ G _ _ rfl y1) rfl ?_
            exact ⟨grown_boxD G4.out y2 (by have := HGb.out; omega), .inl ⟨41, HR.out, by decide, rfl⟩⟩
          · have HR : Hid (R = .ok (k, v)) := by show _ = _; rw [HE.out, if_neg h3]
            have m3 : ¬ (262144 : Int) < (nv : Int) := by omega
            go_wp2
            obtain ⟨y1, y2⟩ := pair_putD X4.out (.slice ao nk c) (.slice bo nv d)
            refine bodyPost_ret (results_pairD rfl _ _ G _ _ rfl y1) rfl ?_
            have o1 := (own_low O4.out (Nat.le_refl _)).kept y2 (own_blkD O4.out)
            have o2 := V4.out.kept y2 (own_blkD V4.out)
            exact ⟨grown_boxD G4.out y2 (by have := HGb.out; omega), .inr ⟨k, v, ao, c, bo, d, HR.out, by rw [HNK.out, HNV.out]; rfl, BK.out, BV.out, by rw [HNK.out, HGb.out]; exact own_low o1 (by omega), by rw [HNV.out, HGb.out]; exact own_low o2 (by omega)⟩⟩
end Go.Proofs.YtioleabkbkmggaaDoor
