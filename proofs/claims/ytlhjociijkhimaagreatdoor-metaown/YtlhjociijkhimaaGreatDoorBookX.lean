import Derived.Test.YtlhjociijkhimaaGreatDoorBookR
namespace Go.Proofs.YtlhjociijkhimaaGreatDoor
open Go.RowKit

theorem Gn.tn {I : World → Prop} {w : World} {B : Nat} {ps : Int} {vb vw vg : Value} {r c base : Nat} {L M : List Sl} {tn tn' : Nat → Nat} (h : Gn I w B ps vb vw vg r c base L M tn) (he : ∀ k, k < M.length → tn k = tn' k) : Gn I w B ps vb vw vg r c base L M tn' := by
  refine ⟨h.inv, h.box, h.bc, h.own, h.old, h.rB, fun k m hm => ?_, h.dif, h.lm, h.mm⟩
  obtain ⟨a1, a2, a3, s, a4, a5, a6⟩ := h.each k m hm
  exact ⟨a1, a2, a3, s, a4, by rw [← he k (List.getElem?_eq_some_iff.1 hm).1]; exact a5, a6⟩

set_option maxHeartbeats 4000000 in
set_option maxRecDepth 100000 in
theorem growAll (B : Nat) (ps : Int) (vb vw vg0 : Value) (r c base : Nat) (L : List Sl) (I : World → Prop) (w : World) (h : Gn I w B ps vb vw vg0 r c base L [] (tnAt 0 0)) (hrB : r ≠ B)
    (hbd : ∀ s ∈ L, s.n ≤ 1099511620000)
    (hIg : ∀ w w' row, I w → w.grownBy w' row → (∀ i, row = some i → i = B ∨ base ≤ i) → I w') (hIs : ∀ w s j v, s ∈ L → j < s.c → I w → I (w.setCell ⟨s.g, s.o + j, none⟩ v)) :
    Calls Tryz.prog 24 #[.pointer (some ⟨B, 0, none⟩)] w fun en w' => en = .returned (.tuple #[]) ∧ ∃ vg M, M.length = L.length ∧ Gn I w' B ps vb vw vg r c base L M (tnAt 70 0) := by
  have HBD := hid_intro hbd
  have HIG := hid_intro hIg
  have HIS := hid_intro hIs
  have H0 := hid_intro h
  clear h hbd hIg hIs
  go_enter Tryz.func24, Tryz.ntmps24
  go_wp2
  go_loopw [2] (fun st wr => ∃ t : Nat, t ≤ 70 ∧ st = .int .i64 t ∧ ∃ vg M, (if t = 0 then M = [] else M.length = L.length) ∧ Gn I wr B ps vb vw vg r c base L M (tnAt t 0)) (fun st _ => 70 - (intOf st).toNat)
  case atStart => exact ⟨0, by omega, rfl, vg0, [], by simp, H0.out⟩
  case round =>
    obtain ⟨t, ht, rfl, vg, M, hM, hG⟩ := hrel
    have HG := hid_intro hG
    have HM := hid_intro hM
    have k0 := hG.box.c0
    clear hG hM H0
    by_cases hlt : t < 70
    · go_wp2_with fail
      refine (grow_any B ps vb vw vg r c base L M t I wr HG.out (by omega) HM.out hrB (fun s hs => by have := HBD.out s hs; omega) HIG.out HIS.out).mono ?_
      rintro en w1 ⟨rfl, vg1, M1, hM1, hG1⟩
      have HM1 := hid_intro hM1
      have HG1 := hid_intro hG1
      have HR := hid_intro hG1.box.rest
      clear hM1 hG1 HG HM k0
      go_wp2_with fail
      refine (ints_grow B _ _ _ (HR.out 0 (by omega))).mono ?_
      rintro en w2 ⟨rfl, hw2⟩
      subst hw2
      go_wp2_with fail
      refine (texts_grow B _ _ _ (HR.out 1 (by omega))).mono ?_
      rintro en w2 ⟨rfl, hw2⟩
      subst hw2
      go_wp2_with fail
      refine (byteLists_grow B _ _ _ (HR.out 2 (by omega))).mono ?_
      rintro en w2 ⟨rfl, hw2⟩
      subst hw2
      go_wp2_with fail
      refine (intLists_grow B _ _ _ (HR.out 3 (by omega))).mono ?_
      rintro en w2 ⟨rfl, hw2⟩
      subst hw2
      go_wp2_with fail
      refine (pairs_grow B _ _ _ (HR.out 4 (by omega))).mono ?_
      rintro en w2 ⟨rfl, hw2⟩
      subst hw2
      go_wp2_with fail
      refine (items_grow B _ _ _ (HR.out 5 (by omega))).mono ?_
      rintro en w2 ⟨rfl, hw2⟩
      subst hw2
      go_wp2_with fail
      refine (kids_grow B _ _ _ (HR.out 6 (by omega))).mono ?_
      rintro en w2 ⟨rfl, hw2⟩
      subst hw2
      go_wp2_with fail
      refine (nodes_grow B _ _ _ (HR.out 7 (by omega))).mono ?_
      rintro en w2 ⟨rfl, hw2⟩
      subst hw2
      go_wp2_with fail
      refine (writes_grow B _ _ _ (HR.out 8 (by omega))).mono ?_
      rintro en w2 ⟨rfl, hw2⟩
      subst hw2
      go_wp2_with fail
      refine (changes_grow B _ _ _ (HR.out 9 (by omega))).mono ?_
      rintro en w2 ⟨rfl, hw2⟩
      subst hw2
      go_wp2_with fail
      refine (fates_grow B _ _ _ (HR.out 10 (by omega))).mono ?_
      rintro en w2 ⟨rfl, hw2⟩
      subst hw2
      go_wp2_with fail
      refine (ops_grow B _ _ _ (HR.out 11 (by omega))).mono ?_
      rintro en w2 ⟨rfl, hw2⟩
      subst hw2
      go_wp2
      go_roundw
      case rel =>
        refine ⟨t + 1, by omega, by go_num, vg1, M1, ?_, HG1.out.tn (fun k hk => ?_)⟩
        · rw [if_neg (by omega)]; exact HM1.out
        · have := HM1.out
          unfold tnAt
          rw [if_pos (by omega), if_neg (by omega)]
      case measure => simp [intOf]; omega
    · have ht70 : t = 70 := by omega
      have HT := hid_intro ht70
      clear ht70
      go_wp2
      refine Go.Great.bodyPost_end0 rfl rfl ?_
      have e := HT.out
      refine ⟨rfl, vg, M, ?_, by rw [← e]; exact HG.out⟩
      have := HM.out
      rwa [if_neg (by omega)] at this

theorem row_of_owns {w : World} {base n : Nat} {v : Value} {xs : List Value} (h : w.ownsRow base 41 1 v n xs) : ∃ r c, Row w v r c xs := by
  have hl := h.1
  rw [Nat.mul_one] at hl
  rcases h.2 with ⟨rfl, h0⟩ | ⟨g, cap, cur, rfl, hb, hg, hn, hm, hs, ht⟩
  · refine ⟨0, 0, ⟨none, by rw [hl, h0], fun hp => by omega⟩, fun i x hx => ?_⟩
    have := (List.getElem?_eq_some_iff.1 hx).1
    omega
  · refine ⟨g, cap, ⟨_, by rw [hl], fun _ => rfl⟩, fun i x hx => ?_⟩
    have hi := (List.getElem?_eq_some_iff.1 hx).1
    rw [cell_of_row w g i _ _ (0, 0) hg, ← Array.getElem?_toList]
    rw [← ht, List.getElem?_take] at hx
    split at hx
    · exact hx
    · cases hx

theorem Bc.pass1 {w : World} {B : Nat} {ps : Int} {vb : Value} {r c : Nat} {L : List Sl} (h : Bc w B ps vb r c L) (p : Int) (hr : r ≠ B) : Bc (w.setCell ⟨B, 1, none⟩ (.int .i64 p)) B p vb r c L := by
  refine ⟨World.cell?_setCell_same _ _ _ h.pass, ?_, h.row.set _ _ (by simpa using (Ne.symm hr)), fun t ht => ?_, h.apart, h.many⟩
  · rw [World.cell?_setCell_other _ _ _ _ (ne_off (by omega))]; exact h.lists
  · obtain ⟨a1, a2, a3, a4⟩ := h.ok t ht
    exact ⟨a1, a2.set _ _, a3, a4⟩
end Go.Proofs.YtlhjociijkhimaaGreatDoor
