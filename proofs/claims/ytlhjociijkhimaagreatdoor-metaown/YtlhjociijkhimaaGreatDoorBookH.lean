import Derived.Test.YtlhjociijkhimaaGreatDoorBookW
namespace Go.Proofs.YtlhjociijkhimaaGreatDoor
open Go.RowKit

/-- A grown list, where there is one, shows its marks too. -/
structure Gc (w : World) (B : Nat) (ps : Int) (vg : Value) (r c : Nat) (M : List Sl) (id0 : Nat) : Prop where
  lists : w.cell? ⟨B, 4, none⟩ = some vg
  row : Row w vg r c (M.map Sl.v)
  ok : ∀ s ∈ M, s.Ok
  marks : ∀ (k : Nat) (s : Sl), M[k]? = some s → s.Shows w (mark ps (id0 + k + 1))

set_option maxHeartbeats 2000000 in
set_option maxRecDepth 100000 in
theorem hold_any (B : Nat) (ps : Int) (vb vg : Value) (r c r2 c2 : Nat) (L M : List Sl) (id0 : Nat) (w : World) (hid : id0 ≤ 1000000) (h : Bc w B ps vb r c L) (hg : Gc w B ps vg r2 c2 M id0)
    (hml : M.length = L.length ∨ M.length = 0) (hs : ∀ (k : Nat) (s : Sl), L[k]? = some s → s.Shows w (mark ps (id0 + k + 1))) :
    Calls Tryz.prog 62 #[.pointer (some ⟨B, 0, none⟩), .int .i64 id0] w fun en w' => en = .returned (.tuple #[.int .i64 ((id0 + L.length : Nat) : Int), .bool true]) ∧ w' = w := by
  have hmany := h.many
  obtain ⟨vo, hvb, hvo⟩ := h.row.val
  rw [List.length_map] at hvb hvo
  obtain ⟨go, hvg, hgo⟩ := hg.row.val
  rw [List.length_map] at hvg hgo
  have HVO := hid_intro hvo
  have HGO := hid_intro hgo
  have HB := hid_intro h
  have HG := hid_intro hg
  have HS := hid_intro hs
  have cl := h.lists
  have cg := hg.lists
  clear h hg hs hvo hgo
  subst hvb hvg
  go_enter Tryz.func62, Tryz.ntmps62
  go_wp2
  go_loopw [1, 6, 7] (fun sid sa si wr => ∃ i : Nat, i ≤ L.length ∧ si = .int .i64 i ∧ sa = .bool true ∧ sid = .int .i64 ((id0 + i : Nat) : Int) ∧ wr = w) (fun _ _ si _ => L.length - (intOf si).toNat)
  case atStart => exact ⟨0, Nat.zero_le _, rfl, rfl, rfl, rfl⟩
  case round =>
    obtain ⟨i, hi, rfl, rfl, rfl, rfl⟩ := hrel
    by_cases hlt : i < L.length
    · obtain ⟨s, hs⟩ : ∃ s, L[i]? = some s := ⟨L[i], List.getElem?_eq_getElem hlt⟩
      have HSI := hid_intro hs
      obtain rfl := HVO.out (by omega)
      obtain ⟨ao, hsv, hao⟩ := (HB.out.ok s (List.mem_of_getElem? hs)).1.val
      have cr : wr.cell? ⟨r, i, none⟩ = some (.slice ao s.n s.c) := by
        rw [← hsv]; exact HB.out.row.cells i _ (by rw [List.getElem?_map, hs]; rfl)
      have HSV := hid_intro hsv
      clear hs hao hsv
      go_wp2_with fail
      refine (show_at B ps (id0 + i + 1) _ s _ _ HB.out.pass (by omega) (HB.out.ok s (List.mem_of_getElem? HSI.out)).1 (HS.out i s HSI.out) (by omega) HSV.out.symm).mono ?_
      rintro en w1 ⟨rfl, rfl⟩
      rcases hml with hml | hml
      · obtain ⟨t, ht⟩ : ∃ t, M[i]? = some t := ⟨M[i]'(by omega), List.getElem?_eq_getElem (by omega)⟩
        obtain rfl := HGO.out (by omega)
        obtain ⟨ao2, htv, hao2⟩ := (HG.out.ok t (List.mem_of_getElem? ht)).val
        have cr2 : w1.cell? ⟨r2, i, none⟩ = some (.slice ao2 t.n t.c) := by
          rw [← htv]; exact HG.out.row.cells i _ (by rw [List.getElem?_map, ht]; rfl)
        have HTI := hid_intro ht
        have HTV := hid_intro htv
        have hd : decide ((i : Int) < (M.length : Int)) = true := by simp; omega
        clear ht htv hao2
        go_wp2_with fail
        refine (show_at B ps (id0 + i + 1) _ t _ _ HB.out.pass (by omega) (HG.out.ok t (List.mem_of_getElem? HTI.out)) (HG.out.marks i t HTI.out) (by omega) HTV.out.symm).mono ?_
        rintro en w2 ⟨rfl, rfl⟩
        go_wp2
        go_roundw
        case rel => exact ⟨i + 1, by omega, by go_num, rfl, by go_num, trivial⟩
        case measure => simp [intOf]; omega
      · have hd : decide ((i : Int) < (M.length : Int)) = false := by simp; omega
        go_wp2
        go_roundw
        case rel => exact ⟨i + 1, by omega, by go_num, rfl, by go_num, trivial⟩
        case measure => simp [intOf]; omega
    · have hin : i = L.length := by omega
      subst hin
      go_wp2
      go_ret2
      exact ⟨rfl, rfl⟩
end Go.Proofs.YtlhjociijkhimaaGreatDoor
