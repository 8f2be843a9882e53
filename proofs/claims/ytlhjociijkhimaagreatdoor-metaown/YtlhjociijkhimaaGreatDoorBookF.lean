import Derived.Test.YtlhjociijkhimaaGreatDoorBookK
import Derived.Test.YtlhjociijkhimaaGreatDoorBookH
namespace Go.Proofs.YtlhjociijkhimaaGreatDoor
open Go.RowKit

theorem Box.qt {w w' : World} {B : Nat} {ba ps : Int} {vb vw vg : Value} (h : Box w B ba ps vb vw vg) (hq : Qt w w') : Box w' B ba ps vb vw vg := h.kept (hq.grown none) (by simp)

set_option maxHeartbeats 2000000 in
set_option maxRecDepth 100000 in
theorem untouchedAll (B : Nat) (ba ps : Int) (vb vw vg : Value) (r c r2 c2 : Nat) (xs ys : List Value) (w : World) (h : Box w B ba ps vb vw vg) (hb : Row w vb r c xs) (hw : Row w vw r2 c2 ys) (hl : xs.length = ys.length) (hm : xs.length ≤ 1000000)
    (hs : ∀ (k : Nat) (x y : Value), xs[k]? = some x → ys[k]? = some y → ∃ ao n ca bo cb zs, x = .slice ao n ca ∧ y = .slice bo n cb ∧ Byt w ao n ca zs ∧ Byt w bo n cb zs) :
    Calls Tryz.prog 21 #[.pointer (some ⟨B, 0, none⟩)] w fun en w' => en = .returned (.bool true) ∧ Qt w w' := by
  have HX := hid_intro h
  have HB := hid_intro hb
  have HW := hid_intro hw
  have HS := hid_intro hs
  clear h hb hw hs
  go_enter Tryz.func21, Tryz.ntmps21
  go_wp2_with fail
  refine (untouched_any B vb vw r c r2 c2 xs ys _ HX.out.c2 HX.out.c3 HB.out HW.out hl hm HS.out).mono ?_
  rintro en w1 ⟨rfl, hq⟩
  have HQ := hid_intro hq
  have HR := hid_intro (HX.out.qt hq).rest
  clear hq
  go_wp2_with fail
  refine (ints_untouched B _ (HR.out 0 (by omega))).mono ?_
  rintro en w2 ⟨rfl, hw2⟩
  subst hw2
  go_wp2_with fail
  refine (texts_untouched B _ (HR.out 1 (by omega))).mono ?_
  rintro en w2 ⟨rfl, hw2⟩
  subst hw2
  go_wp2_with fail
  refine (byteLists_untouched B _ (HR.out 2 (by omega))).mono ?_
  rintro en w2 ⟨rfl, hw2⟩
  subst hw2
  go_wp2_with fail
  refine (intLists_untouched B _ (HR.out 3 (by omega))).mono ?_
  rintro en w2 ⟨rfl, hw2⟩
  subst hw2
  go_wp2_with fail
  refine (pairs_untouched B _ (HR.out 4 (by omega))).mono ?_
  rintro en w2 ⟨rfl, hw2⟩
  subst hw2
  go_wp2_with fail
  refine (items_untouched B _ (HR.out 5 (by omega))).mono ?_
  rintro en w2 ⟨rfl, hw2⟩
  subst hw2
  go_wp2_with fail
  refine (kids_untouched B _ (HR.out 6 (by omega))).mono ?_
  rintro en w2 ⟨rfl, hw2⟩
  subst hw2
  go_wp2_with fail
  refine (nodes_untouched B _ (HR.out 7 (by omega))).mono ?_
  rintro en w2 ⟨rfl, hw2⟩
  subst hw2
  go_wp2_with fail
  refine (writes_untouched B _ (HR.out 8 (by omega))).mono ?_
  rintro en w2 ⟨rfl, hw2⟩
  subst hw2
  go_wp2_with fail
  refine (changes_untouched B _ (HR.out 9 (by omega))).mono ?_
  rintro en w2 ⟨rfl, hw2⟩
  subst hw2
  go_wp2_with fail
  refine (fates_untouched B _ (HR.out 10 (by omega))).mono ?_
  rintro en w2 ⟨rfl, hw2⟩
  subst hw2
  go_wp2_with fail
  refine (ops_untouched B _ (HR.out 11 (by omega))).mono ?_
  rintro en w2 ⟨rfl, hw2⟩
  subst hw2
  go_wp2
  go_ret
  exact ⟨rfl, HQ.out⟩

set_option maxHeartbeats 2000000 in
set_option maxRecDepth 100000 in
theorem writeAll (B : Nat) (ps : Int) (vb vw vg : Value) (r c : Nat) (L : List Sl) (w : World) (I : World → Prop) (h : Bc w B ps vb r c L) (hI : I w) (hbox : ∀ w, I w → Box w B 0 ps vb vw vg)
    (hIs : ∀ w s j v, s ∈ L → j < s.n → I w → I (w.setCell ⟨s.g, s.o + j, none⟩ v)) (hIq : ∀ w w', Qt w w' → I w → I w') :
    Calls Tryz.prog 22 #[.pointer (some ⟨B, 0, none⟩)] w fun en w' => en = .returned (.tuple #[]) ∧ Wn I w' B ps vb r c L 0 L.length 0 := by
  have k0 := (hbox w hI).c0
  have HB := hid_intro h
  have H1 := hid_intro hI
  have H2 := hid_intro hIs
  have H3 := hid_intro hIq
  have H4 := hid_intro hbox
  clear h hI hIs hIq hbox
  go_enter Tryz.func22, Tryz.ntmps22
  go_wp2_with fail
  refine (write_any B ps vb r c L 0 I _ (by omega) HB.out H1.out H2.out H3.out).mono ?_
  rintro en w1 ⟨rfl, hw⟩
  have HW := hid_intro hw
  have HR := hid_intro (H4.out w1 hw.inv).rest
  clear hw k0
  go_wp2_with fail
  refine (ints_write B _ _ (HR.out 0 (by omega))).mono ?_
  rintro en w2 ⟨rfl, hw2⟩
  subst hw2
  go_wp2_with fail
  refine (texts_write B _ _ (HR.out 1 (by omega))).mono ?_
  rintro en w2 ⟨rfl, hw2⟩
  subst hw2
  go_wp2_with fail
  refine (byteLists_write B _ _ (HR.out 2 (by omega))).mono ?_
  rintro en w2 ⟨rfl, hw2⟩
  subst hw2
  go_wp2_with fail
  refine (intLists_write B _ _ (HR.out 3 (by omega))).mono ?_
  rintro en w2 ⟨rfl, hw2⟩
  subst hw2
  go_wp2_with fail
  refine (pairs_write B _ _ (HR.out 4 (by omega))).mono ?_
  rintro en w2 ⟨rfl, hw2⟩
  subst hw2
  go_wp2_with fail
  refine (items_write B _ _ (HR.out 5 (by omega))).mono ?_
  rintro en w2 ⟨rfl, hw2⟩
  subst hw2
  go_wp2_with fail
  refine (kids_write B _ _ (HR.out 6 (by omega))).mono ?_
  rintro en w2 ⟨rfl, hw2⟩
  subst hw2
  go_wp2_with fail
  refine (nodes_write B _ _ (HR.out 7 (by omega))).mono ?_
  rintro en w2 ⟨rfl, hw2⟩
  subst hw2
  go_wp2_with fail
  refine (writes_write B _ _ (HR.out 8 (by omega))).mono ?_
  rintro en w2 ⟨rfl, hw2⟩
  subst hw2
  go_wp2_with fail
  refine (changes_write B _ _ (HR.out 9 (by omega))).mono ?_
  rintro en w2 ⟨rfl, hw2⟩
  subst hw2
  go_wp2_with fail
  refine (fates_write B _ _ (HR.out 10 (by omega))).mono ?_
  rintro en w2 ⟨rfl, hw2⟩
  subst hw2
  go_wp2_with fail
  refine (ops_write B _ _ (HR.out 11 (by omega))).mono ?_
  rintro en w2 ⟨rfl, hw2⟩
  subst hw2
  go_wp2
  refine Go.Great.bodyPost_end0 rfl rfl ?_
  exact ⟨rfl, HW.out⟩

set_option maxHeartbeats 2000000 in
set_option maxRecDepth 100000 in
theorem holdsAll (B : Nat) (ps : Int) (vb vw vg : Value) (r c r2 c2 : Nat) (L M : List Sl) (w : World) (hx : Box w B 0 ps vb vw vg) (h : Bc w B ps vb r c L) (hg : Gc w B ps vg r2 c2 M 0)
    (hml : M.length = L.length ∨ M.length = 0) (hs : ∀ (k : Nat) (s : Sl), L[k]? = some s → s.Shows w (mark ps (0 + k + 1))) :
    Calls Tryz.prog 23 #[.pointer (some ⟨B, 0, none⟩)] w fun en w' => en = .returned (.bool true) ∧ w' = w := by
  have k0 := hx.c0
  have HR := hid_intro hx.rest
  have HB := hid_intro h
  have HG := hid_intro hg
  have HS := hid_intro hs
  have HM := hid_intro hml
  clear h hg hs hml hx
  go_enter Tryz.func23, Tryz.ntmps23
  go_wp2_with fail
  refine (hold_any B ps vb vg r c r2 c2 L M 0 _ (by omega) HB.out HG.out HM.out HS.out).mono ?_
  rintro en w1 ⟨rfl, hw1⟩
  subst hw1
  go_wp2_with fail
  refine (ints_hold B _ _ (HR.out 0 (by omega))).mono ?_
  rintro en w2 ⟨rfl, hw2⟩
  subst hw2
  go_wp2_with fail
  refine (texts_hold B _ _ (HR.out 1 (by omega))).mono ?_
  rintro en w2 ⟨rfl, hw2⟩
  subst hw2
  go_wp2_with fail
  refine (byteLists_hold B _ _ (HR.out 2 (by omega))).mono ?_
  rintro en w2 ⟨rfl, hw2⟩
  subst hw2
  go_wp2_with fail
  refine (intLists_hold B _ _ (HR.out 3 (by omega))).mono ?_
  rintro en w2 ⟨rfl, hw2⟩
  subst hw2
  go_wp2_with fail
  refine (pairs_hold B _ _ (HR.out 4 (by omega))).mono ?_
  rintro en w2 ⟨rfl, hw2⟩
  subst hw2
  go_wp2_with fail
  refine (items_hold B _ _ (HR.out 5 (by omega))).mono ?_
  rintro en w2 ⟨rfl, hw2⟩
  subst hw2
  go_wp2_with fail
  refine (kids_hold B _ _ (HR.out 6 (by omega))).mono ?_
  rintro en w2 ⟨rfl, hw2⟩
  subst hw2
  go_wp2_with fail
  refine (nodes_hold B _ _ (HR.out 7 (by omega))).mono ?_
  rintro en w2 ⟨rfl, hw2⟩
  subst hw2
  go_wp2_with fail
  refine (writes_hold B _ _ (HR.out 8 (by omega))).mono ?_
  rintro en w2 ⟨rfl, hw2⟩
  subst hw2
  go_wp2_with fail
  refine (changes_hold B _ _ (HR.out 9 (by omega))).mono ?_
  rintro en w2 ⟨rfl, hw2⟩
  subst hw2
  go_wp2_with fail
  refine (fates_hold B _ _ (HR.out 10 (by omega))).mono ?_
  rintro en w2 ⟨rfl, hw2⟩
  subst hw2
  go_wp2_with fail
  refine (ops_hold B _ _ (HR.out 11 (by omega))).mono ?_
  rintro en w2 ⟨rfl, hw2⟩
  subst hw2
  go_wp2
  go_ret
  exact ⟨rfl, rfl⟩
end Go.Proofs.YtlhjociijkhimaaGreatDoor
