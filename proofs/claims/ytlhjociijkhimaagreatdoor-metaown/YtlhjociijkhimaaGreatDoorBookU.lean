import Derived.Test.YtlhjociijkhimaaGreatDoorBookW
import Derived.BigQuiet
import Derived.Deep.RegionHeld3
import Derived.Deep.AppendLies
namespace Go.Proofs.YtlhjociijkhimaaGreatDoor
open Go.RowKit

set_option maxHeartbeats 2000000 in
set_option maxRecDepth 100000 in
theorem untouched_any (B : Nat) (vb vw : Value) (r c r2 c2 : Nat) (xs ys : List Value) (w : World) (h2 : w.cell? ⟨B, 2, none⟩ = some vb) (h3 : w.cell? ⟨B, 3, none⟩ = some vw) (hb : Row w vb r c xs) (hw : Row w vw r2 c2 ys) (hl : xs.length = ys.length) (hm : xs.length ≤ 1000000)
    (hs : ∀ (k : Nat) (x y : Value), xs[k]? = some x → ys[k]? = some y → ∃ ao n ca bo cb zs, x = .slice ao n ca ∧ y = .slice bo n cb ∧ Byt w ao n ca zs ∧ Byt w bo n cb zs) :
    Calls Tryz.prog 36 #[.pointer (some ⟨B, 0, none⟩)] w fun en w' => en = .returned (.bool true) ∧ Qt w w' := by
  obtain ⟨vo, hvb, hvo⟩ := hb.val
  obtain ⟨wo, hvw, hwo⟩ := hw.val
  have HVO := hid_intro hvo
  have HWO := hid_intro hwo
  have HB := hid_intro hb
  have HW := hid_intro hw
  have HS := hid_intro hs
  clear hb hw hs hvo hwo
  subst hvb hvw
  go_enter Tryz.func36, Tryz.ntmps36
  go_wp2
  go_loopw [3] (fun si wr => ∃ i : Nat, i ≤ xs.length ∧ si = .int .i64 i ∧ Qt w wr) (fun si _ => xs.length - (intOf si).toNat)
  case atStart => exact ⟨0, Nat.zero_le _, rfl, Qt.refl _⟩
  case round =>
    obtain ⟨i, hi, rfl, hq⟩ := hrel
    have HQ := hid_intro hq
    have k2 := (hq.cell _).trans h2
    have k3 := (hq.cell _).trans h3
    clear hq
    by_cases hlt : i < xs.length
    · obtain ⟨x, hx⟩ : ∃ x, xs[i]? = some x := ⟨xs[i], List.getElem?_eq_getElem hlt⟩
      obtain ⟨y, hy⟩ : ∃ y, ys[i]? = some y := ⟨ys[i]'(by omega), List.getElem?_eq_getElem (by omega)⟩
      obtain ⟨ao, n, ca, bo, cb, zs, rfl, rfl, ba, bb⟩ := HS.out i x y hx hy
      obtain rfl := HVO.out (by omega)
      obtain rfl := HWO.out (by omega)
      have c1 := (HQ.out.cell _).trans (HB.out.cells i _ hx)
      have c2 := (HQ.out.cell _).trans (HW.out.cells i _ hy)
      have HBA : Hid (∀ w' : World, w'.heap = wr.heap → Byt w' ao n ca zs) := fun w' e => ba.heap (e.trans HQ.out.heap)
      have HBB : Hid (∀ w' : World, w'.heap = wr.heap → Byt w' bo n cb zs) := fun w' e => bb.heap (e.trans HQ.out.heap)
      have hli : (i : Int) < (ys.length : Int) := by omega
      clear ba bb hx hy
      go_wp2
      go_quiet ((go_at_call 11; exact Calls.quiet_of_same (same_yes _ _ _ _ _ _ zs zs _ (by exact HBA.out _ rfl) (by exact HBB.out _ rfl) rfl)))
      go_wp2
      go_roundw
      case rel => exact ⟨i + 1, by omega, by go_num, HQ.out.trans (Qt.drewN _ _)⟩
      case measure => simp [intOf]; omega
    · have hin : i = xs.length := by omega
      subst hin
      go_wp2
      go_ret
      exact ⟨rfl, HQ.out⟩
end Go.Proofs.YtlhjociijkhimaaGreatDoor
