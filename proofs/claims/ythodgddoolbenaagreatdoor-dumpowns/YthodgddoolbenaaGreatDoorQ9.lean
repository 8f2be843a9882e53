import Derived.Test.YthodgddoolbenaaGreatDoorQ4
namespace Go.Proofs.YthodgddoolbenaaGreatDoor
open Go.RowKit
set_option maxHeartbeats 2000000 in
set_option maxRecDepth 100000 in
theorem untouched_bytes (B : Nat) (vb vw : Value) (r c r2 c2 : Nat) (xs ys : List Value) (w : World) (h2 : w.cell? ⟨B, 2, none⟩ = some vb) (h3 : w.cell? ⟨B, 3, none⟩ = some vw) (hb : Kro w vb r c xs) (hw : Kro w vw r2 c2 ys) (hl : xs.length = ys.length) (hm : xs.length ≤ 1000000)
  (hs : ∀ (k : Nat) (x y : Value), xs[k]? = some x → ys[k]? = some y → ∃ ao n ca bo cb zs, x = .slice ao n ca ∧ y = .slice bo n cb ∧ Byt w ao n ca zs ∧ Byt w bo n cb zs) :
  Calls Tryz.prog 47 #[.pointer (some ⟨B, 0, none⟩)] w fun en w' => en = .returned (.bool true) ∧ w.grownBy w' none := by
 obtain ⟨vo, hvb, hvo⟩ := hb.val
 obtain ⟨wo, hvw, hwo⟩ := hw.val
 have HVO := hid_intro hvo
 have HWO := hid_intro hwo
 have HB := hid_intro hb
 have HW := hid_intro hw
 have HS := hid_intro hs
 clear hb hw hs hvo hwo
 subst hvb hvw
 go_enter Tryz.func47, Tryz.ntmps47
 go_wp2
 go_loopw [3] (fun si wr => ∃ i : Nat, i ≤ xs.length ∧ si = .int .i64 i ∧ w.grownBy wr none) (fun si _ => xs.length - (intOf si).toNat)
 case atStart => exact ⟨0, Nat.zero_le _, rfl, (Qt.refl _).grown none⟩
 case round =>
  obtain ⟨i, hi, rfl, hq⟩ := hrel
  have HQ := hid_intro hq
  have k2 := hq.cell h2 (by simp)
  have k3 := hq.cell h3 (by simp)
  clear hq
  by_cases hlt : i < xs.length
  ·obtain ⟨x, hx⟩ : ∃ x, xs[i]? = some x := ⟨xs[i], List.getElem?_eq_getElem hlt⟩
   obtain ⟨y, hy⟩ : ∃ y, ys[i]? = some y := ⟨ys[i]'(by omega), List.getElem?_eq_getElem (by omega)⟩
   obtain ⟨ao, n, ca, bo, cb, zs, rfl, rfl, ba, bb⟩ := HS.out i x y hx hy
   obtain rfl := HVO.out (by omega)
   obtain rfl := HWO.out (by omega)
   have c1 := HQ.out.cell (HB.out.cells i _ hx) (by simp)
   have c2 := HQ.out.cell (HW.out.cells i _ hy) (by simp)
   have HD := hid_intro (grown_trans HQ.out ((Qt.refl _).drew.grown none))
   have HC := hid_intro (same_yes _ _ _ _ _ _ zs zs wr.drew (ba.keptN HD.out) (bb.keptN HD.out) rfl)
   clear ba bb
   have hli : (i : Int) < (ys.length : Int) := by omega
   have g0 : (0 : Int) ≤ (i : Int) := by omega
   clear hx hy
   go_wp2_with fail
   go_region_with (go_at_call 41; refine HC.out.mono ?_; rintro en w3 ⟨rfl, rfl⟩)
   all_goals
    go_wp2
    go_roundw
    case rel => exact ⟨i + 1, by omega, by go_num, HD.out⟩
    case measure => simp [intOf]; omega
  ·have hin : i = xs.length := by omega
   subst hin
   go_wp2
   go_ret
   exact ⟨rfl, HQ.out⟩
end Go.Proofs.YthodgddoolbenaaGreatDoor
