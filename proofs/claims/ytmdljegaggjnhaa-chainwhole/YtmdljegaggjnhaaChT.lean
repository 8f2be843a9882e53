import Derived.Test.YtmdljegaggjnhaaCh6
namespace Go.Proofs.Ytmdljegaggjnhaa
open Go.RowKit

def Lb (L : List (List Int)) : Prop := ∀ s ∈ L, Bt s
theorem lget_mem {L : List (List Int)} {i : Nat} (h : i < L.length) : L.getD i [] ∈ L := by
  simp [List.getD, List.getElem?_eq_getElem h]
theorem lget_ext {L M : List (List Int)} (hl : L.length = M.length) (h : ∀ j, j < L.length → L.getD j [] = M.getD j []) : L = M := by
  refine List.ext_getElem hl fun j h1 h2 => ?_
  have := h j h1
  simpa [List.getD, List.getElem?_eq_getElem h1, List.getElem?_eq_getElem h2] using this
set_option maxHeartbeats 1000000 in
set_option maxRecDepth 100000 in
theorem sameLists_any (a : Option Addr) (n cap : Nat) (L : List (List Int)) (a' : Option Addr) (n' cap' : Nat) (M : List (List Int)) (w : World) (hl : Lz w a L) (hb : Lb L) (hn : L.length = n) (hl' : Lz w a' M) (hb' : Lb M) (hn' : M.length = n') (hm : n ≤ 9223372036854775807) :
    Calls Try.prog 14 #[.slice a n cap, .slice a' n' cap'] w fun en w' => (∃ b, en = .returned (.bool b) ∧ (b = true ↔ L = M)) ∧ Qt w w' := by
  have HL := hid_intro hl
  have HM := hid_intro hl'
  have HB := hid_intro hb
  have HB' := hid_intro hb'
  clear hl hl' hb hb'
  by_cases h1 : n = n'
  · subst h1
    go_enter Try.func14, Try.ntmps14
    go_wp2
    go_loopw [5, 6] (fun si _ wr => ∃ i : Nat, i ≤ n ∧ si = .int .i64 i ∧ (∀ j, j < i → L.getD j [] = M.getD j []) ∧ Qt w wr) (fun si _ _ => n - (intOf si).toNat)
    case atStart => exact ⟨0, Nat.zero_le _, rfl, fun j hj => by omega, Qt.refl _⟩
    case round =>
      obtain ⟨i, hi, rfl, ha, hq⟩ := hrel
      have HA := hid_intro ha
      have HQ := hid_intro hq
      clear ha hq
      by_cases hlt : i < n
      · obtain ⟨b1, off, ao, k, c, rfl, q2, q3, q4, q5⟩ := HL.out.row i (by omega)
        obtain ⟨b2, off2, ao2, k2, c2, rfl, r2, r3, r4, r5⟩ := HM.out.row i (by omega)
        have c0 := (HQ.out.cell _).trans q2
        have c1 := (HQ.out.cell _).trans r2
        have g1 : (i : Int) < (n : Int) := by omega
        have g0 : (0 : Int) ≤ (i : Int) := by omega
        by_cases he : L.getD i [] = M.getD i []
        · have HC := hid_intro (fun (W : World) (hW : W.heap = wr.heap) => same_yes ao ao2 k k2 c c2 _ _ W (q3.heap (hW.trans HQ.out.heap)) (r3.heap (hW.trans HQ.out.heap)) he)
          have HX1 : Hid (∀ j, j < i + 1 → L.getD j [] = M.getD j []) := by
            intro j hj
            by_cases e : j = i
            · subst e; exact he
            · exact HA.out j (by omega)
          clear q2 q3 r2 r3 he
          go_wp2
          go_quiet ((go_at_call 17; exact Calls.quiet_of_same (HC.out _ rfl)))
          go_wp2
          go_roundw
          case rel => exact ⟨i + 1, by omega, by go_num, HX1.out, HQ.out.trans (Qt.drewN _ _)⟩
          case measure => simp [intOf]; omega
        · have HC := hid_intro (fun (W : World) (hW : W.heap = wr.heap) => same_no ao ao2 k k2 c c2 _ _ W (q3.heap (hW.trans HQ.out.heap)) (r3.heap (hW.trans HQ.out.heap)) (HB.out _ (lget_mem (by omega))) (HB'.out _ (lget_mem (by omega))) he)
          have HX1 : Hid (¬ L = M) := fun e => he (by rw [e])
          clear q2 q3 r2 r3 he
          go_wp2
          go_quiet ((go_at_call 17; exact Calls.quiet_of_same (HC.out _ rfl)))
          go_wp2
          go_ret
          exact ⟨⟨false, rfl, by simp [HX1.out]⟩, HQ.out.trans (Qt.drewN _ _)⟩
      · have hin : i = n := by omega
        subst hin
        have HT : Hid (L = M) := lget_ext (by omega) (fun j hj => HA.out j (by omega))
        go_wp2
        go_ret
        exact ⟨⟨true, rfl, by simp [HT.out]⟩, HQ.out⟩
  · have HX1 : Hid (¬ L = M) := fun e => h1 (by rw [← hn, ← hn', e])
    have h1' : ¬ (n : Int) = (n' : Int) := by omega
    go_enter Try.func14, Try.ntmps14
    go_wp2
    go_ret
    exact ⟨⟨false, rfl, by simp [HX1.out]⟩, Qt.refl _⟩

theorem nget_ext {L M : List Int} (hl : L.length = M.length) (h : ∀ j, j < L.length → L.getD j 0 = M.getD j 0) : L = M := by
  refine List.ext_getElem hl fun j h1 h2 => ?_
  have := h j h1
  simpa [List.getD, List.getElem?_eq_getElem h1, List.getElem?_eq_getElem h2] using this
set_option maxHeartbeats 1000000 in
set_option maxRecDepth 100000 in
theorem sameInts_any (a : Option Addr) (n cap : Nat) (L : List Int) (a' : Option Addr) (n' cap' : Nat) (M : List Int) (w : World) (hl : Nt w a L) (hn : L.length = n) (hl' : Nt w a' M) (hn' : M.length = n') (hm : n ≤ 9223372036854775807) :
    Calls Try.prog 25 #[.slice a n cap, .slice a' n' cap'] w fun en w' => (∃ b, en = .returned (.bool b) ∧ (b = true ↔ L = M)) ∧ Qt w w' := by
  have HL := hid_intro hl
  have HM := hid_intro hl'
  clear hl hl'
  by_cases h1 : n = n'
  · subst h1
    go_enter Try.func25, Try.ntmps25
    go_wp2
    go_loopw [5] (fun si wr => ∃ i : Nat, i ≤ n ∧ si = .int .i64 i ∧ (∀ j, j < i → L.getD j 0 = M.getD j 0) ∧ Qt w wr) (fun si _ => n - (intOf si).toNat)
    case atStart => exact ⟨0, Nat.zero_le _, rfl, fun j hj => by omega, Qt.refl _⟩
    case round =>
      obtain ⟨i, hi, rfl, ha, hq⟩ := hrel
      have HA := hid_intro ha
      have HQ := hid_intro hq
      clear ha hq
      by_cases hlt : i < n
      · obtain ⟨b1, off, rfl, q2⟩ := HL.out.row i (by omega)
        obtain ⟨b2, off2, rfl, r2⟩ := HM.out.row i (by omega)
        have c0 := (HQ.out.cell _).trans q2
        have c1 := (HQ.out.cell _).trans r2
        have g1 : (i : Int) < (n : Int) := by omega
        have g0 : (0 : Int) ≤ (i : Int) := by omega
        have HX : Hid (L.getD i 0 = M.getD i 0 → ∀ j, j < i + 1 → L.getD j 0 = M.getD j 0) := by
          intro he j hj
          by_cases e : j = i
          · subst e; exact he
          · exact HA.out j (by omega)
        have HY : Hid (¬ L.getD i 0 = M.getD i 0 → ¬ L = M) := fun he e => he (by rw [e])
        clear q2 r2
        generalize L.getD i 0 = u at *
        generalize M.getD i 0 = v at *
        by_cases he : u = v
        · have HX1 := hid_intro (HX.out he)
          have h2 : (u == v) = true := by simp [he]
          clear HX HY
          subst he
          go_wp2
          go_quiet (fail)
          go_wp2
          go_roundw
          case rel => exact ⟨i + 1, by omega, by go_num, HX1.out, HQ.out.trans (Qt.drewN _ _)⟩
          case measure => simp [intOf]; omega
        · have HY1 := hid_intro (HY.out he)
          have h2 : (u == v) = false := by simp [he]
          clear HX HY
          go_wp2
          go_quiet (fail)
          go_wp2
          go_ret
          exact ⟨⟨false, rfl, by simp [HY1.out]⟩, HQ.out.trans (Qt.drewN _ _)⟩
      · have hin : i = n := by omega
        subst hin
        have HT : Hid (L = M) := nget_ext (by omega) (fun j hj => HA.out j (by omega))
        go_wp2
        go_ret
        exact ⟨⟨true, rfl, by simp [HT.out]⟩, HQ.out⟩
  · have HX1 : Hid (¬ L = M) := fun e => h1 (by rw [← hn, ← hn', e])
    have h1' : ¬ (n : Int) = (n' : Int) := by omega
    go_enter Try.func25, Try.ntmps25
    go_wp2
    go_ret
    exact ⟨⟨false, rfl, by simp [HX1.out]⟩, Qt.refl _⟩

set_option maxHeartbeats 400000 in
theorem num6_any (n : Int) (w : World) : Calls Try.prog 18 #[.int .i64 n] w fun en w' => en = .returned (.int .i64 n) ∧ w' = w := by
  go_enter Try.func18, Try.ntmps18
  go_wp2
  go_ret
  exact ⟨rfl, rfl⟩

/-- A list of numbers that came in. -/
theorem nt_of_row {w : World} {x : Addr} {len cap : Nat} {zs : List Int} (hl : len ≤ cap) (hz : zs.length = cap) (hc : ∀ i, i < zs.length → w.cell? (x.add i) = some (.int .i64 (zs.getD i 0))) : Nt w (some x) (zs.take len) := by
  refine ⟨fun i hi => ?_⟩
  rw [List.length_take] at hi
  have h0 := hc 0 (by omega)
  obtain ⟨b, off, spot⟩ := x
  have hs : spot = none := by simpa [Addr.add] using World.cell?_spot h0
  subst hs
  refine ⟨b, off, rfl, ?_⟩
  have := hc i (by omega)
  rw [Addr.add_lit] at this
  rw [this]
  simp [List.getD, show i < len by omega]
end Go.Proofs.Ytmdljegaggjnhaa
