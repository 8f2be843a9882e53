import Derived.Test.YtjbigfnggelceaaDoorRefR
namespace Go.Proofs.YtjbigfnggelceaaDoor
open Go.RowKit

set_option maxHeartbeats 400000 in
theorem rbytes_broken (R G : Nat) (zs : List Int) (p : Nat) (e m : Int) (w : World) (h : Rr w R G zs p e) (he : (e == 0) = false) :
    Calls Tryd.prog 38 #[.pointer (some ⟨R, 0, none⟩), .int .i64 m] w fun en w' => en = .returned (.slice none 0 0) ∧ w' = w := by
  obtain ⟨c0, c1, c2, f1, f2⟩ := h.cells
  have he' : (e != 0) = true := by simpa using he
  clear h
  go_enter Tryd.func38, Tryd.ntmps38
  go_wp2
  go_ret
  exact ⟨rfl, rfl⟩

set_option maxHeartbeats 400000 in
theorem rbytes_neg (R G : Nat) (zs : List Int) (p : Nat) (m : Int) (w : World) (h : Rr w R G zs p 0) (hm : m < 0) :
    Calls Tryd.prog 38 #[.pointer (some ⟨R, 0, none⟩), .int .i64 m] w fun en w' => en = .returned (.slice none 0 0) ∧ Rr w' R G zs p 10 ∧ w.grownBy w' (some R) := by
  have HR : Hid (Rr w R G zs p 0) := h
  obtain ⟨c0, c1, c2, f1, f2⟩ := h.cells
  have hd : decide (m < 0) = true := by simpa using hm
  clear h
  go_enter Tryd.func38, Tryd.ntmps38
  go_wp2
  go_quiet (fail)
  go_wp2
  go_ret
  obtain ⟨r1, r2⟩ := (HR.out.qt (Qt.drewN w nq)).setErr 10
  exact ⟨rfl, r1, grown_trans ((Qt.drewN _ _).grown _) r2⟩

set_option maxHeartbeats 400000 in
theorem rbytes_short (R G : Nat) (zs : List Int) (p : Nat) (m : Int) (w : World) (h : Rr w R G zs p 0) (hm : (zs.length : Int) - p < m) :
    Calls Tryd.prog 38 #[.pointer (some ⟨R, 0, none⟩), .int .i64 m] w fun en w' => en = .returned (.slice none 0 0) ∧ Rr w' R G zs p 10 ∧ w.grownBy w' (some R) := by
  have HR : Hid (Rr w R G zs p 0) := h
  obtain ⟨c0, c1, c2, f1, f2⟩ := h.cells
  have h1 := h.le
  have h2 := h.max
  have hd : decide (m < 0) = false := by simp; omega
  have hd2 : decide ((zs.length : Int) - (p : Int) < m) = true := by simpa using hm
  clear h
  go_enter Tryd.func38, Tryd.ntmps38
  go_wp2
  go_quiet (fail)
  go_wp2
  go_ret
  obtain ⟨r1, r2⟩ := (HR.out.qt (Qt.drewN w nq)).setErr 10
  exact ⟨rfl, r1, grown_trans ((Qt.drewN _ _).grown _) r2⟩

theorem elem_bytes : Tryd.prog.underlying 25 = some (.slice (Tryd.prog.elem 25)) := by kernel_rfl
theorem size_elem (W : World) : (sizeOf (Tryd.prog.elem 25)).run Tryd.prog W = .ok 1 W := by kernel_rfl

theorem slice_part (W : World) (G L p m : Nat) (hm : p + m ≤ L) (hp : p < L) :
    (Instr.sliceAt 25 (.slice (some ⟨G, 0, none⟩) L L) (some (.int .i64 (p : Int))) (some (.int .i64 ((p : Int) + (m : Int)))) none).run Tryd.prog W = .ok (.slice (some ⟨G, p, none⟩) m (L - p)) W := by
  rw [run_sliceAt_slice W 25 _ _ _ _ elem_bytes, run_slice_lh W 25 (some ⟨G, 0, none⟩) L L elem_bytes .i64 .i64 (p : Int) ((p : Int) + (m : Int)) (by omega) (by omega) (by omega), size_elem]
  simp only [Result.andThen, sliced]
  rw [show ((p : Int) + (m : Int)).toNat = p + m by omega, Int.toNat_natCast, if_neg (by omega)]
  simp [Addr.add_lit]

theorem slice_none (W : World) (G L : Nat) :
    (Instr.sliceAt 25 (.slice (some ⟨G, 0, none⟩) L L) (some (.int .i64 (L : Int))) (some (.int .i64 (L : Int))) none).run Tryd.prog W = .ok (.slice (some ⟨G, 0, none⟩) 0 0) W := by
  rw [run_sliceAt_slice W 25 _ _ _ _ elem_bytes, run_slice_lh W 25 (some ⟨G, 0, none⟩) L L elem_bytes .i64 .i64 (L : Int) (L : Int) (by omega) (by omega) (by omega), size_elem]
  simp [Result.andThen, sliced]

theorem own_u8 {w w' : World} {base g n c R : Nat} {xs : List Value} (h : w.ownsRow base 5 1 (.slice (some ⟨g, 0, none⟩) n c) n xs) (hg : w.grownBy w' (some R)) (hne : g ≠ R) : ∃ cur, w'.heap[g]? = some (.cells cur 5 (0, 0)) := by
  rcases h.2 with ⟨e, _⟩ | ⟨g', cap, cur, hv, _, hgg, _⟩
  · cases e
  · injection hv with x1
    simp only [Option.some.injEq, Addr.mk.injEq] at x1
    obtain ⟨rfl, _⟩ := x1
    exact ⟨cur, (hg.block g (Array.getElem?_eq_some_iff.1 hgg).1 (fun e => hne (Option.some.inj e))).trans hgg⟩

set_option maxHeartbeats 1000000 in
theorem rbytes_new (R G : Nat) (zs : List Int) (p m : Nat) (w : World) (h : Rr w R G zs p 0) (hm : p + m ≤ zs.length) :
    Calls Tryd.prog 38 #[.pointer (some ⟨R, 0, none⟩), .int .i64 m] w fun en w' => ∃ ao, en = .returned (.slice ao m m) ∧ Byt w' ao m m ((zs.drop p).take m) ∧ Rr w' R G zs (p + m) 0 ∧ w.grownBy w' (some R) ∧ (∀ ad, ao = some ad → w.heap.size ≤ ad.block ∧ ∃ cur, w'.heap[ad.block]? = some (.cells cur 5 (0, 0))) := by
  have HR : Hid (Rr w R G zs p 0) := h
  obtain ⟨c0, c1, c2, f1, f2⟩ := h.cells
  have h1 := h.le
  have h2 := h.max
  have hd : decide ((m : Int) < 0) = false := by simp
  have hd2 : decide ((zs.length : Int) - (p : Int) < (m : Int)) = false := by simp; omega
  have hp : (p : Int) ≤ (p : Int) + (m : Int) := by omega
  have hp2 : (p : Int) + (m : Int) ≤ (zs.length : Int) := by omega
  clear h
  go_enter Tryd.func38, Tryd.ntmps38
  go_wp2
  go_quiet (fail)
  clear hd hd2
  go_wp2
  have HBT : Hid (∀ W : World, W.heap = w.heap → Byt W (some ⟨G, p, none⟩) m (zs.length - p) ((zs.drop p).take m)) := fun W h => (HR.out.rest m (zs.length - p) hm).heap h
  by_cases hpl : zs.length = p
  · have hm0 : m = 0 := by omega
    subst hm0
    have hsl := fun W => slice_none W G zs.length
    subst hpl
    clear hp hp2
    have hwr : IntKind.i64.wrap (zs.length : Int) = (zs.length : Int) := by simp [IntKind.wrap, IntKind.bits, IntKind.signed]; omega
    go_region_with (go_at_call 14; refine (refBytes_any _ 0 _ [] _ (by exact ⟨rfl, (fun e => by cases e), (fun _ _ j u hu => by simp at hu)⟩) (by omega)).mono ?_; rintro en w3 ⟨rfl, hown, hg3, hs3⟩)
    all_goals
      have hgw : w.grownBy w3 none := grown_trans ((Qt.drewN w nq).grown none) (grown_trans (((Qt.refl _).drew).grown none) hg3)
      have R3 : Hid (Rr w3 R G zs zs.length 0) := HR.out.kept hgw (by simp) (by simp)
      have HGW := hid_intro hgw
      have HOW := hid_intro hown
      obtain ⟨d0, d1, d2, g1, g2⟩ := R3.out.cells
      clear hgw hown hg3 hs3
      go_wp2
      go_ret
      obtain ⟨r1, r2⟩ := R3.out.setPlace (zs.length + 0) ((zs.length : Int)) (by omega) (by omega) (by omega)
      refine ⟨_, rfl, ?_, r1, grown_trans (grown_any HGW.out) r2, fun ad had => by obtain rfl := Option.some.inj had; exact ⟨by simp, own_u8 HOW.out r2 (by have := HR.out.lt.1; simp; omega)⟩⟩
      refine (Byt.of_owns HOW.out).kept r2 ?_
      intro ad had h0 e
      obtain rfl := Option.some.inj had
      have e2 := Option.some.inj e
      have := HR.out.lt.1
      simp at e2
      omega
  · have hsl := fun W => slice_part W G zs.length p m hm (by omega)
    clear hp hp2
    have hwr : IntKind.i64.wrap ((p : Int) + (m : Int)) = (p : Int) + (m : Int) := by simp [IntKind.wrap, IntKind.bits, IntKind.signed]; omega
    go_region_with (go_at_call 14; refine (refBytes_any _ m _ ((zs.drop p).take m) _ (by exact HBT.out _ rfl) (by omega)).mono ?_; rintro en w3 ⟨rfl, hown, hg3, hs3⟩)
    all_goals
      have hgw : w.grownBy w3 none := grown_trans ((Qt.drewN w nq).grown none) (grown_trans (((Qt.refl _).drew).grown none) hg3)
      have R3 : Hid (Rr w3 R G zs p 0) := HR.out.kept hgw (by simp) (by simp)
      have HGW := hid_intro hgw
      have HOW := hid_intro hown
      obtain ⟨d0, d1, d2, g1, g2⟩ := R3.out.cells
      clear hgw hown hg3 hs3
      go_wp2
      go_ret
      obtain ⟨r1, r2⟩ := R3.out.setPlace (p + m) ((p : Int) + (m : Int)) (by omega) (by omega) (by omega)
      refine ⟨_, rfl, ?_, r1, grown_trans (grown_any HGW.out) r2, fun ad had => by obtain rfl := Option.some.inj had; exact ⟨by simp, own_u8 HOW.out r2 (by have := HR.out.lt.1; simp; omega)⟩⟩
      refine (Byt.of_owns HOW.out).kept r2 ?_
      intro ad had h0 e
      obtain rfl := Option.some.inj had
      have e2 := Option.some.inj e
      have := HR.out.lt.1
      simp at e2
      omega

theorem rbytes_ok (R G : Nat) (zs : List Int) (p m : Nat) (w : World) (h : Rr w R G zs p 0) (hm : p + m ≤ zs.length) :
    Calls Tryd.prog 38 #[.pointer (some ⟨R, 0, none⟩), .int .i64 m] w fun en w' => ∃ ao, en = .returned (.slice ao m m) ∧ Byt w' ao m m ((zs.drop p).take m) ∧ Rr w' R G zs (p + m) 0 ∧ w.grownBy w' (some R) := by
  refine (rbytes_new R G zs p m w h hm).mono ?_
  rintro en w' ⟨ao, h1, h2, h3, h4, _⟩
  exact ⟨ao, h1, h2, h3, h4⟩
end Go.Proofs.YtjbigfnggelceaaDoor
