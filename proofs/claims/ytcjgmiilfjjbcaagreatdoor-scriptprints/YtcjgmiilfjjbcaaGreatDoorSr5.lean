import Derived.Test.YtcjgmiilfjjbcaaGreatDoorSr4
namespace Go.Proofs.YtcjgmiilfjjbcaaGreatDoor
open Go.RowKit

theorem below_grownS {w w' : World} {B : Nat} (h : w.grownBy w' none) (hB : B ≤ w.heap.size) : Below B w w' := ⟨h.os, h.tape, h.output, h.size, fun k hk => h.block k (by omega) (by simp)⟩
theorem below_oneS {w w' : World} {B O : Nat} (h : w.grownBy w' (some O)) (hB : B ≤ w.heap.size) (hO : B ≤ O) : Below B w w' := ⟨h.os, h.tape, h.output, h.size, fun k hk => h.block k (by omega) (by simp; omega)⟩
theorem below_ownS {w w' : World} {B e sz n : Nat} {v : Value} {xs : List Value} (h : w.grownBy w' v.ownBlock) (ho : w.ownsRow B e sz v n xs) (hB : B ≤ w.heap.size) : Below B w w' := by
  rcases ho.2 with ⟨h1, _⟩ | ⟨g, cap, cur, h1, h2, _⟩
  · rw [h1] at h; exact below_grownS h hB
  · rw [h1] at h; exact below_oneS h hB h2
theorem below_transS {a b c : World} {B : Nat} (h : Below B a b) (k : Below B b c) : Below B a c := ⟨k.os.trans h.os, k.tape.trans h.tape, k.output.trans h.output, Nat.le_trans h.size k.size, fun i hi => (k.block i hi).trans (h.block i hi)⟩
theorem grown_ofBelow {w0 w w' : World} (h : w0.grownBy w none) (k : Below w0.heap.size w w') : w0.grownBy w' none := ⟨k.os.trans h.os, k.tape.trans h.tape, k.output.trans h.output, Nat.le_trans h.size k.size, fun i hi _ => (k.block i hi).trans (h.block i hi (by simp))⟩
/-- Blocks other than O that hold no fates stand. -/
def Ftw (w w' : World) (O : Nat) : Prop := ∀ g o, w.heap[g]? = some o → g ≠ O → (∀ cs fr, o ≠ .cells cs 43 fr) → w'.heap[g]? = some o
theorem ftw_grown {w w' : World} {O : Nat} (h : w.grownBy w' none) : Ftw w w' O := fun _ _ ho _ _ => heap_keptS ho h
theorem ftw_one {w w' : World} {O : Nat} (h : w.grownBy w' (some O)) : Ftw w w' O := fun g o ho hne _ => by
  rw [h.block g (Array.getElem?_eq_some_iff.1 ho).1 (by simp; exact hne)]; exact ho
theorem ftw_own {w w' : World} {B O n sz : Nat} {v : Value} {xs : List Value} (h : w.grownBy w' v.ownBlock) (hv : w.ownsRow B 43 sz v n xs) : Ftw w w' O := fun g o ho _ hn => by
  rw [h.block g (Array.getElem?_eq_some_iff.1 ho).1 (fun e => ?_)]
  · exact ho
  · rcases hv.2 with ⟨h1, _⟩ | ⟨g', cap, cur, h1, _, h3, _⟩
    · rw [h1] at e; cases e
    · rw [h1] at e
      simp only [Value.ownBlock, Option.some.injEq] at e
      subst e
      rw [h3] at ho
      exact hn _ _ (Option.some.inj ho).symm
theorem Ftw.trans {a b c : World} {O : Nat} (h : Ftw a b O) (k : Ftw b c O) : Ftw a c O := fun g o ho hne hn => k g o (h g o ho hne hn) hne hn
/-- What readField answers. -/
def RfP (w : World) (B O : Nat) (r : Except Int Opq) (en : Ending) (w' : World) : Prop := (Below B w w' ∧ Ftw w w' O) ∧ ((∃ o kv vv hv fv, r = .ok o ∧ en = .returned (.int .i64 0) ∧ OpI w' B O o kv vv hv fv) ∨ ∃ e, r = .error e ∧ e ≠ 0 ∧ en = .returned (.int .i64 e))
theorem uh_bt {T : List UInt8} {b : List Int} (h : uh T = some b) : Bt b := (hx_uh h).2
set_option maxHeartbeats 4000000 in
set_option maxRecDepth 100000 in
theorem readField_a (T : List UInt8) (w : World) (hL : Lv w) (hT : T.length ≤ 2000000000) {B O : Nat} {o : Opq} {kv vv hv fv : Value} (h : OpI w B O o kv vv hv fv) (hB : B ≤ w.heap.size) (hO : B ≤ O) : Calls Tryz.prog 76 #[.pointer (some ⟨O, 0, none⟩), .int .i32 65, .string (tstr T)] w fun en w' => RfP w B O (fld o 65 T) en w' := by
  have HL : Hid (Lv w) := hL
  have HI := hid_intro h
  have HN := hid_intro (fun W hW => readNumber_any T W hW hT)
  have HF : Hid (fld o 65 T = (nmE T).map fun n => { o with a := n }) := rfl
  have hc := nm_cases T
  have HA : Hid (∀ W, Calls Tryz.prog 42 #[.pointer (some ⟨O, 0, none⟩), .int .i32 65] W fun en w' => en = .returned (.pointer (some ⟨O, 1, none⟩)) ∧ w' = W) := fun W => numberAt_any O 65 W
  clear hL h hT
  generalize fld o 65 T = FT at *
  rcases hc with ⟨n, _, e2, e3, e4, _⟩ | ⟨_, e2, e3, e4⟩
  all_goals
    rw [e3, e4] at HN
    rw [e2] at HF
    clear e2 e3 e4
    generalize tstr T = s at *
    go_enter Tryz.func76, Tryz.ntmps76
    go_wp2_with fail
    refine (HA.out _).mono ?_
    rintro en w2 ⟨rfl, rfl⟩
    go_wp2_with fail
    refine (HN.out _ HL.out).mono ?_
    rintro en w3 ⟨rfl, hg3⟩
    have I3 := hid_intro (HI.out.keptN hg3)
    have B3 := hid_intro (below_grownS hg3 hB)
    have F3 : Hid (Ftw _ w3 O) := ftw_grown hg3
    have hs3 := hg3.size
    have d0 := cell_heapS (i := 1) I3.out.box rfl
    have z0 := frozen_of_row w3 O 1 _ _ I3.out.box
    clear hg3
    go_wp2
  · go_ret
    have hb := heap_setCell_same w3 O 1 _ _ (.int .i64 n) I3.out.box
    have hg := grown_cellS w3 O 1 (.int .i64 n)
    exact ⟨⟨below_transS B3.out (below_oneS hg (by omega) hO), F3.out.trans (ftw_one hg)⟩, .inl ⟨{ o with a := n }, kv, vv, hv, fv, HF.out, rfl, I3.out.set (o' := { o with a := n }) hg hb I3.out.key I3.out.val I3.out.hi I3.out.f I3.out.bk I3.out.bv I3.out.bh⟩⟩
  · go_ret
    have hg := grown_cellS w3 O 1 (.int .i64 0)
    exact ⟨⟨below_transS B3.out (below_oneS hg (by omega) hO), F3.out.trans (ftw_one hg)⟩, .inr ⟨232, HF.out, by decide, rfl⟩⟩
set_option maxHeartbeats 4000000 in
set_option maxRecDepth 100000 in
theorem readField_b (T : List UInt8) (w : World) (hL : Lv w) (hT : T.length ≤ 2000000000) {B O : Nat} {o : Opq} {kv vv hv fv : Value} (h : OpI w B O o kv vv hv fv) (hB : B ≤ w.heap.size) (hO : B ≤ O) : Calls Tryz.prog 76 #[.pointer (some ⟨O, 0, none⟩), .int .i32 66, .string (tstr T)] w fun en w' => RfP w B O (fld o 66 T) en w' := by
  have HL : Hid (Lv w) := hL
  have HI := hid_intro h
  have HN := hid_intro (fun W hW => readNumber_any T W hW hT)
  have HF : Hid (fld o 66 T = (nmE T).map fun n => { o with b := n }) := rfl
  have hc := nm_cases T
  have HA : Hid (∀ W, Calls Tryz.prog 42 #[.pointer (some ⟨O, 0, none⟩), .int .i32 66] W fun en w' => en = .returned (.pointer (some ⟨O, 2, none⟩)) ∧ w' = W) := fun W => numberAt_any O 66 W
  clear hL h hT
  generalize fld o 66 T = FT at *
  rcases hc with ⟨n, _, e2, e3, e4, _⟩ | ⟨_, e2, e3, e4⟩
  all_goals
    rw [e3, e4] at HN
    rw [e2] at HF
    clear e2 e3 e4
    generalize tstr T = s at *
    go_enter Tryz.func76, Tryz.ntmps76
    go_wp2_with fail
    refine (HA.out _).mono ?_
    rintro en w2 ⟨rfl, rfl⟩
    go_wp2_with fail
    refine (HN.out _ HL.out).mono ?_
    rintro en w3 ⟨rfl, hg3⟩
    have I3 := hid_intro (HI.out.keptN hg3)
    have B3 := hid_intro (below_grownS hg3 hB)
    have F3 : Hid (Ftw _ w3 O) := ftw_grown hg3
    have hs3 := hg3.size
    have d0 := cell_heapS (i := 2) I3.out.box rfl
    have z0 := frozen_of_row w3 O 2 _ _ I3.out.box
    clear hg3
    go_wp2
  · go_ret
    have hb := heap_setCell_same w3 O 2 _ _ (.int .i64 n) I3.out.box
    have hg := grown_cellS w3 O 2 (.int .i64 n)
    exact ⟨⟨below_transS B3.out (below_oneS hg (by omega) hO), F3.out.trans (ftw_one hg)⟩, .inl ⟨{ o with b := n }, kv, vv, hv, fv, HF.out, rfl, I3.out.set (o' := { o with b := n }) hg hb I3.out.key I3.out.val I3.out.hi I3.out.f I3.out.bk I3.out.bv I3.out.bh⟩⟩
  · go_ret
    have hg := grown_cellS w3 O 2 (.int .i64 0)
    exact ⟨⟨below_transS B3.out (below_oneS hg (by omega) hO), F3.out.trans (ftw_one hg)⟩, .inr ⟨232, HF.out, by decide, rfl⟩⟩
set_option maxHeartbeats 4000000 in
set_option maxRecDepth 100000 in
theorem readField_c (T : List UInt8) (w : World) (hL : Lv w) (hT : T.length ≤ 2000000000) {B O : Nat} {o : Opq} {kv vv hv fv : Value} (h : OpI w B O o kv vv hv fv) (hB : B ≤ w.heap.size) (hO : B ≤ O) : Calls Tryz.prog 76 #[.pointer (some ⟨O, 0, none⟩), .int .i32 67, .string (tstr T)] w fun en w' => RfP w B O (fld o 67 T) en w' := by
  have HL : Hid (Lv w) := hL
  have HI := hid_intro h
  have HN := hid_intro (fun W hW => readNumber_any T W hW hT)
  have HF : Hid (fld o 67 T = (nmE T).map fun n => { o with c := n }) := rfl
  have hc := nm_cases T
  have HA : Hid (∀ W, Calls Tryz.prog 42 #[.pointer (some ⟨O, 0, none⟩), .int .i32 67] W fun en w' => en = .returned (.pointer (some ⟨O, 3, none⟩)) ∧ w' = W) := fun W => numberAt_any O 67 W
  clear hL h hT
  generalize fld o 67 T = FT at *
  rcases hc with ⟨n, _, e2, e3, e4, _⟩ | ⟨_, e2, e3, e4⟩
  all_goals
    rw [e3, e4] at HN
    rw [e2] at HF
    clear e2 e3 e4
    generalize tstr T = s at *
    go_enter Tryz.func76, Tryz.ntmps76
    go_wp2_with fail
    refine (HA.out _).mono ?_
    rintro en w2 ⟨rfl, rfl⟩
    go_wp2_with fail
    refine (HN.out _ HL.out).mono ?_
    rintro en w3 ⟨rfl, hg3⟩
    have I3 := hid_intro (HI.out.keptN hg3)
    have B3 := hid_intro (below_grownS hg3 hB)
    have F3 : Hid (Ftw _ w3 O) := ftw_grown hg3
    have hs3 := hg3.size
    have d0 := cell_heapS (i := 3) I3.out.box rfl
    have z0 := frozen_of_row w3 O 3 _ _ I3.out.box
    clear hg3
    go_wp2
  · go_ret
    have hb := heap_setCell_same w3 O 3 _ _ (.int .i64 n) I3.out.box
    have hg := grown_cellS w3 O 3 (.int .i64 n)
    exact ⟨⟨below_transS B3.out (below_oneS hg (by omega) hO), F3.out.trans (ftw_one hg)⟩, .inl ⟨{ o with c := n }, kv, vv, hv, fv, HF.out, rfl, I3.out.set (o' := { o with c := n }) hg hb I3.out.key I3.out.val I3.out.hi I3.out.f I3.out.bk I3.out.bv I3.out.bh⟩⟩
  · go_ret
    have hg := grown_cellS w3 O 3 (.int .i64 0)
    exact ⟨⟨below_transS B3.out (below_oneS hg (by omega) hO), F3.out.trans (ftw_one hg)⟩, .inr ⟨232, HF.out, by decide, rfl⟩⟩
set_option maxHeartbeats 4000000 in
set_option maxRecDepth 100000 in
theorem readField_key (T : List UInt8) (w : World) (hT : T.length ≤ 2000000000) {B O : Nat} {o : Opq} {kv vv hv fv : Value} (h : OpI w B O o kv vv hv fv) (hB : B ≤ w.heap.size) (hO : B ≤ O) : Calls Tryz.prog 76 #[.pointer (some ⟨O, 0, none⟩), .int .i32 75, .string (tstr T)] w fun en w' => RfP w B O (fld o 75 T) en w' := by
  have HI := hid_intro h
  have HU : Hid (∀ W, Calls Tryz.prog 93 #[.string (tstr T)] W fun en w' => UhP W T en w') := fun W => unhex_any (tstr T) W (by rw [tstr_size]; exact hT)
  have HF : Hid (fld o 75 T = (uhE T).map fun n => { o with key := n }) := rfl
  have HN : Hid (∀ W, Calls Tryz.prog 42 #[.pointer (some ⟨O, 0, none⟩), .int .i32 75] W fun en w' => en = .returned (.pointer none) ∧ w' = W) := fun W => numberAt_any O 75 W
  have HA : Hid (∀ W, Calls Tryz.prog 43 #[.pointer (some ⟨O, 0, none⟩), .int .i32 75] W fun en w' => en = .returned (.pointer (some ⟨O, 4, none⟩)) ∧ w' = W) := fun W => bytesAt_any O 75 W
  clear h hT
  generalize fld o 75 T = FT at *
  generalize tstr T = s at *
  go_enter Tryz.func76, Tryz.ntmps76
  go_wp2_with fail
  refine (HN.out _).mono ?_
  rintro en w2 ⟨rfl, rfl⟩
  go_wp2_with fail
  refine (HA.out _).mono ?_
  rintro en w3 ⟨rfl, rfl⟩
  go_wp2_with fail
  refine (HU.out _).mono ?_
  rintro en w4 ⟨hg3, hu⟩
  have I3 := hid_intro (HI.out.keptN hg3)
  have B3 := hid_intro (below_grownS hg3 hB)
  have F3 : Hid (Ftw _ w4 O) := ftw_grown hg3
  have hs3 := hg3.size
  have d0 := cell_heapS (i := 4) I3.out.box rfl
  have z0 := frozen_of_row w4 O 4 _ _ I3.out.box
  clear hg3
  rcases hu with ⟨e1, rfl⟩ | ⟨b, ao, c, e1, rfl, ho⟩
  · have HF2 : Hid (FT = .error 201) := by show _ = _; rw [HF.out]; unfold uhE; rw [e1]; rfl
    clear HF e1
    go_wp2
    go_ret
    have hg := grown_cellS w4 O 4 (.slice none 0 0)
    exact ⟨⟨below_transS B3.out (below_oneS hg (by omega) hO), F3.out.trans (ftw_one hg)⟩, .inr ⟨201, HF2.out, by decide, rfl⟩⟩
  · have HF2 : Hid (FT = .ok { o with key := b }) := by show _ = _; rw [HF.out]; unfold uhE; rw [e1]; rfl
    have HB : Hid (Bt b) := uh_bt e1
    have HO := hid_intro (own_low ho hB)
    clear HF e1 ho
    go_wp2
    go_ret
    have hb := heap_setCell_same w4 O 4 _ _ (.slice ao b.length c) I3.out.box
    have hg := grown_cellS w4 O 4 (.slice ao b.length c)
    exact ⟨⟨below_transS B3.out (below_oneS hg (by omega) hO), F3.out.trans (ftw_one hg)⟩, .inl ⟨{ o with key := b }, _, vv, hv, fv, HF2.out, rfl, I3.out.set (o' := { o with key := b }) hg hb HO.out I3.out.val I3.out.hi I3.out.f HB.out I3.out.bv I3.out.bh⟩⟩
set_option maxHeartbeats 4000000 in
set_option maxRecDepth 100000 in
theorem readField_val (T : List UInt8) (w : World) (hT : T.length ≤ 2000000000) {B O : Nat} {o : Opq} {kv vv hv fv : Value} (h : OpI w B O o kv vv hv fv) (hB : B ≤ w.heap.size) (hO : B ≤ O) : Calls Tryz.prog 76 #[.pointer (some ⟨O, 0, none⟩), .int .i32 86, .string (tstr T)] w fun en w' => RfP w B O (fld o 86 T) en w' := by
  have HI := hid_intro h
  have HU : Hid (∀ W, Calls Tryz.prog 93 #[.string (tstr T)] W fun en w' => UhP W T en w') := fun W => unhex_any (tstr T) W (by rw [tstr_size]; exact hT)
  have HF : Hid (fld o 86 T = (uhE T).map fun n => { o with val := n }) := rfl
  have HN : Hid (∀ W, Calls Tryz.prog 42 #[.pointer (some ⟨O, 0, none⟩), .int .i32 86] W fun en w' => en = .returned (.pointer none) ∧ w' = W) := fun W => numberAt_any O 86 W
  have HA : Hid (∀ W, Calls Tryz.prog 43 #[.pointer (some ⟨O, 0, none⟩), .int .i32 86] W fun en w' => en = .returned (.pointer (some ⟨O, 5, none⟩)) ∧ w' = W) := fun W => bytesAt_any O 86 W
  clear h hT
  generalize fld o 86 T = FT at *
  generalize tstr T = s at *
  go_enter Tryz.func76, Tryz.ntmps76
  go_wp2_with fail
  refine (HN.out _).mono ?_
  rintro en w2 ⟨rfl, rfl⟩
  go_wp2_with fail
  refine (HA.out _).mono ?_
  rintro en w3 ⟨rfl, rfl⟩
  go_wp2_with fail
  refine (HU.out _).mono ?_
  rintro en w4 ⟨hg3, hu⟩
  have I3 := hid_intro (HI.out.keptN hg3)
  have B3 := hid_intro (below_grownS hg3 hB)
  have F3 : Hid (Ftw _ w4 O) := ftw_grown hg3
  have hs3 := hg3.size
  have d0 := cell_heapS (i := 5) I3.out.box rfl
  have z0 := frozen_of_row w4 O 5 _ _ I3.out.box
  clear hg3
  rcases hu with ⟨e1, rfl⟩ | ⟨b, ao, c, e1, rfl, ho⟩
  · have HF2 : Hid (FT = .error 201) := by show _ = _; rw [HF.out]; unfold uhE; rw [e1]; rfl
    clear HF e1
    go_wp2
    go_ret
    have hg := grown_cellS w4 O 5 (.slice none 0 0)
    exact ⟨⟨below_transS B3.out (below_oneS hg (by omega) hO), F3.out.trans (ftw_one hg)⟩, .inr ⟨201, HF2.out, by decide, rfl⟩⟩
  · have HF2 : Hid (FT = .ok { o with val := b }) := by show _ = _; rw [HF.out]; unfold uhE; rw [e1]; rfl
    have HB : Hid (Bt b) := uh_bt e1
    have HO := hid_intro (own_low ho hB)
    clear HF e1 ho
    go_wp2
    go_ret
    have hb := heap_setCell_same w4 O 5 _ _ (.slice ao b.length c) I3.out.box
    have hg := grown_cellS w4 O 5 (.slice ao b.length c)
    exact ⟨⟨below_transS B3.out (below_oneS hg (by omega) hO), F3.out.trans (ftw_one hg)⟩, .inl ⟨{ o with val := b }, kv, _, hv, fv, HF2.out, rfl, I3.out.set (o' := { o with val := b }) hg hb I3.out.key HO.out I3.out.hi I3.out.f I3.out.bk HB.out I3.out.bh⟩⟩
set_option maxHeartbeats 4000000 in
set_option maxRecDepth 100000 in
theorem readField_hi (T : List UInt8) (w : World) (hT : T.length ≤ 2000000000) {B O : Nat} {o : Opq} {kv vv hv fv : Value} (h : OpI w B O o kv vv hv fv) (hB : B ≤ w.heap.size) (hO : B ≤ O) : Calls Tryz.prog 76 #[.pointer (some ⟨O, 0, none⟩), .int .i32 72, .string (tstr T)] w fun en w' => RfP w B O (fld o 72 T) en w' := by
  have HI := hid_intro h
  have HU : Hid (∀ W, Calls Tryz.prog 93 #[.string (tstr T)] W fun en w' => UhP W T en w') := fun W => unhex_any (tstr T) W (by rw [tstr_size]; exact hT)
  have HF : Hid (fld o 72 T = (uhE T).map fun n => { o with hi := n }) := rfl
  have HN : Hid (∀ W, Calls Tryz.prog 42 #[.pointer (some ⟨O, 0, none⟩), .int .i32 72] W fun en w' => en = .returned (.pointer none) ∧ w' = W) := fun W => numberAt_any O 72 W
  have HA : Hid (∀ W, Calls Tryz.prog 43 #[.pointer (some ⟨O, 0, none⟩), .int .i32 72] W fun en w' => en = .returned (.pointer (some ⟨O, 6, none⟩)) ∧ w' = W) := fun W => bytesAt_any O 72 W
  clear h hT
  generalize fld o 72 T = FT at *
  generalize tstr T = s at *
  go_enter Tryz.func76, Tryz.ntmps76
  go_wp2_with fail
  refine (HN.out _).mono ?_
  rintro en w2 ⟨rfl, rfl⟩
  go_wp2_with fail
  refine (HA.out _).mono ?_
  rintro en w3 ⟨rfl, rfl⟩
  go_wp2_with fail
  refine (HU.out _).mono ?_
  rintro en w4 ⟨hg3, hu⟩
  have I3 := hid_intro (HI.out.keptN hg3)
  have B3 := hid_intro (below_grownS hg3 hB)
  have F3 : Hid (Ftw _ w4 O) := ftw_grown hg3
  have hs3 := hg3.size
  have d0 := cell_heapS (i := 6) I3.out.box rfl
  have z0 := frozen_of_row w4 O 6 _ _ I3.out.box
  clear hg3
  rcases hu with ⟨e1, rfl⟩ | ⟨b, ao, c, e1, rfl, ho⟩
  · have HF2 : Hid (FT = .error 201) := by show _ = _; rw [HF.out]; unfold uhE; rw [e1]; rfl
    clear HF e1
    go_wp2
    go_ret
    have hg := grown_cellS w4 O 6 (.slice none 0 0)
    exact ⟨⟨below_transS B3.out (below_oneS hg (by omega) hO), F3.out.trans (ftw_one hg)⟩, .inr ⟨201, HF2.out, by decide, rfl⟩⟩
  · have HF2 : Hid (FT = .ok { o with hi := b }) := by show _ = _; rw [HF.out]; unfold uhE; rw [e1]; rfl
    have HB : Hid (Bt b) := uh_bt e1
    have HO := hid_intro (own_low ho hB)
    clear HF e1 ho
    go_wp2
    go_ret
    have hb := heap_setCell_same w4 O 6 _ _ (.slice ao b.length c) I3.out.box
    have hg := grown_cellS w4 O 6 (.slice ao b.length c)
    exact ⟨⟨below_transS B3.out (below_oneS hg (by omega) hO), F3.out.trans (ftw_one hg)⟩, .inl ⟨{ o with hi := b }, kv, vv, _, fv, HF2.out, rfl, I3.out.set (o' := { o with hi := b }) hg hb I3.out.key I3.out.val HO.out I3.out.f I3.out.bk I3.out.bv HB.out⟩⟩
theorem info_fateS : (Tryz.prog.info? 43).map (fun i => (i.zero, i.size, i.bytes)) = some (some (.agg #[.int .i64 0, .int .i64 0]), 2, 16) := by kernel_rfl
set_option maxHeartbeats 8000000 in
set_option maxRecDepth 100000 in
theorem readField_f (T : List UInt8) (w : World) (hL : Lv w) (hT : T.length ≤ 2000000000) {B O : Nat} {o : Opq} {kv vv hv fv : Value} (h : OpI w B O o kv vv hv fv) (hB : B ≤ w.heap.size) (hO : B ≤ O) (hn : o.f.length ≤ 2000000000) : Calls Tryz.prog 76 #[.pointer (some ⟨O, 0, none⟩), .int .i32 70, .string (tstr T)] w fun en w' => RfP w B O (fld o 70 T) en w' := by
  obtain ⟨ip, hip, hp0, hp1, hp2⟩ := info_parts info_fateS
  have HI := hid_intro h
  have HL : Hid (Lv w) := hL
  have HU := hid_intro (fun W hW => readFate_any T W hW hT)
  have HF : Hid (fld o 70 T = (fte T).map fun n => { o with f := o.f ++ [n] }) := rfl
  have HN : Hid (∀ W, Calls Tryz.prog 42 #[.pointer (some ⟨O, 0, none⟩), .int .i32 70] W fun en w' => en = .returned (.pointer none) ∧ w' = W) := fun W => numberAt_any O 70 W
  have HA : Hid (∀ W, Calls Tryz.prog 43 #[.pointer (some ⟨O, 0, none⟩), .int .i32 70] W fun en w' => en = .returned (.pointer none) ∧ w' = W) := fun W => bytesAt_any O 70 W
  clear h hT hL
  generalize fld o 70 T = FT at *
  generalize fte T = FE at *
  generalize tstr T = s at *
  go_enter Tryz.func76, Tryz.ntmps76
  go_wp2_with fail
  refine (HN.out _).mono ?_
  rintro en w2 ⟨rfl, rfl⟩
  go_wp2_with fail
  refine (HA.out _).mono ?_
  rintro en w3 ⟨rfl, rfl⟩
  go_wp2_with fail
  refine (HU.out _ HL.out).mono ?_
  rintro en w4 ⟨hg3, hu⟩
  obtain ⟨k, a, er, he, hr⟩ : ∃ k a er, en = .returned (.tuple #[.agg #[.int .i64 k, .int .i64 a], .int .i64 er]) ∧ ((FT = .ok { o with f := o.f ++ [(k, a)] } ∧ er = 0) ∨ (FT = .error er ∧ er ≠ 0)) := by
    rcases hu with ⟨k, a, e1, e2⟩ | ⟨e, e1, e2, e3⟩
    · exact ⟨k, a, 0, e2, .inl ⟨by rw [HF.out, e1]; rfl, rfl⟩⟩
    · exact ⟨0, 0, e, e3, .inr ⟨by rw [HF.out, e1]; rfl, e2⟩⟩
  subst he
  have HR := hid_intro hr
  have I3 := hid_intro (HI.out.keptN hg3)
  have B3 := hid_intro (below_grownS hg3 hB)
  have F3 : Hid (Ftw _ w4 O) := ftw_grown hg3
  have hs3 := hg3.size
  clear hg3 hu hr HF HI HL HU HN HA
  obtain ⟨fo, fc, hfv⟩ := own_shape20 I3.out.f
  subst hfv
  obtain ⟨m, hm⟩ : ∃ m, o.f.length = m := ⟨_, rfl⟩
  rw [hm] at hn
  have HM := hid_intro hm
  clear hm
  have ga := World.grownBy_alloc w4 (.cells #[.int .i64 k, .int .i64 a] 43) none
  have I4 := hid_intro (I3.out.keptN ga)
  have xb := heap_at0S w4 #[.int .i64 k, .int .i64 a] 43
  have xb0 := cell_heapS (i := 0) xb rfl
  have xb1 := cell_heapS (i := 1) xb rfl
  have hs4 : (w4.alloc (.cells #[.int .i64 k, .int .i64 a] 43)).heap.size = w4.heap.size + 1 := by simp
  have B4 := hid_intro (below_transS B3.out (below_grownS ga (by omega)))
  have F4 : Hid (Ftw w3 _ O) := F3.out.trans (ftw_grown ga)
  have hB5 : B ≤ (w4.alloc (.cells #[.int .i64 k, .int .i64 a] 43)).heap.size := by omega
  clear hs4
  go_upto_region 10 with fail
  generalize w4.alloc (.cells #[.int .i64 k, .int .i64 a] 43) = w5 at *
  have d7 : w5.cell? ⟨O, 7, none⟩ = some (.slice fo m fc) := by rw [← HM.out]; exact cell_heapS (i := 7) I4.out.box rfl
  have hOl : O < w5.heap.size := (Array.getElem?_eq_some_iff.1 I4.out.box).1
  have HAP : Hid (∀ W : World, W.heap = w5.heap → (W.alloc (.cells #[.int .i64 k, .int .i64 a] 43)).ownsRow B 43 2 (.slice fo m fc) m (fcl o.f)) := fun W hW => by
    have := I4.out.f
    rw [HM.out] at this
    exact (own_same20 this hW).alloc _
  have HZ : Hid (∀ (v8 : Value) (w8 : World), w8.ownsRow B 43 2 v8 (m + 1) (fcl o.f ++ [.int .i64 k, .int .i64 a]) → (w5.alloc (.cells #[.int .i64 k, .int .i64 a] 43)).grownBy w8 (Value.slice fo m fc).ownBlock → w8.cell? ⟨O, 7, none⟩ = some (.slice fo m fc) ∧ w8.frozen? ⟨O, 7, none⟩ = false ∧ (Below B w3 (w8.setCell ⟨O, 7, none⟩ v8) ∧ Ftw w3 (w8.setCell ⟨O, 7, none⟩ v8) O) ∧ OpI (w8.setCell ⟨O, 7, none⟩ v8) B O { o with f := o.f ++ [(k, a)] } kv vv hv v8) := fun v8 w8 ho hg => by
    have gb := World.grownBy_alloc w5 (.cells #[.int .i64 k, .int .i64 a] 43) none
    have I5 := I4.out.keptN gb
    have f5 := I5.f
    rw [HM.out] at f5
    have bx : w8.heap[O]? = some (.cells #[.int .i64 o.k, .int .i64 o.a, .int .i64 o.b, .int .i64 o.c, kv, vv, hv, .slice fo o.f.length fc] 35 (0, 0)) := by
      rw [hg.block O (by simp; omega) (fun e => ?_)]
      · exact I5.box
      · rcases own_neB f5 I5.box (by decide) with h | h
        · rw [h] at e; cases e
        · exact h e.symm
    have hb := heap_setCell_same w8 O 7 _ _ v8 bx
    have hg2 := grown_cellS w8 O 7 v8
    have k8 := I5.key.kept hg (own_neD I5.key f5 (by decide))
    have v8' := I5.val.kept hg (own_neD I5.val f5 (by decide))
    have h8 := I5.hi.kept hg (own_neD I5.hi f5 (by decide))
    refine ⟨?_, frozen_of_row w8 O 7 _ _ bx, ?_, hb, OpI.own k8 bx (by decide) hg2, OpI.own v8' bx (by decide) hg2, OpI.own h8 bx (by decide) hg2, ?_, I5.bk, I5.bv, I5.bh⟩
    · rw [← HM.out]; exact cell_heapS (i := 7) bx rfl
    · have e1 := below_transS B4.out (below_grownS gb (by omega))
      have e2 := below_transS e1 (below_ownS hg f5 (by simp; omega))
      have := e2.size
      exact ⟨below_transS e2 (below_oneS hg2 (by omega) hO), ((F4.out.trans (ftw_grown gb)).trans (ftw_own hg f5)).trans (ftw_one hg2)⟩
    · refine OpI.own ?_ bx (by decide) hg2
      show w8.ownsRow B 43 2 v8 (o.f ++ [(k, a)]).length (fcl (o.f ++ [(k, a)]))
      rw [fcl_app, List.length_append, HM.out]
      exact ho
  clear I3 B3 F3 ga xb hs3
  go_region_law (refine step_append20 rfl (.tmp 45) (.tmp 47) 33 (by rfl) B 43 ip (.agg #[.int .i64 0, .int .i64 0]) 2 16 Tryz.underlying33 hip hp0 hp1 hp2 rfl (by decide) (.slice fo m fc) m (fcl o.f) (by rfl) (by exact HAP.out _ rfl) ⟨w5.heap.size, 0, none⟩ 1 1 [.int .i64 k, .int .i64 a] (by rfl) rfl (by exact cell_two20 _ _ _ _) (by intro u hu; simp at hu; rcases hu with rfl | rfl <;> rfl) (by unfold maxLen; omega) (by omega) (by simp; omega) ?_; intro v8 w8 ho8 hg8; have Z8 := HZ.out v8 w8 ho8 (grown_undrew hg8); obtain ⟨va, vc, hv8⟩ := own_shape20 ho8; subst hv8; have c8 := Z8.1; have f8 := Z8.2.1; have ZZ := hid_intro Z8; clear ho8 hg8 Z8)
  all_goals
    go_wp2
    go_ret
    rcases HR.out with ⟨e1, e2⟩ | ⟨e1, e2⟩
    · subst e2
      exact ⟨ZZ.out.2.2.1, .inl ⟨_, _, _, _, _, e1, rfl, ZZ.out.2.2.2⟩⟩
    · exact ⟨ZZ.out.2.2.1, .inr ⟨er, e1, e2, rfl⟩⟩
theorem readField_any (c : UInt8) (hc : c ∈ [65, 66, 67, 75, 86, 72, 70]) (T : List UInt8) (w : World) (hL : Lv w) (hT : T.length ≤ 2000000000) {B O : Nat} {o : Opq} {kv vv hv fv : Value} (h : OpI w B O o kv vv hv fv) (hB : B ≤ w.heap.size) (hO : B ≤ O) (hn : o.f.length ≤ 2000000000) : Calls Tryz.prog 76 #[.pointer (some ⟨O, 0, none⟩), .int .i32 (c.toNat : Nat), .string (tstr T)] w fun en w' => RfP w B O (fld o c T) en w' := by
  simp only [List.mem_cons, List.not_mem_nil, or_false] at hc
  rcases hc with rfl | rfl | rfl | rfl | rfl | rfl | rfl
  · exact readField_a T w hL hT h hB hO
  · exact readField_b T w hL hT h hB hO
  · exact readField_c T w hL hT h hB hO
  · exact readField_key T w hT h hB hO
  · exact readField_val T w hT h hB hO
  · exact readField_hi T w hT h hB hO
  · exact readField_f T w hL hT h hB hO hn
theorem fld_len {o o' : Opq} {c : UInt8} {T : List UInt8} (h : fld o c T = .ok o') : o'.f.length ≤ o.f.length + 1 := by
  unfold fld at h
  split at h
  · cases e : nmE T <;> rw [e] at h <;> cases h <;> simp
  split at h
  · cases e : nmE T <;> rw [e] at h <;> cases h <;> simp
  split at h
  · cases e : nmE T <;> rw [e] at h <;> cases h <;> simp
  split at h
  · cases e : uhE T <;> rw [e] at h <;> cases h <;> simp
  split at h
  · cases e : uhE T <;> rw [e] at h <;> cases h <;> simp
  split at h
  · cases e : uhE T <;> rw [e] at h <;> cases h <;> simp
  · cases e : fte T <;> rw [e] at h <;> cases h <;> simp
end Go.Proofs.YtcjgmiilfjjbcaaGreatDoor
