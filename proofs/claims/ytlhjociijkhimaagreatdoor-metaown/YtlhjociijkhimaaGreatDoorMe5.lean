import Derived.Test.YtlhjociijkhimaaGreatDoorMe4
namespace Go.Proofs.YtlhjociijkhimaaGreatDoor
open Go.RowKit

theorem wpList_on {P : Program} {w : World} {ops : Array Oper} {rest : List Oper} {o : Oper} {a : Act} {Q : Exit → Act → World → Prop} (hw : Region.wanted o (yielded ops a.tmps) = true)
    (h : ∀ K : Act → World → Prop, (∀ a w, wpList P ops Q rest a w → K a w) → o.wp P a w K Q) : wpList P ops Q (o :: rest) a w :=
  wpList_step fun K hK => by rw [if_pos hw]; exact h K hK
theorem wpList_load_on {t : TypeId} {N : Nat} (ha : Arr t N) {w : World} {ops : Array Oper} {rest : List Oper} {o : Oper} {a : Act} {Q : Exit → Act → World → Prop} (hw : Region.wanted o (yielded ops a.tmps) = true) (p : Operand) (ho : o.op = .load t p) (g : Nat) (zs : List Int) (hp : a.eval p = .pointer (some ⟨g, 0, none⟩)) (hr : Rt w g t zs) (hl : zs.length = N)
    (h : wpList Tryz.prog ops Q rest (a.put o.dst (agB zs)) w) : wpList Tryz.prog ops Q (o :: rest) a w := by
  refine wpList_on hw fun K hK => ?_
  unfold Oper.wp
  have hv := run_loadVar_row (P := Tryz.prog) w g t t _ (0, 0) _ hr ha.und rfl (by rw [ha.size]; simp [hl])
  have hr : (execOp a.eval o).run Tryz.prog w = .ok (.value (agB zs)) w := by
    simp [execOp, ho, hp, Instr.loadAt, Instr.sureAddr, hv, agB, Result.andThen]
  rw [hr, Oper.upon_value]
  exact hK _ _ h
theorem wpList_build_on {t : TypeId} {N : Nat} (ha : Arr t N) {w : World} {ops : Array Oper} {rest : List Oper} {o : Oper} {a : Act} {Q : Exit → Act → World → Prop} (hw : Region.wanted o (yielded ops a.tmps) = true) (ho : o.op = .build t #[]) (Z : List Int) (hZ : Z = List.replicate N 0)
    (h : wpList Tryz.prog ops Q rest (a.put o.dst (agB Z)) w) : wpList Tryz.prog ops Q (o :: rest) a w := by
  obtain ⟨i, z, h1, h2, h3⟩ := ha.parts
  obtain ⟨i8, h8⟩ := info_u8_is
  refine wpList_on hw fun K hK => ?_
  unfold Oper.wp
  have hr : (execOp a.eval o).run Tryz.prog w = .ok (.value (agB Z)) w := by
    simp [execOp, ho, Instr.build, zeroValue, typeInfo, h1, h2, h3, run_underlying ha.und, sizeOf, h8, Instr.fill, hZ, agB]
  rw [hr, Oper.upon_value]
  exact hK _ _ h

/-- What Decode holds on to. -/
structure Dc (w w' : World) (U F S E G R : Nat) (zs : List Int) (p : Nat) (fs ss es : List Int) : Prop where
  u : Hx w' U 0 0 0 0 0 0 0
  f : Rt w' F 53 fs
  s : Rt w' S 58 ss
  e : Rt w' E 54 es
  rd : Rd w' R G zs p 0
  gr : w.grownBy w' none
  lt : w.heap.size ≤ U ∧ U < F ∧ F < S ∧ S < E ∧ E < G ∧ G < R
theorem Dc.call {w w' w'' : World} {U F S E G R : Nat} {zs : List Int} {p p' : Nat} {fs ss es : List Int} (h : Dc w w' U F S E G R zs p fs ss es) (hr : Rd w'' R G zs p' 0) (hg : w'.grownBy w'' (some R)) : Dc w w'' U F S E G R zs p' fs ss es := by
  have := h.lt
  exact ⟨h.u.kept hg (fun e => by have := Option.some.inj e; omega), h.f.kept hg (fun e => by have := Option.some.inj e; omega), h.s.kept hg (fun e => by have := Option.some.inj e; omega), h.e.kept hg (fun e => by have := Option.some.inj e; omega), hr, grown_new h.gr hg (by omega), h.lt⟩
theorem Dc.quiet {w w' w'' : World} {U F S E G R : Nat} {zs : List Int} {p : Nat} {fs ss es : List Int} (h : Dc w w' U F S E G R zs p fs ss es) (hg : w'.grownBy w'' none) : Dc w w'' U F S E G R zs p fs ss es :=
  ⟨h.u.keptN hg, h.f.keptN hg, h.s.keptN hg, h.e.keptN hg, h.rd.kept hg (by simp) (by simp), grown_trans h.gr hg, h.lt⟩
theorem Dc.drew {w w' : World} {U F S E G R : Nat} {zs : List Int} {p : Nat} {fs ss es : List Int} (h : Dc w w' U F S E G R zs p fs ss es) : Dc w w'.drew U F S E G R zs p fs ss es := h.quiet ((Qt.refl w').drew.grown none)
theorem Dc.setF {w w' w'' : World} {U F S E G R : Nat} {zs : List Int} {p : Nat} {fs fs' ss es : List Int} (h : Dc w w' U F S E G R zs p fs ss es) (hf : Rt w'' F 53 fs') (hg : w'.grownBy w'' (some F)) : Dc w w'' U F S E G R zs p fs' ss es := by
  have := h.lt
  exact ⟨h.u.kept hg (fun e => by have := Option.some.inj e; omega), hf, h.s.kept hg (fun e => by have := Option.some.inj e; omega), h.e.kept hg (fun e => by have := Option.some.inj e; omega), h.rd.kept hg (fun e => by have := Option.some.inj e; omega) (fun e => by have := Option.some.inj e; omega), grown_new h.gr hg (by omega), h.lt⟩
theorem Dc.setS {w w' w'' : World} {U F S E G R : Nat} {zs : List Int} {p : Nat} {fs ss ss' es : List Int} (h : Dc w w' U F S E G R zs p fs ss es) (hf : Rt w'' S 58 ss') (hg : w'.grownBy w'' (some S)) : Dc w w'' U F S E G R zs p fs ss' es := by
  have := h.lt
  exact ⟨h.u.kept hg (fun e => by have := Option.some.inj e; omega), h.f.kept hg (fun e => by have := Option.some.inj e; omega), hf, h.e.kept hg (fun e => by have := Option.some.inj e; omega), h.rd.kept hg (fun e => by have := Option.some.inj e; omega) (fun e => by have := Option.some.inj e; omega), grown_new h.gr hg (by omega), h.lt⟩
theorem Dc.setE {w w' w'' : World} {U F S E G R : Nat} {zs : List Int} {p : Nat} {fs ss es es' : List Int} (h : Dc w w' U F S E G R zs p fs ss es) (hf : Rt w'' E 54 es') (hg : w'.grownBy w'' (some E)) : Dc w w'' U F S E G R zs p fs ss es' := by
  have := h.lt
  exact ⟨h.u.kept hg (fun e => by have := Option.some.inj e; omega), h.f.kept hg (fun e => by have := Option.some.inj e; omega), h.s.kept hg (fun e => by have := Option.some.inj e; omega), hf, h.rd.kept hg (fun e => by have := Option.some.inj e; omega) (fun e => by have := Option.some.inj e; omega), grown_new h.gr hg (by omega), h.lt⟩

theorem splice_all {cs zs : List Int} (h : zs.length = cs.length) : splice cs 0 zs = zs := by
  unfold splice
  rw [List.take_zero, List.nil_append, Nat.zero_add, h, List.drop_length, List.append_nil]

set_option maxHeartbeats 1000000 in
set_option maxRecDepth 100000 in
theorem decode_short (ao : Option Addr) (n cap : Nat) (w : World) (h : n ≠ 4092) :
    Calls Tryz.prog 8 #[.slice ao n cap] w fun en w' => en = .returned (.tuple #[.agg #[.int .i64 0, .int .i64 0, .int .i64 0, .int .i64 0, .int .i64 0, .int .i64 0, .int .i64 0], .int .i64 70]) ∧ w.grownBy w' none := by
  have h' : ¬ (n : Int) = 4092 := by omega
  go_enter Tryz.func8, Tryz.ntmps8
  go_wp2
  refine bodyPost_ret (ret_head_tmp rfl _ _ w.heap.size 0 0 0 0 0 0 0 rfl (Hx.new w 0 0 0 0 0 0 0)) rfl ?_
  exact ⟨rfl, World.grownBy_alloc w _ none⟩

set_option maxHeartbeats 4000000 in
set_option maxRecDepth 100000 in
theorem decode_full (ao : Option Addr) (cap : Nat) (zs : List Int) (w : World) (hb : Byt w ao 4092 cap zs) (hbt : Bt zs) (hk : Mk w) :
    Calls Tryz.prog 8 #[.slice ao 4092 cap] w fun en w' => en = .returned (.tuple #[.agg #[.int .i64 (aH zs).v, .int .i64 (aH zs).c, .int .i64 (aH zs).r, .int .i64 (aH zs).h, .int .i64 (aH zs).k, .int .i64 (aH zs).f, .int .i64 (aH zs).n], .int .i64 (aE zs)]) ∧ w.grownBy w' none := by
  have hl := hb.len
  have HB := hid_intro hb
  have HK := hid_intro hk
  have HIF := hid_intro (dM_iff hl hbt)
  obtain ⟨⟨v, c, r, t, k, f, n⟩, hH⟩ : ∃ H, H = rH zs := ⟨_, rfl⟩
  have HH := hid_intro hH
  clear hH
  have HLF : Hid (((zs.drop 1).take 3).length = 3) := by show _ = _; rw [List.length_take, List.length_drop, hl]; rfl
  have HLS : Hid (((zs.drop 37).take 4051).length = 4051) := by show _ = _; rw [List.length_take, List.length_drop, hl]; rfl
  have HLE : Hid (((zs.drop 4088).take 4).length = 4) := by show _ = _; rw [List.length_take, List.length_drop, hl]; rfl
  clear hb hk
  obtain ⟨Z, hZ⟩ : ∃ Z : List Int, Z = List.replicate 4051 0 := ⟨_, rfl⟩
  have hZl : Z.length = 4051 := by rw [hZ, List.length_replicate]
  have HZ := hid_intro hZ
  clear hZ
  go_enter Tryz.func8, Tryz.ntmps8
  go_upto_region 4 with fail
  have U1 := hid_intro ((Hx.new w 0 0 0 0 0 0 0).keptN (World.grownBy_alloc (w.alloc (.cells #[.int .i64 0, .int .i64 0, .int .i64 0, .int .i64 0, .int .i64 0, .int .i64 0, .int .i64 0] 23)) (.cells #[.int .u8 0, .int .u8 0, .int .u8 0] 53) none))
  have F1 : Hid (Rt ((w.alloc (.cells #[.int .i64 0, .int .i64 0, .int .i64 0, .int .i64 0, .int .i64 0, .int .i64 0, .int .i64 0] 23)).alloc (.cells #[.int .u8 0, .int .u8 0, .int .u8 0] 53)) (w.heap.size + 1) 53 [0, 0, 0]) := heap_alloc2_new w _ _
  have G1 := hid_intro (grown_two w (.cells #[.int .i64 0, .int .i64 0, .int .i64 0, .int .i64 0, .int .i64 0, .int .i64 0, .int .i64 0] 23) (.cells #[.int .u8 0, .int .u8 0, .int .u8 0] 53))
  generalize (w.alloc (.cells #[.int .i64 0, .int .i64 0, .int .i64 0, .int .i64 0, .int .i64 0, .int .i64 0, .int .i64 0] 23)).alloc (.cells #[.int .u8 0, .int .u8 0, .int .u8 0] 53) = w1 at *
  go_wp2_with (refine wpList_alloc_arr arrS_is rfl rfl Z HZ.out ?_)
  intro w2 hr2 hg2 hs2
  have U2 := hid_intro (U1.out.keptN hg2)
  have F2 := hid_intro (F1.out.keptN hg2)
  have S2 := hid_intro hr2
  have G2 := hid_intro (grown_trans G1.out hg2)
  have L2 := hid_intro F1.out.lt
  clear hr2 hg2 hs2 U1 F1 G1
  go_upto_region 6 with fail
  have g3 := World.grownBy_alloc w2 (.cells #[.int .u8 0, .int .u8 0, .int .u8 0, .int .u8 0] 54) none
  have E3 : Hid (Rt (w2.alloc (.cells #[.int .u8 0, .int .u8 0, .int .u8 0, .int .u8 0] 54)) w2.heap.size 54 [0, 0, 0, 0]) := heap_alloc_new w2 _
  have U3 := hid_intro (U2.out.keptN g3)
  have F3 := hid_intro (F2.out.keptN g3)
  have S3 := hid_intro (S2.out.keptN g3)
  have G3 := hid_intro (grown_trans G2.out g3)
  have L3 := hid_intro S2.out.lt
  clear g3 U2 F2 S2 G2
  generalize w2.alloc (.cells #[.int .u8 0, .int .u8 0, .int .u8 0, .int .u8 0] 54) = w3 at *
  go_wp2_with fail
  refine (newReader_any ao 4092 cap zs _ (HB.out.keptN G3.out) (by omega)).mono ?_
  rintro en w4 ⟨R, rfl, hr4, hg4, hs4⟩
  have D4 : Hid (Dc w w4 w.heap.size (w.heap.size + 1) w1.heap.size w2.heap.size w3.heap.size R zs 0 [0, 0, 0] Z [0, 0, 0, 0]) :=
    ⟨U3.out.keptN hg4, F3.out.keptN hg4, S3.out.keptN hg4, E3.out.keptN hg4, hr4, grown_trans G3.out hg4, ⟨Nat.le_refl _, by omega, L2.out, L3.out, E3.out.lt, hs4⟩⟩
  clear hr4 hg4 hs4 U3 F3 S3 E3 G3 L2 L3 HB
  obtain ⟨U, hU⟩ : ∃ U, U = w.heap.size := ⟨_, rfl⟩
  obtain ⟨F, hF⟩ : ∃ F, F = w.heap.size + 1 := ⟨_, rfl⟩
  rw [← hF, ← hU] at D4 ⊢
  clear hU hF
  generalize w1.heap.size = S at *
  generalize w2.heap.size = E at *
  generalize w3.heap.size = G at *
  clear w1 w2 w3
  go_wp2_with fail
  refine (get_u8_ok R G zs 0 _ D4.out.rd hbt (by omega)).mono ?_
  obtain ⟨kd, hkd⟩ : ∃ kd, kd = le 1 (zs.drop 0) := ⟨_, rfl⟩
  rw [← hkd]
  have HKD := hid_intro hkd
  clear hkd
  rintro en w5 ⟨rfl, hr5, hg5⟩
  have D5 := hid_intro (D4.out.call hr5 hg5)
  clear hr5 hg5 D4
  go_upto_region 8 with fail
  go_region_law
    (first
      | (have zz := D6; refine step_copy_rt rfl (.tmp 18) (.tmp 20) (by rfl) _ _ _ _ _ _ (by rfl) (by rfl) F 0 53 [0, 0, 0] ((zs.drop 1).take 3) (by exact D6.f) (by exact hb6) (by omega) (fun _ => by rfl) (by decide) ?_; intro w7 hr7 hg7 hs7)
      | (go_simp; go_at_call 19; refine (bytes_ok R G zs 1 3 _ (by exact D5.out.drew.rd) (by omega)).mono ?_; rintro en w6 ⟨ao6, rfl, hx6, hb6, hr6, hg6⟩; clear hx6; have D6 := D5.out.drew.call hr6 hg6))
  all_goals
    rw [splice_all (by rw [HLF.out]; rfl)] at hr7
    have D7 := hid_intro (D6.setF hr7 hg7)
    clear hr7 hg7 hs7 D6 D5 hb6 hr6 hg6
    go_upto_region 9 with fail
    go_wp2_with fail
    refine (readHead_any R G zs _ D7.out.rd hbt hl D7.out.rd.lt).mono ?_
    rw [← HH.out]
    rintro en w8 ⟨rfl, hr8, hg8⟩
    have D8 := hid_intro (D7.out.call hr8 hg8)
    clear hr8 hg8 D7
    go_upto_region 10 with fail
    have g9 := World.grownBy_alloc w8 (.cells #[.int .i64 v, .int .i64 c, .int .i64 r, .int .i64 t, .int .i64 k, .int .i64 f, .int .i64 n] 23) none
    have T9 := hid_intro (Hx.new w8 v c r t k f n)
    have D9 := hid_intro (D8.out.quiet g9)
    have HTR := hid_intro D8.out.rd.lt.1
    clear g9 D8
    generalize w8.alloc (.cells #[.int .i64 v, .int .i64 c, .int .i64 r, .int .i64 t, .int .i64 k, .int .i64 f, .int .i64 n] 23) = w9 at *
    generalize w8.heap.size = T at *
    go_region_law
      (first
        | (have zz := D10; refine step_copy_rt rfl (.tmp 24) (.tmp 26) (by rfl) _ _ _ _ _ _ (by rfl) (by rfl) S 0 58 Z ((zs.drop 37).take 4051) (by exact D10.s) (by exact hb10) (by omega) (fun _ => by rfl) (by omega) ?_; intro w11 hr11 hg11 hs11)
        | (go_simp; go_at_call 19; refine (bytes_ok R G zs 37 4051 _ (by exact D9.out.drew.rd) (by omega)).mono ?_; rintro en w10 ⟨ao10, rfl, hx10, hb10, hr10, hg10⟩; clear hx10; have D10 := D9.out.drew.call hr10 hg10; have T10 := T9.out.kept (grown_trans ((Qt.refl w9).drew.grown (some R)) hg10) (fun e => by have := Option.some.inj e; have := HTR.out; omega)))
    all_goals
      rw [splice_all (by rw [HLS.out, hZl])] at hr11
      have D11 := hid_intro (D10.setS hr11 hg11)
      have T11 := hid_intro (T10.kept hg11 (fun e => by have := Option.some.inj e; have := HTR.out; have := D10.lt; omega))
      clear hr11 hg11 hs11 D10 T10 D9 T9 hb10 hr10 hg10
      go_upto_region 11 with fail
      go_region_law
        (first
          | (have zz := D12; refine step_copy_rt rfl (.tmp 28) (.tmp 30) (by rfl) _ _ _ _ _ _ (by rfl) (by rfl) E 0 54 [0, 0, 0, 0] ((zs.drop 4088).take 4) (by exact D12.e) (by exact hb12) (by omega) (fun _ => by rfl) (by decide) ?_; intro w13 hr13 hg13 hs13)
          | (go_simp; go_at_call 19; refine (bytes_ok R G zs 4088 4 _ (by exact D11.out.drew.rd) (by omega)).mono ?_; rintro en w12 ⟨ao12, rfl, hx12, hb12, hr12, hg12⟩; clear hx12; have D12 := D11.out.drew.call hr12 hg12; have T12 := T11.out.kept (grown_trans ((Qt.refl w11).drew.grown (some R)) hg12) (fun e => by have := Option.some.inj e; have := HTR.out; omega)))
      all_goals
        rw [splice_all (by rw [HLE.out]; rfl)] at hr13
        have D13 := hid_intro (D12.setE hr13 hg13)
        have T13 := hid_intro (T12.kept hg13 (fun e => by have := Option.some.inj e; have := HTR.out; have := D12.lt; omega))
        clear hr13 hg13 hs13 D12 T12 D11 T11 hb12 hr12 hg12
        go_upto_region 12 with fail
        obtain ⟨a0, a1, a2, b0, b1, b2, b3⟩ := HK.out.keptN D13.out.gr
        by_cases k5 : kd = 5
        · subst k5
          have HK5 : Hid (zs.take 1 = [5]) := by
            have h1 := lb_le 1 (zs.drop 0) (hbt.drop 0) (by rw [List.length_drop]; omega)
            rw [← HKD.out, List.drop_zero] at h1
            exact h1.symm
          have hgF : ∀ (x y : Operand) (W : World), (eqGuard .neq 53 x y (agB ((zs.drop 1).take 3)) (.agg #[.int .u8 99, .int .u8 111, .int .u8 112])).run Tryz.prog W = .ok () W := fun x y W => guard_arr arrM_is x y _ [99, 111, 112] W
          have hgS : ∀ (x y : Operand) (W : World), (eqGuard .neq 58 x y (agB ((zs.drop 37).take 4051)) (agB Z)).run Tryz.prog W = .ok () W := fun x y W => guard_arr arrS_is x y _ _ W
          have hgE : ∀ (x y : Operand) (W : World), (eqGuard .neq 54 x y (agB ((zs.drop 4088).take 4)) (.agg #[.int .u8 101, .int .u8 110, .int .u8 100, .int .u8 46])).run Tryz.prog W = .ok () W := fun x y W => guard_arr arrE_is x y _ [101, 110, 100, 46] W
          have hnF := fun W => neq_arr arrM_is ((zs.drop 1).take 3) [99, 111, 112] W HLF.out rfl
          have hnS := fun W => neq_arr arrS_is ((zs.drop 37).take 4051) Z W HLS.out hZl
          have hnE := fun W => neq_arr arrE_is ((zs.drop 4088).take 4) [101, 110, 100, 46] W HLE.out rfl
          by_cases f5 : (zs.drop 1).take 3 = [99, 111, 112]
          · have hqF : ∀ W : World, (binOp .neq 53 (agB ((zs.drop 1).take 3)) (.agg #[.int .u8 99, .int .u8 111, .int .u8 112])).run Tryz.prog W = .ok (.bool false) W := fun W => (hnF W).trans (by rw [decide_eq_true f5]; rfl)
            have HF5 := hid_intro f5
            by_cases s5 : (zs.drop 37).take 4051 = Z
            · have hqS : ∀ W : World, (binOp .neq 58 (agB ((zs.drop 37).take 4051)) (agB Z)).run Tryz.prog W = .ok (.bool false) W := fun W => (hnS W).trans (by rw [decide_eq_true s5]; rfl)
              have HS5 := hid_intro s5
              by_cases e5 : (zs.drop 4088).take 4 = [101, 110, 100, 46]
              · have hqE : ∀ W : World, (binOp .neq 54 (agB ((zs.drop 4088).take 4)) (.agg #[.int .u8 101, .int .u8 110, .int .u8 100, .int .u8 46])).run Tryz.prog W = .ok (.bool false) W := fun W => (hnE W).trans (by rw [decide_eq_true e5]; rfl)
                have HE5 := hid_intro e5
                clear f5 s5 e5 hnF hnS hnE
                generalize (zs.drop 1).take 3 = fs at *
                generalize (zs.drop 37).take 4051 = ss at *
                generalize (zs.drop 4088).take 4 = es at *
                obtain ⟨t0, t1, t2, t3, t4, t5, t6⟩ := T13.out.cells
                go_wp2_with (first | (refine wpList_load_on arrM_is (by rfl) _ rfl F _ rfl D13.out.f HLF.out ?_) | (refine wpList_load_on arrS_is (by rfl) _ rfl S _ rfl D13.out.s HLS.out ?_) | (refine wpList_build_on arrS_is (by rfl) rfl Z HZ.out ?_) | (refine wpList_load_on arrE_is (by rfl) _ rfl E _ rfl D13.out.e HLE.out ?_))
                refine (mayBe_any v c r t k f n _).mono ?_
                rintro en w15 ⟨rfl, hg15⟩
                have D15 := hid_intro (D13.out.quiet hg15)
                have T15 := hid_intro (T13.out.keptN hg15)
                clear t0 t1 t2 t3 t4 t5 t6 a0 a1 a2 b0 b1 b2 b3 hgF hgS hgE hqF hqS hqE D13 T13 hg15
                cases hm : may ⟨v, c, r, t, k, f, n⟩ with
                | true =>
                  have HT : Hid (dM zs = true) := HIF.out.2 ⟨by rw [← HH.out]; exact hm, HK5.out, HF5.out, by rw [HS5.out]; exact HZ.out, HE5.out⟩
                  clear hm
                  obtain ⟨t0, t1, t2, t3, t4, t5, t6⟩ := T15.out.cells
                  go_wp2_with (refine wpList_store_head rfl _ _ rfl U v c r t k f n 0 0 0 0 0 0 0 rfl rfl D15.out.u ?_)
                  intro w16 hx16 hg16 hs16
                  have G16 := hid_intro (grown_new D15.out.gr hg16 D15.out.lt.1)
                  clear hg16 hs16 t0 t1 t2 t3 t4 t5 t6
                  go_wp2
                  refine bodyPost_ret (ret_head_tmp rfl _ _ U v c r t k f n rfl hx16) rfl ?_
                  rw [(a_yes HT.out).1, (a_yes HT.out).2, ← HH.out]
                  exact ⟨rfl, G16.out⟩
                | false =>
                  have HT : Hid (dM zs = false) := by
                    cases hh : dM zs with
                    | false => rfl
                    | true => exact absurd ((by rw [HH.out]; exact (HIF.out.1 hh).1 : may ⟨v, c, r, t, k, f, n⟩ = true)) (by rw [hm]; decide)
                  clear hm
                  go_wp2_with (refine wpList_store_head rfl _ _ rfl U 0 0 0 0 0 0 0 0 0 0 0 0 0 0 rfl rfl D15.out.u ?_)
                  intro w14 hx14 hg14 hs14
                  have G14 := hid_intro (grown_new D15.out.gr hg14 D15.out.lt.1)
                  clear hg14 hs14
                  go_wp2
                  refine bodyPost_ret (ret_head_tmp rfl _ _ U 0 0 0 0 0 0 0 rfl hx14) rfl ?_
                  rw [(a_no HT.out).1, (a_no HT.out).2]
                  exact ⟨rfl, G14.out⟩
              · have hqE : ∀ W : World, (binOp .neq 54 (agB ((zs.drop 4088).take 4)) (.agg #[.int .u8 101, .int .u8 110, .int .u8 100, .int .u8 46])).run Tryz.prog W = .ok (.bool true) W := fun W => (hnE W).trans (by rw [decide_eq_false e5]; rfl)
                have HT : Hid (dM zs = false) := by
                  cases hh : dM zs with
                  | false => rfl
                  | true => exact absurd (HIF.out.1 hh).2.2.2.2 e5
                clear f5 s5 e5 hnF hnS hnE
                generalize (zs.drop 1).take 3 = fs at *
                generalize (zs.drop 37).take 4051 = ss at *
                generalize (zs.drop 4088).take 4 = es at *
                go_wp2_with (first | (refine wpList_load_on arrM_is (by rfl) _ rfl F _ rfl D13.out.f HLF.out ?_) | (refine wpList_load_on arrS_is (by rfl) _ rfl S _ rfl D13.out.s HLS.out ?_) | (refine wpList_build_on arrS_is (by rfl) rfl Z HZ.out ?_) | (refine wpList_load_on arrE_is (by rfl) _ rfl E _ rfl D13.out.e HLE.out ?_) | (refine wpList_store_head rfl _ _ rfl U 0 0 0 0 0 0 0 0 0 0 0 0 0 0 rfl rfl D13.out.u ?_))
                intro w14 hx14 hg14 hs14
                have G14 := hid_intro (grown_new D13.out.gr hg14 D13.out.lt.1)
                clear hg14 hs14
                go_wp2
                refine bodyPost_ret (ret_head_tmp rfl _ _ U 0 0 0 0 0 0 0 rfl hx14) rfl ?_
                rw [(a_no HT.out).1, (a_no HT.out).2]
                exact ⟨rfl, G14.out⟩
            · have hqS : ∀ W : World, (binOp .neq 58 (agB ((zs.drop 37).take 4051)) (agB Z)).run Tryz.prog W = .ok (.bool true) W := fun W => (hnS W).trans (by rw [decide_eq_false s5]; rfl)
              have HT : Hid (dM zs = false) := by
                cases hh : dM zs with
                | false => rfl
                | true => exact absurd (by rw [(HIF.out.1 hh).2.2.2.1]; exact HZ.out.symm) s5
              clear f5 s5 hnF hnS hnE
              generalize (zs.drop 1).take 3 = fs at *
              generalize (zs.drop 37).take 4051 = ss at *
              generalize (zs.drop 4088).take 4 = es at *
              go_wp2_with (first | (refine wpList_load_on arrM_is (by rfl) _ rfl F _ rfl D13.out.f HLF.out ?_) | (refine wpList_load_on arrS_is (by rfl) _ rfl S _ rfl D13.out.s HLS.out ?_) | (refine wpList_build_on arrS_is (by rfl) rfl Z HZ.out ?_) | (refine wpList_load_on arrE_is (by rfl) _ rfl E _ rfl D13.out.e HLE.out ?_) | (refine wpList_store_head rfl _ _ rfl U 0 0 0 0 0 0 0 0 0 0 0 0 0 0 rfl rfl D13.out.u ?_))
              intro w14 hx14 hg14 hs14
              have G14 := hid_intro (grown_new D13.out.gr hg14 D13.out.lt.1)
              clear hg14 hs14
              go_wp2
              refine bodyPost_ret (ret_head_tmp rfl _ _ U 0 0 0 0 0 0 0 rfl hx14) rfl ?_
              rw [(a_no HT.out).1, (a_no HT.out).2]
              exact ⟨rfl, G14.out⟩
          · have hqF : ∀ W : World, (binOp .neq 53 (agB ((zs.drop 1).take 3)) (.agg #[.int .u8 99, .int .u8 111, .int .u8 112])).run Tryz.prog W = .ok (.bool true) W := fun W => (hnF W).trans (by rw [decide_eq_false f5]; rfl)
            have HT : Hid (dM zs = false) := by
              cases hh : dM zs with
              | false => rfl
              | true => exact absurd (HIF.out.1 hh).2.2.1 f5
            clear f5 hnF hnS hnE
            generalize (zs.drop 1).take 3 = fs at *
            generalize (zs.drop 37).take 4051 = ss at *
            generalize (zs.drop 4088).take 4 = es at *
            go_wp2_with (first | (refine wpList_load_on arrM_is (by rfl) _ rfl F _ rfl D13.out.f HLF.out ?_) | (refine wpList_load_on arrS_is (by rfl) _ rfl S _ rfl D13.out.s HLS.out ?_) | (refine wpList_build_on arrS_is (by rfl) rfl Z HZ.out ?_) | (refine wpList_load_on arrE_is (by rfl) _ rfl E _ rfl D13.out.e HLE.out ?_) | (refine wpList_store_head rfl _ _ rfl U 0 0 0 0 0 0 0 0 0 0 0 0 0 0 rfl rfl D13.out.u ?_))
            intro w14 hx14 hg14 hs14
            have G14 := hid_intro (grown_new D13.out.gr hg14 D13.out.lt.1)
            clear hg14 hs14
            go_wp2
            refine bodyPost_ret (ret_head_tmp rfl _ _ U 0 0 0 0 0 0 0 rfl hx14) rfl ?_
            rw [(a_no HT.out).1, (a_no HT.out).2]
            exact ⟨rfl, G14.out⟩
        · have HT : Hid (dM zs = false) := by
            cases hh : dM zs with
            | false => rfl
            | true =>
              have h1 := (HIF.out.1 hh).2.1
              exact absurd (by rw [HKD.out, List.drop_zero, ← le_take, h1]; rfl) k5
          have k1 : ((kd : Int) == 5) = false := by simp; omega
          have k2 : ((kd : Int) != 5) = true := by simp; omega
          obtain ⟨u0, u1, u2, u3, u4, u5, u6⟩ := D13.out.u.cells
          have v0 := D13.out.u.frozen 0
          clear a0 a1 a2 b0 b1 b2 b3
          clear u0 u1 u2 u3 u4 u5 u6 v0
          go_wp2_with (refine wpList_store_head rfl _ _ rfl U 0 0 0 0 0 0 0 0 0 0 0 0 0 0 rfl rfl D13.out.u ?_)
          intro w14 hx14 hg14 hs14
          have G14 := hid_intro (grown_new D13.out.gr hg14 D13.out.lt.1)
          clear hg14 hs14
          go_wp2
          refine bodyPost_ret (ret_head_tmp rfl _ _ U 0 0 0 0 0 0 0 rfl hx14) rfl ?_
          rw [(a_no HT.out).1, (a_no HT.out).2]
          exact ⟨rfl, G14.out⟩
end Go.Proofs.YtlhjociijkhimaaGreatDoor
