import Derived.Test.YtlhjociijkhimaaGreatDoorMe3
import Derived.Laws.ResultCell
namespace Go.Proofs.YtlhjociijkhimaaGreatDoor
open Go.RowKit

theorem wpList_store_head {w : World} {ops : Array Oper} {rest : List Oper} {o : Oper} {a : Act} {Q : Exit → Act → World → Prop} (hgd : o.guard = none) (p x : Operand) (ho : o.op = .store 23 p x) (g : Nat) (v c r t k f n v' c' r' t' k' f' n' : Int) (hp : a.eval p = .pointer (some ⟨g, 0, none⟩)) (hx : a.eval x = .agg #[.int .i64 v, .int .i64 c, .int .i64 r, .int .i64 t, .int .i64 k, .int .i64 f, .int .i64 n]) (hr : Hx w g v' c' r' t' k' f' n')
    (h : ∀ w', Hx w' g v c r t k f n → w.grownBy w' (some g) → w'.heap.size = w.heap.size → wpList Tryz.prog ops Q rest (a.put o.dst undef) w') : wpList Tryz.prog ops Q (o :: rest) a w := by
  refine wpList_plain hgd fun K hK => ?_
  unfold Oper.wp
  have hv := run_storeVar_row (P := Tryz.prog) w g 23 23 _ #[.int .i64 v, .int .i64 c, .int .i64 r, .int .i64 t, .int .i64 k, .int .i64 f, .int .i64 n] hr head_size rfl (by simp [Value.oneCell'])
  have hr2 : (execOp a.eval o).run Tryz.prog w = .ok .skip (w.setRow g #[.int .i64 v, .int .i64 c, .int .i64 r, .int .i64 t, .int .i64 k, .int .i64 f, .int .i64 n]) := by
    simp [execOp, ho, hp, hx, Instr.storeAt, Instr.sureAddr, hv, Result.andThen]
  rw [hr2, Oper.upon_skip]
  have hro : Rp w (w.setRow g #[.int .i64 v, .int .i64 c, .int .i64 r, .int .i64 t, .int .i64 k, .int .i64 f, .int .i64 n]) g 23 [.int .i64 v, .int .i64 c, .int .i64 r, .int .i64 t, .int .i64 k, .int .i64 f, .int .i64 n] := ⟨setRow_heap w g _ _ _ _ hr, fun k hk => setRow_other w g k _ hk, by simp [World.setRow], rfl, rfl, rfl⟩
  exact hK _ _ (h _ hro.row hro.grown hro.size)
theorem ret_head_tmp {fn : Func} {p u : Tmp} (h : fn.results = #[.cell p 23, .tmp u]) (tmps : Array Value) (w : World) (U : Nat) (v c r t k f n : Int) (hp : tmps.getD p undef = .pointer (some ⟨U, 0, none⟩)) (hx : Hx w U v c r t k f n) :
    (results fn tmps).run Tryz.prog w = .ok (.tuple #[.agg #[.int .i64 v, .int .i64 c, .int .i64 r, .int .i64 t, .int .i64 k, .int .i64 f, .int .i64 n], tmps.getD u undef]) w := by
  rw [results_cell_tmp h, hp]
  have := run_loadVar_row (P := Tryz.prog) w U 23 23 _ (0, 0) _ hx Tryz.underlying23 rfl head_size
  simp [asAddr, this, Result.andThen]

theorem Hx.set0 {w : World} {T : Nat} {v c r t k f n : Int} (h : Hx w T v c r t k f n) (x : Int) : Hx (w.setCell ⟨T, 0, none⟩ (.int .i64 x)) T x c r t k f n := heap_setCell_same w T 0 _ _ _ h
theorem Hx.set1 {w : World} {T : Nat} {v c r t k f n : Int} (h : Hx w T v c r t k f n) (x : Int) : Hx (w.setCell ⟨T, 1, none⟩ (.int .i64 x)) T v x r t k f n := heap_setCell_same w T 1 _ _ _ h
theorem Hx.set2 {w : World} {T : Nat} {v c r t k f n : Int} (h : Hx w T v c r t k f n) (x : Int) : Hx (w.setCell ⟨T, 2, none⟩ (.int .i64 x)) T v c x t k f n := heap_setCell_same w T 2 _ _ _ h
theorem Hx.set3 {w : World} {T : Nat} {v c r t k f n : Int} (h : Hx w T v c r t k f n) (x : Int) : Hx (w.setCell ⟨T, 3, none⟩ (.int .i64 x)) T v c r x k f n := heap_setCell_same w T 3 _ _ _ h
theorem Hx.set4 {w : World} {T : Nat} {v c r t k f n : Int} (h : Hx w T v c r t k f n) (x : Int) : Hx (w.setCell ⟨T, 4, none⟩ (.int .i64 x)) T v c r t x f n := heap_setCell_same w T 4 _ _ _ h
theorem Hx.set5 {w : World} {T : Nat} {v c r t k f n : Int} (h : Hx w T v c r t k f n) (x : Int) : Hx (w.setCell ⟨T, 5, none⟩ (.int .i64 x)) T v c r t k x n := heap_setCell_same w T 5 _ _ _ h
theorem Hx.set6 {w : World} {T : Nat} {v c r t k f n : Int} (h : Hx w T v c r t k f n) (x : Int) : Hx (w.setCell ⟨T, 6, none⟩ (.int .i64 x)) T v c r t k f x := heap_setCell_same w T 6 _ _ _ h

theorem sg_wrap64 {x : Nat} (h : x < 18446744073709551616) : wrap64 (x : Int) = sg x := by
  unfold wrap64 sg
  split <;> omega
/-- What a head's reading holds on to. -/
structure Rs (w w' : World) (R G U T : Nat) (zs : List Int) (p : Nat) (v c r t k f n : Int) : Prop where
  rd : Rd w' R G zs p 0
  u : Hx w' U 0 0 0 0 0 0 0
  t : Hx w' T v c r t k f n
  gr : w.grownBy w' (some R)
  hT : T ≠ R ∧ T ≠ G ∧ T ≠ U ∧ w.heap.size ≤ T
  hU : U ≠ R ∧ U ≠ G ∧ w.heap.size ≤ U
theorem Rs.call {w w' w'' : World} {R G U T : Nat} {zs : List Int} {p p' : Nat} {v c r t k f n : Int} (h : Rs w w' R G U T zs p v c r t k f n) (hr : Rd w'' R G zs p' 0) (hg : w'.grownBy w'' (some R)) : Rs w w'' R G U T zs p' v c r t k f n :=
  ⟨hr, h.u.kept hg (fun e => h.hU.1 (Option.some.inj e)), h.t.kept hg (fun e => h.hT.1 (Option.some.inj e)), grown_trans h.gr hg, h.hT, h.hU⟩
theorem Rs.put {w w' : World} {R G U T : Nat} {zs : List Int} {p : Nat} {v c r t k f n v' c' r' t' k' f' n' : Int} (h : Rs w w' R G U T zs p v c r t k f n) (j : Nat) (x : Value) (ht : Hx (w'.setCell ⟨T, j, none⟩ x) T v' c' r' t' k' f' n') : Rs w (w'.setCell ⟨T, j, none⟩ x) R G U T zs p v' c' r' t' k' f' n' :=
  ⟨h.rd.kept (grown_cell w' T j x) (fun e => h.hT.1 (Option.some.inj e).symm) (fun e => h.hT.2.1 (Option.some.inj e).symm), h.u.kept (grown_cell w' T j x) (fun e => h.hT.2.2.1 (Option.some.inj e).symm), ht, grown_newR h.gr (grown_cell w' T j x) h.hT.2.2.2, h.hT, h.hU⟩

set_option maxHeartbeats 2000000 in
set_option maxRecDepth 100000 in
theorem readHead_any (R G : Nat) (zs : List Int) (w : World) (h : Rd w R G zs 4 0) (hbt : Bt zs) (hl : zs.length = 4092) (hRG : R < w.heap.size ∧ G < w.heap.size) :
    Calls Tryz.prog 20 #[.pointer (some ⟨R, 0, none⟩)] w fun en w' => en = .returned (.agg #[.int .i64 (rH zs).v, .int .i64 (rH zs).c, .int .i64 (rH zs).r, .int .i64 (rH zs).h, .int .i64 (rH zs).k, .int .i64 (rH zs).f, .int .i64 (rH zs).n]) ∧ Rd w' R G zs 37 0 ∧ w.grownBy w' (some R) := by
  obtain ⟨v, hv⟩ : ∃ v, v = le 8 (zs.drop 4) := ⟨_, rfl⟩
  obtain ⟨c, hc⟩ : ∃ c, c = le 4 (zs.drop 12) := ⟨_, rfl⟩
  obtain ⟨r, hr⟩ : ∃ r, r = le 4 (zs.drop 16) := ⟨_, rfl⟩
  obtain ⟨t, ht⟩ : ∃ t, t = le 1 (zs.drop 20) := ⟨_, rfl⟩
  obtain ⟨k, hk⟩ : ∃ k, k = le 8 (zs.drop 21) := ⟨_, rfl⟩
  obtain ⟨f, hf⟩ : ∃ f, f = le 4 (zs.drop 29) := ⟨_, rfl⟩
  obtain ⟨n, hn⟩ : ∃ n, n = le 4 (zs.drop 33) := ⟨_, rfl⟩
  have wv : IntKind.i64.wrap (v : Int) = sg v := sg_wrap (by rw [hv]; have := le_lt 8 _ (hbt.drop 4); omega)
  have wv2 : wrap64 (v : Int) = sg v := sg_wrap64 (by rw [hv]; have := le_lt 8 _ (hbt.drop 4); omega)
  have wk2 : wrap64 (k : Int) = sg k := sg_wrap64 (by rw [hk]; have := le_lt 8 _ (hbt.drop 21); omega)
  have wk : IntKind.i64.wrap (k : Int) = sg k := sg_wrap (by rw [hk]; have := le_lt 8 _ (hbt.drop 21); omega)
  have wc : IntKind.i64.wrap (c : Int) = (c : Int) := by have : c < 4294967296 := (by rw [hc]; have := le_lt 4 _ (hbt.drop 12); omega); simp [IntKind.wrap, IntKind.bits, IntKind.signed]; omega
  have wr : IntKind.i64.wrap (r : Int) = (r : Int) := by have : r < 4294967296 := (by rw [hr]; have := le_lt 4 _ (hbt.drop 16); omega); simp [IntKind.wrap, IntKind.bits, IntKind.signed]; omega
  have wt : IntKind.i64.wrap (t : Int) = (t : Int) := by have : t < 256 := (by rw [ht]; have := le_lt 1 _ (hbt.drop 20); omega); simp [IntKind.wrap, IntKind.bits, IntKind.signed]; omega
  have wf : IntKind.i64.wrap (f : Int) = (f : Int) := by have : f < 4294967296 := (by rw [hf]; have := le_lt 4 _ (hbt.drop 29); omega); simp [IntKind.wrap, IntKind.bits, IntKind.signed]; omega
  have wn : IntKind.i64.wrap (n : Int) = (n : Int) := by have : n < 4294967296 := (by rw [hn]; have := le_lt 4 _ (hbt.drop 33); omega); simp [IntKind.wrap, IntKind.bits, IntKind.signed]; omega
  have E : Hid ((rH zs).v = sg v ∧ (rH zs).c = c ∧ (rH zs).r = r ∧ (rH zs).h = t ∧ (rH zs).k = sg k ∧ (rH zs).f = f ∧ (rH zs).n = n) := by
    refine ⟨?_, ?_, ?_, ?_, ?_, ?_, ?_⟩
    · rw [rH_v, hv]
    · rw [rH_c, hc]
    · rw [rH_r, hr]
    · rw [rH_h, ht]
    · rw [rH_k, hk]
    · rw [rH_f, hf]
    · rw [rH_n, hn]
  rw [E.out.1, E.out.2.1, E.out.2.2.1, E.out.2.2.2.1, E.out.2.2.2.2.1, E.out.2.2.2.2.2.1, E.out.2.2.2.2.2.2]
  have HV := hid_intro hv
  clear hv
  have HC := hid_intro hc
  clear hc
  have HR := hid_intro hr
  clear hr
  have HT := hid_intro ht
  clear ht
  have HK := hid_intro hk
  clear hk
  have HF := hid_intro hf
  clear hf
  have HN := hid_intro hn
  clear hn
  clear E
  go_enter Tryz.func20, Tryz.ntmps20
  go_upto_region 2 with fail
  have S0 : Hid (Rs w ((w.alloc (.cells #[.int .i64 0, .int .i64 0, .int .i64 0, .int .i64 0, .int .i64 0, .int .i64 0, .int .i64 0] 23)).alloc (.cells #[.int .i64 0, .int .i64 0, .int .i64 0, .int .i64 0, .int .i64 0, .int .i64 0, .int .i64 0] 23)) R G w.heap.size (w.heap.size + 1) zs 4 0 0 0 0 0 0 0) :=
    ⟨h.kept (grown_two w _ _) (by simp) (by simp), (Hx.new w 0 0 0 0 0 0 0).keptN (World.grownBy_alloc _ _ none), Hx.new2 w _ 0 0 0 0 0 0 0, grown_any (grown_two w _ _), ⟨by omega, by omega, by omega, by omega⟩, ⟨by omega, by omega, Nat.le_refl _⟩⟩
  clear h
  obtain ⟨hRG1, hRG2⟩ := hRG
  generalize (w.alloc (.cells #[.int .i64 0, .int .i64 0, .int .i64 0, .int .i64 0, .int .i64 0, .int .i64 0, .int .i64 0] 23)).alloc (.cells #[.int .i64 0, .int .i64 0, .int .i64 0, .int .i64 0, .int .i64 0, .int .i64 0, .int .i64 0] 23) = w0 at *
  obtain ⟨c0, c1, c2, c3, c4, c5, c6⟩ := S0.out.t.cells
  go_wp2_with fail
  refine (get_u64_ok R G zs 4 _ S0.out.rd hbt (by omega)).mono ?_
  rw [← HV.out]
  rintro en w1 ⟨rfl, hr1, hg1⟩
  have S1 := hid_intro (S0.out.call hr1 hg1)
  clear S0 hr1 hg1 c0 c1 c2 c3 c4 c5 c6
  obtain ⟨c0, c1, c2, c3, c4, c5, c6⟩ := S1.out.t.cells
  have f0 := S1.out.t.frozen 0
  go_upto_region 3 with fail
  have S2 := hid_intro (S1.out.put 0 (.int .i64 (sg v)) (S1.out.t.set0 (sg v)))
  clear S1 c0 c1 c2 c3 c4 c5 c6 f0
  generalize w1.setCell ⟨w.heap.size + 1, 0, none⟩ (.int .i64 (sg v)) = w2 at *
  obtain ⟨c0, c1, c2, c3, c4, c5, c6⟩ := S2.out.t.cells
  go_wp2_with fail
  refine (get_u32_ok R G zs 12 _ S2.out.rd hbt (by omega)).mono ?_
  rw [← HC.out]
  rintro en w3 ⟨rfl, hr3, hg3⟩
  have S3 := hid_intro (S2.out.call hr3 hg3)
  clear S2 hr3 hg3 c0 c1 c2 c3 c4 c5 c6
  obtain ⟨c0, c1, c2, c3, c4, c5, c6⟩ := S3.out.t.cells
  have f1 := S3.out.t.frozen 1
  go_upto_region 4 with fail
  have S4 := hid_intro (S3.out.put 1 (.int .i64 (c : Int)) (S3.out.t.set1 (c : Int)))
  clear S3 c0 c1 c2 c3 c4 c5 c6 f1
  generalize w3.setCell ⟨w.heap.size + 1, 1, none⟩ (.int .i64 (c : Int)) = w4 at *
  obtain ⟨c0, c1, c2, c3, c4, c5, c6⟩ := S4.out.t.cells
  go_wp2_with fail
  refine (get_u32_ok R G zs 16 _ S4.out.rd hbt (by omega)).mono ?_
  rw [← HR.out]
  rintro en w5 ⟨rfl, hr5, hg5⟩
  have S5 := hid_intro (S4.out.call hr5 hg5)
  clear S4 hr5 hg5 c0 c1 c2 c3 c4 c5 c6
  obtain ⟨c0, c1, c2, c3, c4, c5, c6⟩ := S5.out.t.cells
  have f2 := S5.out.t.frozen 2
  go_upto_region 5 with fail
  have S6 := hid_intro (S5.out.put 2 (.int .i64 (r : Int)) (S5.out.t.set2 (r : Int)))
  clear S5 c0 c1 c2 c3 c4 c5 c6 f2
  generalize w5.setCell ⟨w.heap.size + 1, 2, none⟩ (.int .i64 (r : Int)) = w6 at *
  obtain ⟨c0, c1, c2, c3, c4, c5, c6⟩ := S6.out.t.cells
  go_wp2_with fail
  refine (get_u8_ok R G zs 20 _ S6.out.rd hbt (by omega)).mono ?_
  rw [← HT.out]
  rintro en w7 ⟨rfl, hr7, hg7⟩
  have S7 := hid_intro (S6.out.call hr7 hg7)
  clear S6 hr7 hg7 c0 c1 c2 c3 c4 c5 c6
  obtain ⟨c0, c1, c2, c3, c4, c5, c6⟩ := S7.out.t.cells
  have f3 := S7.out.t.frozen 3
  go_upto_region 6 with fail
  have S8 := hid_intro (S7.out.put 3 (.int .i64 (t : Int)) (S7.out.t.set3 (t : Int)))
  clear S7 c0 c1 c2 c3 c4 c5 c6 f3
  generalize w7.setCell ⟨w.heap.size + 1, 3, none⟩ (.int .i64 (t : Int)) = w8 at *
  obtain ⟨c0, c1, c2, c3, c4, c5, c6⟩ := S8.out.t.cells
  go_wp2_with fail
  refine (get_u64_ok R G zs 21 _ S8.out.rd hbt (by omega)).mono ?_
  rw [← HK.out]
  rintro en w9 ⟨rfl, hr9, hg9⟩
  have S9 := hid_intro (S8.out.call hr9 hg9)
  clear S8 hr9 hg9 c0 c1 c2 c3 c4 c5 c6
  obtain ⟨c0, c1, c2, c3, c4, c5, c6⟩ := S9.out.t.cells
  have f4 := S9.out.t.frozen 4
  go_upto_region 7 with fail
  have S10 := hid_intro (S9.out.put 4 (.int .i64 (sg k)) (S9.out.t.set4 (sg k)))
  clear S9 c0 c1 c2 c3 c4 c5 c6 f4
  generalize w9.setCell ⟨w.heap.size + 1, 4, none⟩ (.int .i64 (sg k)) = w10 at *
  obtain ⟨c0, c1, c2, c3, c4, c5, c6⟩ := S10.out.t.cells
  go_wp2_with fail
  refine (get_u32_ok R G zs 29 _ S10.out.rd hbt (by omega)).mono ?_
  rw [← HF.out]
  rintro en w11 ⟨rfl, hr11, hg11⟩
  have S11 := hid_intro (S10.out.call hr11 hg11)
  clear S10 hr11 hg11 c0 c1 c2 c3 c4 c5 c6
  obtain ⟨c0, c1, c2, c3, c4, c5, c6⟩ := S11.out.t.cells
  have f5 := S11.out.t.frozen 5
  go_upto_region 8 with fail
  have S12 := hid_intro (S11.out.put 5 (.int .i64 (f : Int)) (S11.out.t.set5 (f : Int)))
  clear S11 c0 c1 c2 c3 c4 c5 c6 f5
  generalize w11.setCell ⟨w.heap.size + 1, 5, none⟩ (.int .i64 (f : Int)) = w12 at *
  obtain ⟨c0, c1, c2, c3, c4, c5, c6⟩ := S12.out.t.cells
  go_wp2_with fail
  refine (get_u32_ok R G zs 33 _ S12.out.rd hbt (by omega)).mono ?_
  rw [← HN.out]
  rintro en w13 ⟨rfl, hr13, hg13⟩
  have S13 := hid_intro (S12.out.call hr13 hg13)
  clear S12 hr13 hg13 c0 c1 c2 c3 c4 c5 c6
  obtain ⟨c0, c1, c2, c3, c4, c5, c6⟩ := S13.out.t.cells
  have f6 := S13.out.t.frozen 6
  go_upto_region 9 with fail
  have S14 := hid_intro (S13.out.put 6 (.int .i64 (n : Int)) (S13.out.t.set6 (n : Int)))
  clear S13 c0 c1 c2 c3 c4 c5 c6 f6
  generalize w13.setCell ⟨w.heap.size + 1, 6, none⟩ (.int .i64 (n : Int)) = w14 at *
  obtain ⟨c0, c1, c2, c3, c4, c5, c6⟩ := S14.out.t.cells
  go_wp2_with (refine wpList_store_head rfl _ _ rfl w.heap.size (sg v) c r t (sg k) f n 0 0 0 0 0 0 0 rfl rfl S14.out.u ?_)
  intro w15 hx15 hg15 hs15
  have R15 := hid_intro (S14.out.rd.kept hg15 (fun e => S14.out.hU.1 (Option.some.inj e).symm) (fun e => S14.out.hU.2.1 (Option.some.inj e).symm))
  have G15 := hid_intro (grown_newR S14.out.gr hg15 (Nat.le_refl _))
  clear c0 c1 c2 c3 c4 c5 c6 S14 hg15 hs15
  go_wp2
  refine bodyPost_ret (ret_head rfl _ _ w.heap.size (sg v) c r t (sg k) f n rfl hx15) rfl ?_
  exact ⟨rfl, R15.out, G15.out⟩
end Go.Proofs.YtlhjociijkhimaaGreatDoor
