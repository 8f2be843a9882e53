import Derived.Test.YtkiopabcnemgnaaGreatDoorK33
import Derived.Laws.ResultCell
set_option maxRecDepth 100000
set_option maxHeartbeats 4000000
namespace Go.Proofs.YtkiopabcnemgnaaGreatDoor
open Go.RowKit
theorem wpList_store_head {w : World} {ops : Array Oper} {rest : List Oper} {o : Oper} {a : Act} {Q : Exit → Act → World → Prop} (hgd : o.guard = none) (p x : Operand) (ho : o.op = .store 28 p x) (g : Nat) (v c r t k f n v' c' r' t' k' f' n' : Int) (hp : a.eval p = .pointer (some ⟨g, 0, none⟩)) (hx : a.eval x = .agg #[.int .i64 v, .int .i64 c, .int .i64 r, .int .i64 t, .int .i64 k, .int .i64 f, .int .i64 n]) (hr : Hx w g v' c' r' t' k' f' n')
  (h : ∀ w', Hx w' g v c r t k f n → w.grownBy w' (some g) → w'.heap.size = w.heap.size → wpList Tryz.prog ops Q rest (a.put o.dst undef) w') : wpList Tryz.prog ops Q (o :: rest) a w := by
 refine wpList_plain hgd fun K hK => ?_
 unfold Oper.wp;have hv := run_storeVar_row (P := Tryz.prog) w g 28 28 _ #[.int .i64 v, .int .i64 c, .int .i64 r, .int .i64 t, .int .i64 k, .int .i64 f, .int .i64 n] hr head_size rfl (by simp [Value.oneCell'])
 have hr2 : (execOp a.eval o).run Tryz.prog w = .ok .skip (w.setRow g #[.int .i64 v, .int .i64 c, .int .i64 r, .int .i64 t, .int .i64 k, .int .i64 f, .int .i64 n]) := by
  simp [execOp, ho, hp, hx, Instr.storeAt, Instr.sureAddr, hv, Result.andThen]
 rw [hr2, Oper.upon_skip];have hro : Rp w (w.setRow g #[.int .i64 v, .int .i64 c, .int .i64 r, .int .i64 t, .int .i64 k, .int .i64 f, .int .i64 n]) g 28 [.int .i64 v, .int .i64 c, .int .i64 r, .int .i64 t, .int .i64 k, .int .i64 f, .int .i64 n] := ⟨setRow_heap w g _ _ _ _ hr, fun k hk => setRow_other w g k _ hk, by simp [World.setRow], rfl, rfl, rfl⟩;exact hK _ _ (h _ hro.row hro.grown hro.size)
theorem ret_head_tmp {fn : Func} {p u : Tmp} (h : fn.results = #[.cell p 28, .tmp u]) (tmps : Array Value) (w : World) (U : Nat) (v c r t k f n : Int) (hp : tmps.getD p undef = .pointer (some ⟨U, 0, none⟩)) (hx : Hx w U v c r t k f n) :
  (results fn tmps).run Tryz.prog w = .ok (.tuple #[.agg #[.int .i64 v, .int .i64 c, .int .i64 r, .int .i64 t, .int .i64 k, .int .i64 f, .int .i64 n], tmps.getD u undef]) w := by
 rw [results_cell_tmp h, hp];have := run_loadVar_row (P := Tryz.prog) w U 28 28 _ (0, 0) _ hx Tryz.underlying28 rfl head_size;simp [asAddr, this, Result.andThen]
theorem Hx.set0 {w : World} {T : Nat} {v c r t k f n : Int} (h : Hx w T v c r t k f n) (x : Int) : Hx (w.setCell ⟨T, 0, none⟩ (.int .i64 x)) T x c r t k f n := heap_setCell_same w T 0 _ _ _ h
theorem Hx.set1 {w : World} {T : Nat} {v c r t k f n : Int} (h : Hx w T v c r t k f n) (x : Int) : Hx (w.setCell ⟨T, 1, none⟩ (.int .i64 x)) T v x r t k f n := heap_setCell_same w T 1 _ _ _ h
theorem Hx.set2 {w : World} {T : Nat} {v c r t k f n : Int} (h : Hx w T v c r t k f n) (x : Int) : Hx (w.setCell ⟨T, 2, none⟩ (.int .i64 x)) T v c x t k f n := heap_setCell_same w T 2 _ _ _ h
theorem Hx.set3 {w : World} {T : Nat} {v c r t k f n : Int} (h : Hx w T v c r t k f n) (x : Int) : Hx (w.setCell ⟨T, 3, none⟩ (.int .i64 x)) T v c r x k f n := heap_setCell_same w T 3 _ _ _ h
theorem Hx.set4 {w : World} {T : Nat} {v c r t k f n : Int} (h : Hx w T v c r t k f n) (x : Int) : Hx (w.setCell ⟨T, 4, none⟩ (.int .i64 x)) T v c r t x f n := heap_setCell_same w T 4 _ _ _ h
theorem Hx.set5 {w : World} {T : Nat} {v c r t k f n : Int} (h : Hx w T v c r t k f n) (x : Int) : Hx (w.setCell ⟨T, 5, none⟩ (.int .i64 x)) T v c r t k x n := heap_setCell_same w T 5 _ _ _ h
theorem Hx.set6 {w : World} {T : Nat} {v c r t k f n : Int} (h : Hx w T v c r t k f n) (x : Int) : Hx (w.setCell ⟨T, 6, none⟩ (.int .i64 x)) T v c r t k f x := heap_setCell_same w T 6 _ _ _ h
theorem sg_wrap64 {x : Nat} (h : x < 18446744073709551616) : wrap64 (x : Int) = sg x := by
 unfold wrap64 sg
 split <;> omega
structure Rs (w w' : World) (R G U T : Nat) (zs : List Int) (p : Nat) (v c r t k f n : Int) : Prop where
 rd : Rd w' R G zs p 0
 u : Hx w' U 0 0 0 0 0 0 0
 t : Hx w' T v c r t k f n
 gr : w.grownBy w' (some R)
 hT : T ≠ R ∧ T ≠ G ∧ T ≠ U ∧ w.heap.size ≤ T
 hU : U ≠ R ∧ U ≠ G ∧ w.heap.size ≤ U
theorem Rs.call {w w' w'' : World} {R G U T : Nat} {zs : List Int} {p p' : Nat} {v c r t k f n : Int} (h : Rs w w' R G U T zs p v c r t k f n) (hr : Rd w'' R G zs p' 0) (hg : w'.grownBy w'' (some R)) : Rs w w'' R G U T zs p' v c r t k f n :=
 ⟨hr, h.u.kept hg (fun e => h.hU.1 (Option.some.inj e)), h.t.kept hg (fun e => h.hT.1 (Option.some.inj e)), gQ h.gr hg, h.hT, h.hU⟩
theorem Rs.put {w w' : World} {R G U T : Nat} {zs : List Int} {p : Nat} {v c r t k f n v' c' r' t' k' f' n' : Int} (h : Rs w w' R G U T zs p v c r t k f n) (j : Nat) (x : Value) (ht : Hx (w'.setCell ⟨T, j, none⟩ x) T v' c' r' t' k' f' n') : Rs w (w'.setCell ⟨T, j, none⟩ x) R G U T zs p v' c' r' t' k' f' n' :=
 ⟨h.rd.kept (grown_cell w' T j x) (fun e => h.hT.1 (Option.some.inj e).symm) (fun e => h.hT.2.1 (Option.some.inj e).symm), h.u.kept (grown_cell w' T j x) (fun e => h.hT.2.2.1 (Option.some.inj e).symm), ht, grown_newR h.gr (grown_cell w' T j x) h.hT.2.2.2, h.hT, h.hU⟩
theorem readHead7_any (R G : Nat) (zs : List Int) (w : World) (h : Rd w R G zs 4 0) (hbt : Bt zs) (hl : zs.length = 4092) (hRG : R < w.heap.size ∧ G < w.heap.size) :
  Calls Tryz.prog 147 #[.pointer (some ⟨R, 0, none⟩)] w fun en w' => en = .returned (.agg #[.int .i64 (rH zs).v, .int .i64 (rH zs).c, .int .i64 (rH zs).r, .int .i64 (rH zs).h, .int .i64 (rH zs).k, .int .i64 (rH zs).f, .int .i64 (rH zs).n]) ∧ Rd w' R G zs 37 0 ∧ w.grownBy w' (some R) := by
 obtain ⟨v, hv⟩ : ∃ v, v = le 8 (zs.drop 4) := ⟨_, rfl⟩;obtain ⟨c, hc⟩ : ∃ c, c = le 4 (zs.drop 12) := ⟨_, rfl⟩;obtain ⟨r, hr⟩ : ∃ r, r = le 4 (zs.drop 16) := ⟨_, rfl⟩;obtain ⟨t, ht⟩ : ∃ t, t = le 1 (zs.drop 20) := ⟨_, rfl⟩;obtain ⟨k, hk⟩ : ∃ k, k = le 8 (zs.drop 21) := ⟨_, rfl⟩;obtain ⟨f, hf⟩ : ∃ f, f = le 4 (zs.drop 29) := ⟨_, rfl⟩;obtain ⟨n, hn⟩ : ∃ n, n = le 4 (zs.drop 33) := ⟨_, rfl⟩;have wv : IntKind.i64.wrap (v : Int) = sg v := sg_wrap (by rw [hv]; have := le_lt 8 _ (hbt.drop 4); omega);have wv2 : wrap64 (v : Int) = sg v := sg_wrap64 (by rw [hv]; have := le_lt 8 _ (hbt.drop 4); omega);have wk2 : wrap64 (k : Int) = sg k := sg_wrap64 (by rw [hk]; have := le_lt 8 _ (hbt.drop 21); omega);have wk : IntKind.i64.wrap (k : Int) = sg k := sg_wrap (by rw [hk]; have := le_lt 8 _ (hbt.drop 21); omega);have wc : IntKind.i64.wrap (c : Int) = (c : Int) := by have : c < 4294967296 := (by rw [hc]; have := le_lt 4 _ (hbt.drop 12); omega); simp [IntKind.wrap, IntKind.bits, IntKind.signed]; omega
 have wr : IntKind.i64.wrap (r : Int) = (r : Int) := by have : r < 4294967296 := (by rw [hr]; have := le_lt 4 _ (hbt.drop 16); omega); simp [IntKind.wrap, IntKind.bits, IntKind.signed]; omega
 have wt : IntKind.i64.wrap (t : Int) = (t : Int) := by have : t < 256 := (by rw [ht]; have := le_lt 1 _ (hbt.drop 20); omega); simp [IntKind.wrap, IntKind.bits, IntKind.signed]; omega
 have wf : IntKind.i64.wrap (f : Int) = (f : Int) := by have : f < 4294967296 := (by rw [hf]; have := le_lt 4 _ (hbt.drop 29); omega); simp [IntKind.wrap, IntKind.bits, IntKind.signed]; omega
 have wn : IntKind.i64.wrap (n : Int) = (n : Int) := by have : n < 4294967296 := (by rw [hn]; have := le_lt 4 _ (hbt.drop 33); omega); simp [IntKind.wrap, IntKind.bits, IntKind.signed]; omega
 have E : Hid ((rH zs).v = sg v ∧ (rH zs).c = c ∧ (rH zs).r = r ∧ (rH zs).h = t ∧ (rH zs).k = sg k ∧ (rH zs).f = f ∧ (rH zs).n = n) := by
  refine ⟨?_, ?_, ?_, ?_, ?_, ?_, ?_⟩
  ·rw [rH_v, hv]
  ·rw [rH_c, hc]
  ·rw [rH_r, hr]
  ·rw [rH_h, ht]
  ·rw [rH_k, hk]
  ·rw [rH_f, hf]
  ·rw [rH_n, hn]
 rw [E.out.1, E.out.2.1, E.out.2.2.1, E.out.2.2.2.1, E.out.2.2.2.2.1, E.out.2.2.2.2.2.1, E.out.2.2.2.2.2.2];have HV := hJ hv;clear hv;have HC := hJ hc;clear hc;have HR := hJ hr;clear hr;have HT := hJ ht;clear ht;have HK := hJ hk;clear hk;have HF := hJ hf;clear hf;have HN := hJ hn;clear hn;clear E;go_enter Tryz.func147, Tryz.ntmps147;go_upto_region 2 with fail
 have S0 : Hid (Rs w ((w.alloc (.cells #[.int .i64 0, .int .i64 0, .int .i64 0, .int .i64 0, .int .i64 0, .int .i64 0, .int .i64 0] 28)).alloc (.cells #[.int .i64 0, .int .i64 0, .int .i64 0, .int .i64 0, .int .i64 0, .int .i64 0, .int .i64 0] 28)) R G w.heap.size (w.heap.size + 1) zs 4 0 0 0 0 0 0 0) :=
  ⟨h.kept (grown_two w _ _) (by simp) (by simp), (Hx.new w 0 0 0 0 0 0 0).keptN (World.grownBy_alloc _ _ none), Hx.new2 w _ 0 0 0 0 0 0 0, grown_any (grown_two w _ _), ⟨by omega, by omega, by omega, by omega⟩, ⟨by omega, by omega, Nat.le_refl _⟩⟩
 clear h;obtain ⟨hRG1, hRG2⟩ := hRG;generalize (w.alloc (.cells #[.int .i64 0, .int .i64 0, .int .i64 0, .int .i64 0, .int .i64 0, .int .i64 0, .int .i64 0] 28)).alloc (.cells #[.int .i64 0, .int .i64 0, .int .i64 0, .int .i64 0, .int .i64 0, .int .i64 0, .int .i64 0] 28) = w0 at *;obtain ⟨c0, c1, c2, c3, c4, c5, c6⟩ := S0.out.t.cells
 go_wp2_with fail
 refine (get_u64_ok R G zs 4 _ S0.out.rd hbt (by omega)).mono ?_;rw [← HV.out];rintro en w1 ⟨rfl, hr1, hg1⟩;have S1 := hJ (S0.out.call hr1 hg1);clear S0 hr1 hg1 c0 c1 c2 c3 c4 c5 c6;obtain ⟨c0, c1, c2, c3, c4, c5, c6⟩ := S1.out.t.cells;have f0 := S1.out.t.frozen 0;go_upto_region 3 with fail
 have S2 := hJ (S1.out.put 0 (.int .i64 (sg v)) (S1.out.t.set0 (sg v)));clear S1 c0 c1 c2 c3 c4 c5 c6 f0;generalize w1.setCell ⟨w.heap.size + 1, 0, none⟩ (.int .i64 (sg v)) = w2 at *;obtain ⟨c0, c1, c2, c3, c4, c5, c6⟩ := S2.out.t.cells
 go_wp2_with fail
 refine (get_u32_ok R G zs 12 _ S2.out.rd hbt (by omega)).mono ?_;rw [← HC.out];rintro en w3 ⟨rfl, hr3, hg3⟩;have S3 := hJ (S2.out.call hr3 hg3);clear S2 hr3 hg3 c0 c1 c2 c3 c4 c5 c6;obtain ⟨c0, c1, c2, c3, c4, c5, c6⟩ := S3.out.t.cells;have f1 := S3.out.t.frozen 1;go_upto_region 4 with fail
 have S4 := hJ (S3.out.put 1 (.int .i64 (c : Int)) (S3.out.t.set1 (c : Int)));clear S3 c0 c1 c2 c3 c4 c5 c6 f1;generalize w3.setCell ⟨w.heap.size + 1, 1, none⟩ (.int .i64 (c : Int)) = w4 at *;obtain ⟨c0, c1, c2, c3, c4, c5, c6⟩ := S4.out.t.cells
 go_wp2_with fail
 refine (get_u32_ok R G zs 16 _ S4.out.rd hbt (by omega)).mono ?_;rw [← HR.out];rintro en w5 ⟨rfl, hr5, hg5⟩;have S5 := hJ (S4.out.call hr5 hg5);clear S4 hr5 hg5 c0 c1 c2 c3 c4 c5 c6;obtain ⟨c0, c1, c2, c3, c4, c5, c6⟩ := S5.out.t.cells;have f2 := S5.out.t.frozen 2;go_upto_region 5 with fail
 have S6 := hJ (S5.out.put 2 (.int .i64 (r : Int)) (S5.out.t.set2 (r : Int)));clear S5 c0 c1 c2 c3 c4 c5 c6 f2;generalize w5.setCell ⟨w.heap.size + 1, 2, none⟩ (.int .i64 (r : Int)) = w6 at *;obtain ⟨c0, c1, c2, c3, c4, c5, c6⟩ := S6.out.t.cells
 go_wp2_with fail
 refine (get_u8_ok R G zs 20 _ S6.out.rd hbt (by omega)).mono ?_;rw [← HT.out];rintro en w7 ⟨rfl, hr7, hg7⟩;have S7 := hJ (S6.out.call hr7 hg7);clear S6 hr7 hg7 c0 c1 c2 c3 c4 c5 c6;obtain ⟨c0, c1, c2, c3, c4, c5, c6⟩ := S7.out.t.cells;have f3 := S7.out.t.frozen 3;go_upto_region 6 with fail
 have S8 := hJ (S7.out.put 3 (.int .i64 (t : Int)) (S7.out.t.set3 (t : Int)));clear S7 c0 c1 c2 c3 c4 c5 c6 f3;generalize w7.setCell ⟨w.heap.size + 1, 3, none⟩ (.int .i64 (t : Int)) = w8 at *;obtain ⟨c0, c1, c2, c3, c4, c5, c6⟩ := S8.out.t.cells
 go_wp2_with fail
 refine (get_u64_ok R G zs 21 _ S8.out.rd hbt (by omega)).mono ?_;rw [← HK.out];rintro en w9 ⟨rfl, hr9, hg9⟩;have S9 := hJ (S8.out.call hr9 hg9);clear S8 hr9 hg9 c0 c1 c2 c3 c4 c5 c6;obtain ⟨c0, c1, c2, c3, c4, c5, c6⟩ := S9.out.t.cells;have f4 := S9.out.t.frozen 4;go_upto_region 7 with fail
 have S10 := hJ (S9.out.put 4 (.int .i64 (sg k)) (S9.out.t.set4 (sg k)));clear S9 c0 c1 c2 c3 c4 c5 c6 f4;generalize w9.setCell ⟨w.heap.size + 1, 4, none⟩ (.int .i64 (sg k)) = w10 at *;obtain ⟨c0, c1, c2, c3, c4, c5, c6⟩ := S10.out.t.cells
 go_wp2_with fail
 refine (get_u32_ok R G zs 29 _ S10.out.rd hbt (by omega)).mono ?_;rw [← HF.out];rintro en w11 ⟨rfl, hr11, hg11⟩;have S11 := hJ (S10.out.call hr11 hg11);clear S10 hr11 hg11 c0 c1 c2 c3 c4 c5 c6;obtain ⟨c0, c1, c2, c3, c4, c5, c6⟩ := S11.out.t.cells;have f5 := S11.out.t.frozen 5;go_upto_region 8 with fail
 have S12 := hJ (S11.out.put 5 (.int .i64 (f : Int)) (S11.out.t.set5 (f : Int)));clear S11 c0 c1 c2 c3 c4 c5 c6 f5;generalize w11.setCell ⟨w.heap.size + 1, 5, none⟩ (.int .i64 (f : Int)) = w12 at *;obtain ⟨c0, c1, c2, c3, c4, c5, c6⟩ := S12.out.t.cells
 go_wp2_with fail
 refine (get_u32_ok R G zs 33 _ S12.out.rd hbt (by omega)).mono ?_;rw [← HN.out];rintro en w13 ⟨rfl, hr13, hg13⟩;have S13 := hJ (S12.out.call hr13 hg13);clear S12 hr13 hg13 c0 c1 c2 c3 c4 c5 c6;obtain ⟨c0, c1, c2, c3, c4, c5, c6⟩ := S13.out.t.cells;have f6 := S13.out.t.frozen 6;go_upto_region 9 with fail
 have S14 := hJ (S13.out.put 6 (.int .i64 (n : Int)) (S13.out.t.set6 (n : Int)));clear S13 c0 c1 c2 c3 c4 c5 c6 f6;generalize w13.setCell ⟨w.heap.size + 1, 6, none⟩ (.int .i64 (n : Int)) = w14 at *;obtain ⟨c0, c1, c2, c3, c4, c5, c6⟩ := S14.out.t.cells
 go_wp2_with (refine wpList_store_head rfl _ _ rfl w.heap.size (sg v) c r t (sg k) f n 0 0 0 0 0 0 0 rfl rfl S14.out.u ?_)
 intro w15 hx15 hg15 hs15;have R15 := hJ (S14.out.rd.kept hg15 (fun e => S14.out.hU.1 (Option.some.inj e).symm) (fun e => S14.out.hU.2.1 (Option.some.inj e).symm));have G15 := hJ (grown_newR S14.out.gr hg15 (Nat.le_refl _));clear c0 c1 c2 c3 c4 c5 c6 S14 hg15 hs15;go_wp2;refine bodyPost_ret (ret_head rfl _ _ w.heap.size (sg v) c r t (sg k) f n rfl hx15) rfl ?_;exact ⟨rfl, R15.out, G15.out⟩
theorem rp (ao : Option Addr) (n c m : Nat) (zs : List Int) (x d : Nat) (w : World) (hb : Byt w ao n c zs) (hn : n ≤ 100) (hx : x < 18446744073709551616) (hd : d ≤ 8) (hm : m = n + d) :
  Calls Tryz.prog 90 #[.slice ao n c, .int .u64 x, .int .i64 d] w fun e w' => ∃ ao' c', e = .returned (.slice ao' m c') ∧ Byt w' ao' m c' (zs ++ lb d x) ∧ w.grownBy w' none := by
 subst hm;exact refPut_any ao n c zs x d w hb (by omega) hx hd
theorem rpo (ao : Option Addr) (n c m : Nat) (zs : List Int) (x d : Nat) (w : World) (hb : Byt w ao n c zs) (hn : n ≤ 100) (hx : x < 18446744073709551616) (hd : d ≤ 8) (hm : m = n + d) :
  Calls Tryz.prog 90 #[.slice ao n c, .int .u64 x, .int .i64 d] w fun e w' => ∃ ao' c', e = .returned (.slice ao' m c') ∧ w'.ownsRow w.heap.size 5 1 (.slice ao' m c') m ((zs ++ lb d x).map (Value.int .u8)) ∧ w.grownBy w' none := by
 subst hm;refine (refPut_own ao n c zs x d w hb (by omega) hx hd).mono ?_;rintro e w' ⟨a, b, h1, h2, h3, _⟩;exact ⟨a, b, h1, h2, h3⟩
theorem refEncode_no (v c r t k f n : Int) (w : World) (hm : may ⟨v, c, r, t, k, f, n⟩ = false) :
  Calls Tryz.prog 60 #[.agg #[.int .i64 v, .int .i64 c, .int .i64 r, .int .i64 t, .int .i64 k, .int .i64 f, .int .i64 n]] w fun en w' => en = .returned (.tuple #[.slice none 0 0, .int .i64 71]) ∧ w.grownBy w' none := by
 have HM := hJ hm;clear hm;go_enter Tryz.func60, Tryz.ntmps60
 go_wp2_with fail
 have G1 := hJ (World.grownBy_alloc w (.cells #[.int .i64 v, .int .i64 c, .int .i64 r, .int .i64 t, .int .i64 k, .int .i64 f, .int .i64 n] 28) none);generalize w.alloc (.cells #[.int .i64 v, .int .i64 c, .int .i64 r, .int .i64 t, .int .i64 k, .int .i64 f, .int .i64 n] 28) = w1 at *;refine (refMay_any v c r t k f n _).mono ?_;rintro en w2 ⟨rfl, hg2⟩;rw [HM.out];have G2 := hJ (gQ G1.out hg2);clear hg2 G1;go_wp2
 go_ret2
 exact ⟨rfl, G2.out⟩
theorem refEncode_yes (v c r t k f n : Nat) (w : World) (hm : may ⟨v, c, r, t, k, f, n⟩ = true) :
  Calls Tryz.prog 60 #[.agg #[.int .i64 v, .int .i64 c, .int .i64 r, .int .i64 t, .int .i64 k, .int .i64 f, .int .i64 n]] w fun en w' => ∃ ao cp, en = .returned (.tuple #[.slice ao 4092 cp, .int .i64 0]) ∧ Byt w' ao 4092 cp (mB ⟨v, c, r, t, k, f, n⟩) ∧ w.grownBy w' none := by
 have hb := may_bounds hm;simp only at hb;have HM := hJ hm;have hv : v < 18446744073709551616 := by omega
 have hc : c < 18446744073709551616 := by omega
 have hr : r < 18446744073709551616 := by omega
 have ht : t < 18446744073709551616 := by omega
 have hk : k < 18446744073709551616 := by omega
 have hf : f < 18446744073709551616 := by omega
 have hn : n < 18446744073709551616 := by omega
 have wv : IntKind.u64.wrap (v : Int) = (v : Int) := by simp [IntKind.wrap, IntKind.bits, IntKind.signed]; omega
 have wc : IntKind.u64.wrap (c : Int) = (c : Int) := by simp [IntKind.wrap, IntKind.bits, IntKind.signed]; omega
 have wrr : IntKind.u64.wrap (r : Int) = (r : Int) := by simp [IntKind.wrap, IntKind.bits, IntKind.signed]; omega
 have wt : IntKind.u64.wrap (t : Int) = (t : Int) := by simp [IntKind.wrap, IntKind.bits, IntKind.signed]; omega
 have wk : IntKind.u64.wrap (k : Int) = (k : Int) := by simp [IntKind.wrap, IntKind.bits, IntKind.signed]; omega
 have wf : IntKind.u64.wrap (f : Int) = (f : Int) := by simp [IntKind.wrap, IntKind.bits, IntKind.signed]; omega
 have wn : IntKind.u64.wrap (n : Int) = (n : Int) := by simp [IntKind.wrap, IntKind.bits, IntKind.signed]; omega
 clear hb hm;obtain ⟨P, hP⟩ : ∃ P, P = kb4 ++ nb ⟨v, c, r, t, k, f, n⟩ := ⟨_, rfl⟩
 have HP : Hid ([5, 99, 111, 112] ++ lb 8 v ++ lb 4 c ++ lb 4 r ++ lb 1 t ++ lb 8 k ++ lb 4 f ++ lb 4 n = P) := by
  show _ = _
  rw [hP];simp [nb, kb4]
 have HMB : Hid (P ++ (List.replicate 4051 0 ++ [101, 110, 100, 46]) = mB ⟨v, c, r, t, k, f, n⟩) := by
  show _ = _
  rw [hP, List.append_assoc]
  rfl
 clear hP;generalize mB ⟨v, c, r, t, k, f, n⟩ = M at *;go_enter Tryz.func60, Tryz.ntmps60
 go_wp2_with fail
 have G1 := hJ (World.grownBy_alloc w (.cells #[.int .i64 v, .int .i64 c, .int .i64 r, .int .i64 t, .int .i64 k, .int .i64 f, .int .i64 n] 28) none);have X1 := hJ (Hx.new w v c r t k f n);generalize w.alloc (.cells #[.int .i64 v, .int .i64 c, .int .i64 r, .int .i64 t, .int .i64 k, .int .i64 f, .int .i64 n] 28) = w1 at *;refine (refMay_any v c r t k f n _).mono ?_;rintro en w2 ⟨rfl, hg2⟩;rw [HM.out];have G2 := hJ (gQ G1.out hg2);have X2 := hJ (X1.out.keptN hg2);clear hg2 G1 X1 HM;go_upto_region 5 with fail
 have B3 := hJ (Byt.lit w2 5 #[.int .u8 5, .int .u8 99, .int .u8 111, .int .u8 112] [5, 99, 111, 112] 4 rfl rfl);have gg := World.grownBy_alloc w2 (.cells #[.int .u8 5, .int .u8 99, .int .u8 111, .int .u8 112] 5) none;have G3 := hJ (gQ G2.out gg);have X3 := hJ (X2.out.keptN gg);clear gg G2 X2;generalize w2.alloc (.cells #[.int .u8 5, .int .u8 99, .int .u8 111, .int .u8 112] 5) = w3 at *;obtain ⟨c0, c1, c2, c3, c4, c5, c6⟩ := X3.out.cells
 go_wp2_with fail
 refine (rp _ 4 _ 12 _ v 8 _ B3.out (by omega) hv (by omega) rfl).mono ?_;rintro en w4 ⟨a4, q4, rfl, hb4, hg4⟩;have B4 := hJ hb4;have G4 := hJ (gQ G3.out hg4);have X4 := hJ (X3.out.keptN hg4);clear hb4 hg4 B3 G3 X3 c0 c1 c2 c3 c4 c5 c6;obtain ⟨c0, c1, c2, c3, c4, c5, c6⟩ := X4.out.cells
 go_wp2_with fail
 refine (rp _ 12 _ 16 _ c 4 _ B4.out (by omega) hc (by omega) rfl).mono ?_;rintro en w5 ⟨a5, q5, rfl, hb5, hg5⟩;have B5 := hJ hb5;have G5 := hJ (gQ G4.out hg5);have X5 := hJ (X4.out.keptN hg5);clear hb5 hg5 B4 G4 X4 c0 c1 c2 c3 c4 c5 c6;obtain ⟨c0, c1, c2, c3, c4, c5, c6⟩ := X5.out.cells
 go_wp2_with fail
 refine (rp _ 16 _ 20 _ r 4 _ B5.out (by omega) hr (by omega) rfl).mono ?_;rintro en w6 ⟨a6, q6, rfl, hb6, hg6⟩;have B6 := hJ hb6;have G6 := hJ (gQ G5.out hg6);have X6 := hJ (X5.out.keptN hg6);clear hb6 hg6 B5 G5 X5 c0 c1 c2 c3 c4 c5 c6;obtain ⟨c0, c1, c2, c3, c4, c5, c6⟩ := X6.out.cells
 go_wp2_with fail
 refine (rp _ 20 _ 21 _ t 1 _ B6.out (by omega) ht (by omega) rfl).mono ?_;rintro en w7 ⟨a7, q7, rfl, hb7, hg7⟩;have B7 := hJ hb7;have G7 := hJ (gQ G6.out hg7);have X7 := hJ (X6.out.keptN hg7);clear hb7 hg7 B6 G6 X6 c0 c1 c2 c3 c4 c5 c6;obtain ⟨c0, c1, c2, c3, c4, c5, c6⟩ := X7.out.cells
 go_wp2_with fail
 refine (rp _ 21 _ 29 _ k 8 _ B7.out (by omega) hk (by omega) rfl).mono ?_;rintro en w8 ⟨a8, q8, rfl, hb8, hg8⟩;have B8 := hJ hb8;have G8 := hJ (gQ G7.out hg8);have X8 := hJ (X7.out.keptN hg8);clear hb8 hg8 B7 G7 X7 c0 c1 c2 c3 c4 c5 c6;obtain ⟨c0, c1, c2, c3, c4, c5, c6⟩ := X8.out.cells
 go_wp2_with fail
 refine (rp _ 29 _ 33 _ f 4 _ B8.out (by omega) hf (by omega) rfl).mono ?_;rintro en w9 ⟨a9, q9, rfl, hb9, hg9⟩;have B9 := hJ hb9;have G9 := hJ (gQ G8.out hg9);have X9 := hJ (X8.out.keptN hg9);clear hb9 hg9 B8 G8 X8 c0 c1 c2 c3 c4 c5 c6;obtain ⟨c0, c1, c2, c3, c4, c5, c6⟩ := X9.out.cells
 go_wp2_with fail
 refine (rpo _ 33 _ 37 _ n 4 _ B9.out (by omega) hn (by omega) rfl).mono ?_;rintro en w10 ⟨a10, q10, rfl, ho10, hg10⟩;rw [HP.out] at ho10;have O10 : Hid (w10.ownsRow w9.heap.size 5 1 (.slice a10 37 q10) (37 + 0) ((P ++ List.replicate 0 0).map (Value.int .u8))) := by rw [List.replicate_zero, List.append_nil]; exact ho10
 have SB := hJ G9.out.size;have SB2 := hJ hg10.size;have G10 := hJ (gQ G9.out hg10);clear ho10 hg10 B9 G9 X9 c0 c1 c2 c3 c4 c5 c6 HP;generalize w9.heap.size = bs at *;go_wp2;go_loopw [5] (fun out wr => ∃ k : Nat, 37 + k ≤ 4088 ∧ wr.ownsRow bs 5 1 out (37 + k) ((P ++ List.replicate k 0).map (Value.int .u8)) ∧ w.grownBy wr none ∧ bs ≤ wr.heap.size) (fun out _ => 4088 - (match out with | .slice _ l _ => l | _ => 0))
 case atStart => exact ⟨0, by omega, O10.out, G10.out, SB2.out⟩
 case round =>
  obtain ⟨j, hj, ho, hg, hsz⟩ := hrel;obtain ⟨ao, cp, hv', hB⟩ := owns_any ho;subst hv'
  by_cases hlt : 37 + j < 4088
  ·have hg1 := World.grownBy_alloc wr (.cells #[.int .u8 0] 5) none
   have HBL := hJ (Byt.lit wr 5 _ [0] 1 rfl rfl);have O7 := hJ (ho.alloc (.cells #[.int .u8 0] 5));have G7 := hJ (gQ hg hg1);have S7 := hJ (Nat.le_trans hsz hg1.size);have HOO := hJ ho;have HGG := hJ hg;obtain ⟨N, hN⟩ : ∃ N, N = 37 + j := ⟨_, rfl⟩;rw [← hN] at O7 hlt hB hj HOO ⊢;have HNN := hJ hN;clear hg1 ho hg hB hN hsz;have hlt2 : (N : Int) < 4088 := by omega
   go_wp2_with (at_builtin; refine wpList_append_byt rfl _ _ rfl bs _ N (P ++ List.replicate j 0) rfl O7.out (some ⟨wr.heap.size, 0, none⟩) 1 1 [0] rfl HBL.out (by omega) S7.out ?_)
   intro v8 w8 h8 g8;have hg8 := grown_own HGG.out HOO.out SB.out g8;have S8 := hJ (Nat.le_trans S7.out g8.size)
   have h8' : w8.ownsRow bs 5 1 v8 (N + 1) ((P ++ List.replicate (j + 1) 0).map (Value.int .u8)) := by
    rw [List.replicate_succ', ← List.append_assoc, List.map_append];simpa using h8
   have O8 := hJ h8';have G8 := hJ hg8;obtain ⟨ao8, c8, hv8, _⟩ := owns_any h8';subst hv8;clear h8 h8' g8 hg8 O7 G7 HBL S7;go_wp2;go_roundw
   case rel =>
    refine ⟨j + 1, by have := HNN.out; omega, ?_, G8.out, S8.out⟩;rw [← Nat.add_assoc, ← HNN.out];exact O8.out
   case measure => simp; omega
  ·obtain rfl : j = 4051 := by omega
   have hg1 := World.grownBy_alloc wr (.cells #[.int .u8 101, .int .u8 110, .int .u8 100, .int .u8 46] 5) none;have HBL := hJ (Byt.lit wr 5 #[.int .u8 101, .int .u8 110, .int .u8 100, .int .u8 46] [101, 110, 100, 46] 4 rfl rfl);have O7 := hJ (ho.alloc (.cells #[.int .u8 101, .int .u8 110, .int .u8 100, .int .u8 46] 5));have S7 := hJ (Nat.le_trans hsz hg1.size);have HOO := hJ ho;have HGG := hJ hg;clear hg1 ho hg hB hsz hj hlt;obtain ⟨Y, hY⟩ : ∃ Y, Y = P ++ List.replicate 4051 0 := ⟨_, rfl⟩;rw [← hY] at O7 HOO;have HY := hJ hY;clear hY
   go_wp2_with (at_builtin; refine wpList_append_byt rfl _ _ rfl bs _ 4088 Y rfl O7.out (some ⟨wr.heap.size, 0, none⟩) 4 4 [101, 110, 100, 46] rfl HBL.out (by omega) S7.out ?_)
   intro v8 w8 h8 g8;have G8 := hJ (grown_own HGG.out HOO.out SB.out g8);have h8' : w8.ownsRow bs 5 1 v8 4092 ((Y ++ [101, 110, 100, 46]).map (Value.int .u8)) := by rw [List.map_append]; exact h8
   obtain ⟨ao8, c8, hv8, hB8⟩ := owns_any h8';subst hv8
   have B8 : Hid (Byt w8 ao8 4092 c8 M) := by
    show Byt _ _ _ _ _
    rw [← HMB.out, ← List.append_assoc, ← HY.out];exact hB8
   clear h8 h8' g8 hB8 O7 HBL S7;go_wp2
   go_ret2
   exact ⟨_, _, rfl, B8.out, G8.out⟩
theorem refNumber_any (x : Nat) (w : World) (hx : x < 18446744073709551616) : Calls Tryz.prog 68 #[.int .u64 x] w fun en w' => en = .returned (.int .i64 (cm x)) ∧ w' = w := by
 by_cases h : 4611686018427387904 < x
 ·have h' : (4611686018427387904 : Int) < (x : Int) := by omega
  have e : Hid (cm x = 4611686018427387905) := by show _ = _; unfold cm; rw [if_pos h]
  go_enter Tryz.func68, Tryz.ntmps68;go_wp2;go_ret;exact ⟨by rw [e.out]; rfl, rfl⟩
 ·have h' : ¬ (4611686018427387904 : Int) < (x : Int) := by omega
  have e : Hid (cm x = (x : Int)) := by show _ = _; unfold cm; rw [if_neg h]
  have q : wrap64 (x : Int) = (x : Int) := by unfold wrap64; omega
  have q2 : IntKind.i64.wrap (x : Int) = (x : Int) := by simp [IntKind.wrap, IntKind.bits, IntKind.signed]; omega
  go_enter Tryz.func68, Tryz.ntmps68;go_wp2;go_ret;exact ⟨by rw [e.out]; rfl, rfl⟩
theorem refDecode_short (ao : Option Addr) (n cap : Nat) (w : World) (h : n ≠ 4092) :
  Calls Tryz.prog 45 #[.slice ao n cap] w fun en w' => en = .returned (.tuple #[.agg #[.int .i64 0, .int .i64 0, .int .i64 0, .int .i64 0, .int .i64 0, .int .i64 0, .int .i64 0], .int .i64 70]) ∧ w.grownBy w' none := by
 have h' : ¬ (n : Int) = 4092 := by omega
 go_enter Tryz.func45, Tryz.ntmps45;go_wp2;refine bodyPost_ret (ret_head_tmp rfl _ _ w.heap.size 0 0 0 0 0 0 0 rfl (Hx.new w 0 0 0 0 0 0 0)) rfl ?_;exact ⟨rfl, World.grownBy_alloc w _ none⟩
structure Rq7 (w w' : World) (R G U T : Nat) (zs : List Int) (p : Nat) (v c r t k f n : Int) : Prop where
 rd : Rr w' R G zs p 0
 u : Hx w' U 0 0 0 0 0 0 0
 t : Hx w' T v c r t k f n
 gr : w.grownBy w' none
 hT : T ≠ R ∧ T ≠ G ∧ T ≠ U ∧ w.heap.size ≤ T
 hU : U ≠ R ∧ U ≠ G ∧ w.heap.size ≤ U
 hR : w.heap.size ≤ R
theorem Rq7.call {w w' w'' : World} {R G U T : Nat} {zs : List Int} {p p' : Nat} {v c r t k f n : Int} (h : Rq7 w w' R G U T zs p v c r t k f n) (hr : Rr w'' R G zs p' 0) (hg : w'.grownBy w'' (some R)) : Rq7 w w'' R G U T zs p' v c r t k f n :=
 ⟨hr, h.u.kept hg (fun e => h.hU.1 (Option.some.inj e)), h.t.kept hg (fun e => h.hT.1 (Option.some.inj e)), grown_new h.gr hg h.hR, h.hT, h.hU, h.hR⟩
theorem Rq7.put {w w' : World} {R G U T : Nat} {zs : List Int} {p : Nat} {v c r t k f n v' c' r' t' k' f' n' : Int} (h : Rq7 w w' R G U T zs p v c r t k f n) (j : Nat) (x : Value) (ht : Hx (w'.setCell ⟨T, j, none⟩ x) T v' c' r' t' k' f' n') : Rq7 w (w'.setCell ⟨T, j, none⟩ x) R G U T zs p v' c' r' t' k' f' n' :=
 ⟨h.rd.kept (grown_cell w' T j x) (fun e => h.hT.1 (Option.some.inj e).symm) (fun e => h.hT.2.1 (Option.some.inj e).symm), h.u.kept (grown_cell w' T j x) (fun e => h.hT.2.2.1 (Option.some.inj e).symm), ht, grown_new h.gr (grown_cell w' T j x) h.hT.2.2.2, h.hT, h.hU, h.hR⟩
theorem refDecode_full (ao : Option Addr) (cap : Nat) (zs : List Int) (w : World) (hb : Byt w ao 4092 cap zs) (hbt : Bt zs) :
  Calls Tryz.prog 45 #[.slice ao 4092 cap] w fun en w' => en = .returned (.tuple #[.agg #[.int .i64 (aH zs).v, .int .i64 (aH zs).c, .int .i64 (aH zs).r, .int .i64 (aH zs).h, .int .i64 (aH zs).k, .int .i64 (aH zs).f, .int .i64 (aH zs).n], .int .i64 (aE zs)]) ∧ w.grownBy w' none := by
 have hl := hb.len;have HB := hJ hb;clear hb;obtain ⟨v, hv⟩ : ∃ v, v = le 8 (zs.drop 4) := ⟨_, rfl⟩;obtain ⟨c, hc⟩ : ∃ c, c = le 4 (zs.drop 12) := ⟨_, rfl⟩;obtain ⟨r, hr⟩ : ∃ r, r = le 4 (zs.drop 16) := ⟨_, rfl⟩;obtain ⟨t, ht⟩ : ∃ t, t = le 1 (zs.drop 20) := ⟨_, rfl⟩;obtain ⟨k, hk⟩ : ∃ k, k = le 8 (zs.drop 21) := ⟨_, rfl⟩;obtain ⟨f, hf⟩ : ∃ f, f = le 4 (zs.drop 29) := ⟨_, rfl⟩;obtain ⟨n, hn⟩ : ∃ n, n = le 4 (zs.drop 33) := ⟨_, rfl⟩;have lv : v < 18446744073709551616 := by rw [hv]; have := le_lt 8 _ (hbt.drop 4); omega
 have lk : k < 18446744073709551616 := by rw [hk]; have := le_lt 8 _ (hbt.drop 21); omega
 have lc : c < 4294967296 := by rw [hc]; have := le_lt 4 _ (hbt.drop 12); omega
 have lr : r < 4294967296 := by rw [hr]; have := le_lt 4 _ (hbt.drop 16); omega
 have lt' : t < 256 := by rw [ht]; have := le_lt 1 _ (hbt.drop 20); omega
 have lf' : f < 4294967296 := by rw [hf]; have := le_lt 4 _ (hbt.drop 29); omega
 have ln : n < 4294967296 := by rw [hn]; have := le_lt 4 _ (hbt.drop 33); omega
 have wc : wrap64 (c : Int) = (c : Int) := by unfold wrap64; omega
 have wrr : wrap64 (r : Int) = (r : Int) := by unfold wrap64; omega
 have wt : wrap64 (t : Int) = (t : Int) := by unfold wrap64; omega
 have wf : wrap64 (f : Int) = (f : Int) := by unfold wrap64; omega
 have wn : wrap64 (n : Int) = (n : Int) := by unfold wrap64; omega
 have E : Hid (qH zs = ⟨cm v, c, r, t, cm k, f, n⟩) := by
  show _ = _
  rw [hv, hc, hr, ht, hk, hf, hn]
  rfl
 have HV := hJ hv;have HC := hJ hc;have HR := hJ hr;have HT := hJ ht;have HK := hJ hk;have HF := hJ hf;have HN := hJ hn;have LV := hJ lv;have LK := hJ lk;clear hv hc hr ht hk hf hn lv lk lc lr lt' lf' ln;go_enter Tryz.func45, Tryz.ntmps45;go_upto_region 3 with fail
 have U1 := hJ (Hx.new w 0 0 0 0 0 0 0);have G1 := hJ (World.grownBy_alloc w (.cells #[.int .i64 0, .int .i64 0, .int .i64 0, .int .i64 0, .int .i64 0, .int .i64 0, .int .i64 0] 28) none);generalize w.alloc (.cells #[.int .i64 0, .int .i64 0, .int .i64 0, .int .i64 0, .int .i64 0, .int .i64 0, .int .i64 0] 28) = w1 at *
 go_wp2_with fail
 refine (refNew_any ao 4092 cap zs _ (HB.out.keptN G1.out) (by omega)).mono ?_;rintro en w2 ⟨R, rfl, hr2, hg2, hs2⟩;have U2 := hJ (U1.out.keptN hg2);have G2 := hJ (gQ G1.out hg2);have L2 := hJ (show w.heap.size < w1.heap.size from U1.out.lt);clear hg2 U1 G1
 go_wp2_with fail
 refine (rbytes_ok R w1.heap.size zs 0 4 _ hr2 (by omega)).mono ?_;rintro en w3 ⟨ao3, rfl, hb3, hr3, hg3⟩;have U3 := hJ (U2.out.kept hg3 (fun e => by have := Option.some.inj e; have := L2.out; omega));have G3 := hJ (grown_new G2.out hg3 (by have := L2.out; omega));clear hg3 hr2 hb3 U2 G2;go_upto_region 6 with fail
 have gg := World.grownBy_alloc w3 (.cells #[.int .i64 0, .int .i64 0, .int .i64 0, .int .i64 0, .int .i64 0, .int .i64 0, .int .i64 0] 28) none
 have S0 : Hid (Rq7 w (w3.alloc (.cells #[.int .i64 0, .int .i64 0, .int .i64 0, .int .i64 0, .int .i64 0, .int .i64 0, .int .i64 0] 28)) R w1.heap.size w.heap.size w3.heap.size zs 4 0 0 0 0 0 0 0) := by
  have l1 := L2.out;have l2 := hr3.lt;have l3 := U3.out.lt;have l4 := G3.out.size;exact ⟨hr3.kept gg (by simp) (by simp), U3.out.keptN gg, Hx.new w3 0 0 0 0 0 0 0, gQ G3.out gg, ⟨by omega, by omega, by omega, by omega⟩, ⟨by omega, by omega, Nat.le_refl _⟩, by omega⟩
 clear gg hr3 U3 G3 L2;generalize w3.alloc (.cells #[.int .i64 0, .int .i64 0, .int .i64 0, .int .i64 0, .int .i64 0, .int .i64 0, .int .i64 0] 28) = w0 at *;generalize w3.heap.size = T at *;generalize w1.heap.size = G at *;clear w3 w1;obtain ⟨c0, c1, c2, c3, c4, c5, c6⟩ := S0.out.t.cells
 go_wp2_with fail
 refine (rnum_ok R G zs 4 8 _ S0.out.rd hbt (by omega) (by omega)).mono ?_;rw [← HV.out];rintro en w1 ⟨rfl, hr1, hg1⟩;have S1 := hJ (S0.out.call hr1 hg1);clear S0 hr1 hg1 c0 c1 c2 c3 c4 c5 c6
 go_wp2_with fail
 refine (refNumber_any v _ LV.out).mono ?_;rintro en w1 ⟨rfl, rfl⟩;obtain ⟨c0, c1, c2, c3, c4, c5, c6⟩ := S1.out.t.cells;have f0 := S1.out.t.frozen 0;go_upto_region 7 with fail
 have S2 := hJ (S1.out.put 0 (.int .i64 (cm v)) (S1.out.t.set0 (cm v)));clear S1 c0 c1 c2 c3 c4 c5 c6 f0;generalize w1.setCell ⟨T, 0, none⟩ (.int .i64 (cm v)) = w2 at *;obtain ⟨c0, c1, c2, c3, c4, c5, c6⟩ := S2.out.t.cells
 go_wp2_with fail
 refine (rnum_ok R G zs 12 4 _ S2.out.rd hbt (by omega) (by omega)).mono ?_;rw [← HC.out];rintro en w3 ⟨rfl, hr3, hg3⟩;have S3 := hJ (S2.out.call hr3 hg3);clear S2 hr3 hg3 c0 c1 c2 c3 c4 c5 c6;obtain ⟨c0, c1, c2, c3, c4, c5, c6⟩ := S3.out.t.cells;have f1 := S3.out.t.frozen 1;go_upto_region 8 with fail
 have S4 := hJ (S3.out.put 1 (.int .i64 (c : Int)) (S3.out.t.set1 (c : Int)));clear S3 c0 c1 c2 c3 c4 c5 c6 f1;generalize w3.setCell ⟨T, 1, none⟩ (.int .i64 (c : Int)) = w4 at *;obtain ⟨c0, c1, c2, c3, c4, c5, c6⟩ := S4.out.t.cells
 go_wp2_with fail
 refine (rnum_ok R G zs 16 4 _ S4.out.rd hbt (by omega) (by omega)).mono ?_;rw [← HR.out];rintro en w5 ⟨rfl, hr5, hg5⟩;have S5 := hJ (S4.out.call hr5 hg5);clear S4 hr5 hg5 c0 c1 c2 c3 c4 c5 c6;obtain ⟨c0, c1, c2, c3, c4, c5, c6⟩ := S5.out.t.cells;have f2 := S5.out.t.frozen 2;go_upto_region 9 with fail
 have S6 := hJ (S5.out.put 2 (.int .i64 (r : Int)) (S5.out.t.set2 (r : Int)));clear S5 c0 c1 c2 c3 c4 c5 c6 f2;generalize w5.setCell ⟨T, 2, none⟩ (.int .i64 (r : Int)) = w6 at *;obtain ⟨c0, c1, c2, c3, c4, c5, c6⟩ := S6.out.t.cells
 go_wp2_with fail
 refine (rnum_ok R G zs 20 1 _ S6.out.rd hbt (by omega) (by omega)).mono ?_;rw [← HT.out];rintro en w7 ⟨rfl, hr7, hg7⟩;have S7 := hJ (S6.out.call hr7 hg7);clear S6 hr7 hg7 c0 c1 c2 c3 c4 c5 c6;obtain ⟨c0, c1, c2, c3, c4, c5, c6⟩ := S7.out.t.cells;have f3 := S7.out.t.frozen 3;go_upto_region 10 with fail
 have S8 := hJ (S7.out.put 3 (.int .i64 (t : Int)) (S7.out.t.set3 (t : Int)));clear S7 c0 c1 c2 c3 c4 c5 c6 f3;generalize w7.setCell ⟨T, 3, none⟩ (.int .i64 (t : Int)) = w8 at *;obtain ⟨c0, c1, c2, c3, c4, c5, c6⟩ := S8.out.t.cells
 go_wp2_with fail
 refine (rnum_ok R G zs 21 8 _ S8.out.rd hbt (by omega) (by omega)).mono ?_;rw [← HK.out];rintro en w9 ⟨rfl, hr9, hg9⟩;have S9 := hJ (S8.out.call hr9 hg9);clear S8 hr9 hg9 c0 c1 c2 c3 c4 c5 c6
 go_wp2_with fail
 refine (refNumber_any k _ LK.out).mono ?_;rintro en w9 ⟨rfl, rfl⟩;obtain ⟨c0, c1, c2, c3, c4, c5, c6⟩ := S9.out.t.cells;have f4 := S9.out.t.frozen 4;go_upto_region 11 with fail
 have S10 := hJ (S9.out.put 4 (.int .i64 (cm k)) (S9.out.t.set4 (cm k)));clear S9 c0 c1 c2 c3 c4 c5 c6 f4;generalize w9.setCell ⟨T, 4, none⟩ (.int .i64 (cm k)) = w10 at *;obtain ⟨c0, c1, c2, c3, c4, c5, c6⟩ := S10.out.t.cells
 go_wp2_with fail
 refine (rnum_ok R G zs 29 4 _ S10.out.rd hbt (by omega) (by omega)).mono ?_;rw [← HF.out];rintro en w11 ⟨rfl, hr11, hg11⟩;have S11 := hJ (S10.out.call hr11 hg11);clear S10 hr11 hg11 c0 c1 c2 c3 c4 c5 c6;obtain ⟨c0, c1, c2, c3, c4, c5, c6⟩ := S11.out.t.cells;have f5 := S11.out.t.frozen 5;go_upto_region 12 with fail
 have S12 := hJ (S11.out.put 5 (.int .i64 (f : Int)) (S11.out.t.set5 (f : Int)));clear S11 c0 c1 c2 c3 c4 c5 c6 f5;generalize w11.setCell ⟨T, 5, none⟩ (.int .i64 (f : Int)) = w12 at *;obtain ⟨c0, c1, c2, c3, c4, c5, c6⟩ := S12.out.t.cells
 go_wp2_with fail
 refine (rnum_ok R G zs 33 4 _ S12.out.rd hbt (by omega) (by omega)).mono ?_;rw [← HN.out];rintro en w13 ⟨rfl, hr13, hg13⟩;have S13 := hJ (S12.out.call hr13 hg13);clear S12 hr13 hg13 c0 c1 c2 c3 c4 c5 c6;obtain ⟨c0, c1, c2, c3, c4, c5, c6⟩ := S13.out.t.cells;have f6 := S13.out.t.frozen 6;go_upto_region 13 with fail
 have S14 := hJ (S13.out.put 6 (.int .i64 (n : Int)) (S13.out.t.set6 (n : Int)));clear S13 c0 c1 c2 c3 c4 c5 c6 f6;generalize w13.setCell ⟨T, 6, none⟩ (.int .i64 (n : Int)) = w14 at *;obtain ⟨c0, c1, c2, c3, c4, c5, c6⟩ := S14.out.t.cells;cases hm : may (qH zs) with
 | false =>
  have hm2 := hm;rw [E.out] at hm2
  have HD : Hid (dM zs = false) := by
   cases hh : dM zs with
   | false => rfl
   | true =>
    have h1 := (dM_parts hh).2.1;rw [← may_qH hbt, hm] at h1;exact absurd h1 (by decide)
  have HM := hJ hm2;clear hm hm2
  go_wp2_with fail
  refine (refEncode_no (cm v) c r t (cm k) f n _ HM.out).mono ?_;rintro en w15 ⟨rfl, hg15⟩;have U15 := hJ (S14.out.u.keptN hg15);have G15 := hJ (gQ S14.out.gr hg15);have B15 := hJ (HB.out.keptN G15.out);clear c0 c1 c2 c3 c4 c5 c6 S14 hg15
  go_wp2_with fail
  refine (same_no none ao 0 4092 0 cap [] zs _ (Byt.empty _) B15.out Bt.nil hbt (by intro e; rw [← e] at hl; cases hl)).mono ?_;rintro en w15 ⟨rfl, rfl⟩
  go_wp2_with (refine wpList_store_head rfl _ _ rfl w.heap.size 0 0 0 0 0 0 0 0 0 0 0 0 0 0 rfl rfl U15.out ?_)
  intro w16 hx16 hg16 hs16;have G16 := hJ (grown_new G15.out hg16 (Nat.le_refl _));clear hg16 hs16;go_wp2;refine bodyPost_ret (ret_head_tmp rfl _ _ w.heap.size 0 0 0 0 0 0 0 rfl hx16) rfl ?_;rw [(a_no HD.out).1, (a_no HD.out).2];exact ⟨rfl, G16.out⟩
 | true =>
  have hm2 := hm;rw [may_qH hbt] at hm2;have HQ : Hid (qH zs = rH zs) := qH_rH hbt hm2;have hm3 := hm;rw [E.out] at hm3;have b := may_bounds hm3;simp only at b;obtain ⟨v', hv'⟩ : ∃ v' : Nat, cm v = (v' : Int) := ⟨(cm v).toNat, by omega⟩;obtain ⟨k', hk'⟩ : ∃ k' : Nat, cm k = (k' : Int) := ⟨(cm k).toNat, by omega⟩;generalize cm v = xv at *;generalize cm k = xk at *;subst hv' hk';have HM := hJ hm3;have HM2 := hJ hm2;clear hm hm2 hm3 b
  go_wp2_with fail
  refine (refEncode_yes v' c r t k' f n _ HM.out).mono ?_;rintro en w15 ⟨a15, q15, rfl, hb15, hg15⟩;have U15 := hJ (S14.out.u.keptN hg15);have T15 := hJ (S14.out.t.keptN hg15);have G15 := hJ (gQ S14.out.gr hg15);have B15 := hJ (HB.out.keptN G15.out);have C15 := hJ hb15;clear c0 c1 c2 c3 c4 c5 c6 S14 hg15 hb15
  by_cases hq : mB ⟨v', c, r, t, k', f, n⟩ = zs
  ·have HD : Hid (dM zs = true) := by
    show _ = _
    rw [← E.out, HQ.out] at hq;simp [dM, hl, HM2.out, hq]
   have HQQ := hJ hq;clear hq
   go_wp2_with fail
   refine (same_yes a15 ao 4092 4092 q15 cap _ _ _ C15.out B15.out HQQ.out).mono ?_;rintro en w15 ⟨rfl, rfl⟩;obtain ⟨c0, c1, c2, c3, c4, c5, c6⟩ := T15.out.cells
   go_wp2_with (refine wpList_store_head rfl _ _ rfl w.heap.size v' c r t k' f n 0 0 0 0 0 0 0 rfl rfl U15.out ?_)
   intro w16 hx16 hg16 hs16;have G16 := hJ (grown_new G15.out hg16 (Nat.le_refl _));clear hg16 hs16 c0 c1 c2 c3 c4 c5 c6;go_wp2;refine bodyPost_ret (ret_head_tmp rfl _ _ w.heap.size v' c r t k' f n rfl hx16) rfl ?_;rw [(a_yes HD.out).1, (a_yes HD.out).2, ← HQ.out, E.out];exact ⟨rfl, G16.out⟩
  ·have HD : Hid (dM zs = false) := by
    cases hh : dM zs with
    | false => rfl
    | true => exact absurd (by rw [← E.out, HQ.out]; exact (dM_parts hh).2.2) hq
   have HQQ := hJ hq;clear hq
   go_wp2_with fail
   refine (same_no a15 ao 4092 4092 q15 cap _ _ _ C15.out B15.out (mB_bt _) hbt HQQ.out).mono ?_;rintro en w15 ⟨rfl, rfl⟩
   go_wp2_with (refine wpList_store_head rfl _ _ rfl w.heap.size 0 0 0 0 0 0 0 0 0 0 0 0 0 0 rfl rfl U15.out ?_)
   intro w16 hx16 hg16 hs16;have G16 := hJ (grown_new G15.out hg16 (Nat.le_refl _));clear hg16 hs16;go_wp2;refine bodyPost_ret (ret_head_tmp rfl _ _ w.heap.size 0 0 0 0 0 0 0 rfl hx16) rfl ?_;rw [(a_no HD.out).1, (a_no HD.out).2];exact ⟨rfl, G16.out⟩
theorem wpList_on {P : Program} {w : World} {ops : Array Oper} {rest : List Oper} {o : Oper} {a : Act} {Q : Exit → Act → World → Prop} (hw : Region.wanted o (yielded ops a.tmps) = true)
  (h : ∀ K : Act → World → Prop, (∀ a w, wpList P ops Q rest a w → K a w) → o.wp P a w K Q) : wpList P ops Q (o :: rest) a w :=
 wpList_step fun K hK => by rw [if_pos hw]; exact h K hK
theorem wpList_load_on {t : TypeId} {N : Nat} (ha : Arr t N) {w : World} {ops : Array Oper} {rest : List Oper} {o : Oper} {a : Act} {Q : Exit → Act → World → Prop} (hw : Region.wanted o (yielded ops a.tmps) = true) (p : Operand) (ho : o.op = .load t p) (g : Nat) (zs : List Int) (hp : a.eval p = .pointer (some ⟨g, 0, none⟩)) (hr : Rt w g t zs) (hl : zs.length = N)
  (h : wpList Tryz.prog ops Q rest (a.put o.dst (agB zs)) w) : wpList Tryz.prog ops Q (o :: rest) a w := by
 refine wpList_on hw fun K hK => ?_
 unfold Oper.wp;have hv := run_loadVar_row (P := Tryz.prog) w g t t _ (0, 0) _ hr ha.und rfl (by rw [ha.size]; simp [hl])
 have hr : (execOp a.eval o).run Tryz.prog w = .ok (.value (agB zs)) w := by
  simp [execOp, ho, hp, Instr.loadAt, Instr.sureAddr, hv, agB, Result.andThen]
 rw [hr, Oper.upon_value];exact hK _ _ h
theorem wpList_build_on {t : TypeId} {N : Nat} (ha : Arr t N) {w : World} {ops : Array Oper} {rest : List Oper} {o : Oper} {a : Act} {Q : Exit → Act → World → Prop} (hw : Region.wanted o (yielded ops a.tmps) = true) (ho : o.op = .build t #[]) (Z : List Int) (hZ : Z = List.replicate N 0)
  (h : wpList Tryz.prog ops Q rest (a.put o.dst (agB Z)) w) : wpList Tryz.prog ops Q (o :: rest) a w := by
 obtain ⟨i, z, h1, h2, h3⟩ := ha.parts;obtain ⟨i8, h8⟩ := info_u8_is;refine wpList_on hw fun K hK => ?_
 unfold Oper.wp
 have hr : (execOp a.eval o).run Tryz.prog w = .ok (.value (agB Z)) w := by
  simp [execOp, ho, Instr.build, zeroValue, typeInfo, h1, h2, h3, run_underlying ha.und, sizeOf, h8, Instr.fill, hZ, agB]
 rw [hr, Oper.upon_value];exact hK _ _ h
structure Dc (w w' : World) (U F S E G R : Nat) (zs : List Int) (p : Nat) (fs ss es : List Int) : Prop where
 u : Hx w' U 0 0 0 0 0 0 0
 f : Rt w' F 174 fs
 s : Rt w' S 177 ss
 e : Rt w' E 99 es
 rd : Rd w' R G zs p 0
 gr : w.grownBy w' none
 lt : w.heap.size ≤ U ∧ U < F ∧ F < S ∧ S < E ∧ E < G ∧ G < R
theorem Dc.call {w w' w'' : World} {U F S E G R : Nat} {zs : List Int} {p p' : Nat} {fs ss es : List Int} (h : Dc w w' U F S E G R zs p fs ss es) (hr : Rd w'' R G zs p' 0) (hg : w'.grownBy w'' (some R)) : Dc w w'' U F S E G R zs p' fs ss es := by
 have := h.lt;exact ⟨h.u.kept hg (fun e => by have := Option.some.inj e; omega), h.f.kept hg (fun e => by have := Option.some.inj e; omega), h.s.kept hg (fun e => by have := Option.some.inj e; omega), h.e.kept hg (fun e => by have := Option.some.inj e; omega), hr, grown_new h.gr hg (by omega), h.lt⟩
theorem Dc.quiet {w w' w'' : World} {U F S E G R : Nat} {zs : List Int} {p : Nat} {fs ss es : List Int} (h : Dc w w' U F S E G R zs p fs ss es) (hg : w'.grownBy w'' none) : Dc w w'' U F S E G R zs p fs ss es :=
 ⟨h.u.keptN hg, h.f.keptN hg, h.s.keptN hg, h.e.keptN hg, h.rd.kept hg (by simp) (by simp), gQ h.gr hg, h.lt⟩
theorem Dc.drew {w w' : World} {U F S E G R : Nat} {zs : List Int} {p : Nat} {fs ss es : List Int} (h : Dc w w' U F S E G R zs p fs ss es) : Dc w w'.drew U F S E G R zs p fs ss es := h.quiet ((Qt.refl w').drew.grown none)
theorem Dc.setF {w w' w'' : World} {U F S E G R : Nat} {zs : List Int} {p : Nat} {fs fs' ss es : List Int} (h : Dc w w' U F S E G R zs p fs ss es) (hf : Rt w'' F 174 fs') (hg : w'.grownBy w'' (some F)) : Dc w w'' U F S E G R zs p fs' ss es := by
 have := h.lt;exact ⟨h.u.kept hg (fun e => by have := Option.some.inj e; omega), hf, h.s.kept hg (fun e => by have := Option.some.inj e; omega), h.e.kept hg (fun e => by have := Option.some.inj e; omega), h.rd.kept hg (fun e => by have := Option.some.inj e; omega) (fun e => by have := Option.some.inj e; omega), grown_new h.gr hg (by omega), h.lt⟩
theorem Dc.setS {w w' w'' : World} {U F S E G R : Nat} {zs : List Int} {p : Nat} {fs ss ss' es : List Int} (h : Dc w w' U F S E G R zs p fs ss es) (hf : Rt w'' S 177 ss') (hg : w'.grownBy w'' (some S)) : Dc w w'' U F S E G R zs p fs ss' es := by
 have := h.lt;exact ⟨h.u.kept hg (fun e => by have := Option.some.inj e; omega), h.f.kept hg (fun e => by have := Option.some.inj e; omega), hf, h.e.kept hg (fun e => by have := Option.some.inj e; omega), h.rd.kept hg (fun e => by have := Option.some.inj e; omega) (fun e => by have := Option.some.inj e; omega), grown_new h.gr hg (by omega), h.lt⟩
theorem Dc.setE {w w' w'' : World} {U F S E G R : Nat} {zs : List Int} {p : Nat} {fs ss es es' : List Int} (h : Dc w w' U F S E G R zs p fs ss es) (hf : Rt w'' E 99 es') (hg : w'.grownBy w'' (some E)) : Dc w w'' U F S E G R zs p fs ss es' := by
 have := h.lt;exact ⟨h.u.kept hg (fun e => by have := Option.some.inj e; omega), h.f.kept hg (fun e => by have := Option.some.inj e; omega), h.s.kept hg (fun e => by have := Option.some.inj e; omega), hf, h.rd.kept hg (fun e => by have := Option.some.inj e; omega) (fun e => by have := Option.some.inj e; omega), grown_new h.gr hg (by omega), h.lt⟩
theorem splice_all {cs zs : List Int} (h : zs.length = cs.length) : splice cs 0 zs = zs := by
 unfold splice;rw [List.take_zero, List.nil_append, Nat.zero_add, h, List.drop_length, List.append_nil]
theorem decode_short (ao : Option Addr) (n cap : Nat) (w : World) (h : n ≠ 4092) :
  Calls Tryz.prog 113 #[.slice ao n cap] w fun en w' => en = .returned (.tuple #[.agg #[.int .i64 0, .int .i64 0, .int .i64 0, .int .i64 0, .int .i64 0, .int .i64 0, .int .i64 0], .int .i64 70]) ∧ w.grownBy w' none := by
 have h' : ¬ (n : Int) = 4092 := by omega
 go_enter Tryz.func113, Tryz.ntmps113;go_wp2;refine bodyPost_ret (ret_head_tmp rfl _ _ w.heap.size 0 0 0 0 0 0 0 rfl (Hx.new w 0 0 0 0 0 0 0)) rfl ?_;exact ⟨rfl, World.grownBy_alloc w _ none⟩
theorem decode_full (ao : Option Addr) (cap : Nat) (zs : List Int) (w : World) (hb : Byt w ao 4092 cap zs) (hbt : Bt zs) (hk : Mk w) :
  Calls Tryz.prog 113 #[.slice ao 4092 cap] w fun en w' => en = .returned (.tuple #[.agg #[.int .i64 (aH zs).v, .int .i64 (aH zs).c, .int .i64 (aH zs).r, .int .i64 (aH zs).h, .int .i64 (aH zs).k, .int .i64 (aH zs).f, .int .i64 (aH zs).n], .int .i64 (aE zs)]) ∧ w.grownBy w' none := by
 have hl := hb.len;have HB := hJ hb;have HK := hJ hk;have HIF := hJ (dM_iff hl hbt);obtain ⟨⟨v, c, r, t, k, f, n⟩, hH⟩ : ∃ H, H = rH zs := ⟨_, rfl⟩;have HH := hJ hH;clear hH;have HLF : Hid (((zs.drop 1).take 3).length = 3) := by show _ = _; rw [List.length_take, List.length_drop, hl]; rfl
 have HLS : Hid (((zs.drop 37).take 4051).length = 4051) := by show _ = _; rw [List.length_take, List.length_drop, hl]; rfl
 have HLE : Hid (((zs.drop 4088).take 4).length = 4) := by show _ = _; rw [List.length_take, List.length_drop, hl]; rfl
 clear hb hk;obtain ⟨Z, hZ⟩ : ∃ Z : List Int, Z = List.replicate 4051 0 := ⟨_, rfl⟩;have hZl : Z.length = 4051 := by rw [hZ, List.length_replicate]
 have HZ := hJ hZ;clear hZ;go_enter Tryz.func113, Tryz.ntmps113;go_upto_region 4 with fail
 have U1 := hJ ((Hx.new w 0 0 0 0 0 0 0).keptN (World.grownBy_alloc (w.alloc (.cells #[.int .i64 0, .int .i64 0, .int .i64 0, .int .i64 0, .int .i64 0, .int .i64 0, .int .i64 0] 28)) (.cells #[.int .u8 0, .int .u8 0, .int .u8 0] 174) none));have F1 : Hid (Rt ((w.alloc (.cells #[.int .i64 0, .int .i64 0, .int .i64 0, .int .i64 0, .int .i64 0, .int .i64 0, .int .i64 0] 28)).alloc (.cells #[.int .u8 0, .int .u8 0, .int .u8 0] 174)) (w.heap.size + 1) 174 [0, 0, 0]) := heap_alloc2_new w _ _;have G1 := hJ (grown_two w (.cells #[.int .i64 0, .int .i64 0, .int .i64 0, .int .i64 0, .int .i64 0, .int .i64 0, .int .i64 0] 28) (.cells #[.int .u8 0, .int .u8 0, .int .u8 0] 174));generalize (w.alloc (.cells #[.int .i64 0, .int .i64 0, .int .i64 0, .int .i64 0, .int .i64 0, .int .i64 0, .int .i64 0] 28)).alloc (.cells #[.int .u8 0, .int .u8 0, .int .u8 0] 174) = w1 at *
 go_wp2_with (refine wpList_alloc_arr7 arrS_is rfl rfl Z HZ.out ?_)
 intro w2 hr2 hg2 hs2;have U2 := hJ (U1.out.keptN hg2);have F2 := hJ (F1.out.keptN hg2);have S2 := hJ hr2;have G2 := hJ (gQ G1.out hg2);have L2 := hJ F1.out.lt;clear hr2 hg2 hs2 U1 F1 G1;go_upto_region 6 with fail
 have g3 := World.grownBy_alloc w2 (.cells #[.int .u8 0, .int .u8 0, .int .u8 0, .int .u8 0] 99) none;have E3 : Hid (Rt (w2.alloc (.cells #[.int .u8 0, .int .u8 0, .int .u8 0, .int .u8 0] 99)) w2.heap.size 99 [0, 0, 0, 0]) := heap_alloc_new w2 _;have U3 := hJ (U2.out.keptN g3);have F3 := hJ (F2.out.keptN g3);have S3 := hJ (S2.out.keptN g3);have G3 := hJ (gQ G2.out g3);have L3 := hJ S2.out.lt;clear g3 U2 F2 S2 G2;generalize w2.alloc (.cells #[.int .u8 0, .int .u8 0, .int .u8 0, .int .u8 0] 99) = w3 at *
 go_wp2_with fail
 refine (newReader_any ao 4092 cap zs _ (HB.out.keptN G3.out) (by omega)).mono ?_;rintro en w4 ⟨R, rfl, hr4, hg4, hs4⟩
 have D4 : Hid (Dc w w4 w.heap.size (w.heap.size + 1) w1.heap.size w2.heap.size w3.heap.size R zs 0 [0, 0, 0] Z [0, 0, 0, 0]) :=
  ⟨U3.out.keptN hg4, F3.out.keptN hg4, S3.out.keptN hg4, E3.out.keptN hg4, hr4, gQ G3.out hg4, ⟨Nat.le_refl _, by omega, L2.out, L3.out, E3.out.lt, hs4⟩⟩
 clear hr4 hg4 hs4 U3 F3 S3 E3 G3 L2 L3 HB;obtain ⟨U, hU⟩ : ∃ U, U = w.heap.size := ⟨_, rfl⟩;obtain ⟨F, hF⟩ : ∃ F, F = w.heap.size + 1 := ⟨_, rfl⟩;rw [← hF, ← hU] at D4 ⊢;clear hU hF;generalize w1.heap.size = S at *;generalize w2.heap.size = E at *;generalize w3.heap.size = G at *;clear w1 w2 w3
 go_wp2_with fail
 refine (get_u8_ok R G zs 0 _ D4.out.rd hbt (by omega)).mono ?_;obtain ⟨kd, hkd⟩ : ∃ kd, kd = le 1 (zs.drop 0) := ⟨_, rfl⟩;rw [← hkd];have HKD := hJ hkd;clear hkd;rintro en w5 ⟨rfl, hr5, hg5⟩;have D5 := hJ (D4.out.call hr5 hg5);clear hr5 hg5 D4;go_upto_region 8 with fail
 go_region_law
  (first
   | (have zz := D6; refine step_copy_rt rfl (.tmp 18) (.tmp 20) (by rfl) _ _ _ _ _ _ (by rfl) (by rfl) F 0 174 [0, 0, 0] ((zs.drop 1).take 3) (by exact D6.f) (by exact hb6) (by omega) (fun _ => by rfl) (by decide) ?_; intro w7 hr7 hg7 hs7)
   | (go_simp; go_at_call 136; refine (bytes_ok R G zs 1 3 _ (by exact D5.out.drew.rd) (by omega)).mono ?_; rintro en w6 ⟨ao6, rfl, hx6, hb6, hr6, hg6⟩; clear hx6; have D6 := D5.out.drew.call hr6 hg6))
 all_goals
  rw [splice_all (by rw [HLF.out]; rfl)] at hr7;have D7 := hJ (D6.setF hr7 hg7);clear hr7 hg7 hs7 D6 D5 hb6 hr6 hg6;go_upto_region 9 with fail
  go_wp2_with fail
  refine (readHead7_any R G zs _ D7.out.rd hbt hl D7.out.rd.lt).mono ?_;rw [← HH.out];rintro en w8 ⟨rfl, hr8, hg8⟩;have D8 := hJ (D7.out.call hr8 hg8);clear hr8 hg8 D7;go_upto_region 10 with fail
  have g9 := World.grownBy_alloc w8 (.cells #[.int .i64 v, .int .i64 c, .int .i64 r, .int .i64 t, .int .i64 k, .int .i64 f, .int .i64 n] 28) none;have T9 := hJ (Hx.new w8 v c r t k f n);have D9 := hJ (D8.out.quiet g9);have HTR := hJ D8.out.rd.lt.1;clear g9 D8;generalize w8.alloc (.cells #[.int .i64 v, .int .i64 c, .int .i64 r, .int .i64 t, .int .i64 k, .int .i64 f, .int .i64 n] 28) = w9 at *;generalize w8.heap.size = T at *
  go_region_law
   (first
    | (have zz := D10; refine step_copy_rt rfl (.tmp 24) (.tmp 26) (by rfl) _ _ _ _ _ _ (by rfl) (by rfl) S 0 177 Z ((zs.drop 37).take 4051) (by exact D10.s) (by exact hb10) (by omega) (fun _ => by rfl) (by omega) ?_; intro w11 hr11 hg11 hs11)
    | (go_simp; go_at_call 136; refine (bytes_ok R G zs 37 4051 _ (by exact D9.out.drew.rd) (by omega)).mono ?_; rintro en w10 ⟨ao10, rfl, hx10, hb10, hr10, hg10⟩; clear hx10; have D10 := D9.out.drew.call hr10 hg10; have T10 := T9.out.kept (gQ ((Qt.refl w9).drew.grown (some R)) hg10) (fun e => by have := Option.some.inj e; have := HTR.out; omega)))
  all_goals
   rw [splice_all (by rw [HLS.out, hZl])] at hr11;have D11 := hJ (D10.setS hr11 hg11);have T11 := hJ (T10.kept hg11 (fun e => by have := Option.some.inj e; have := HTR.out; have := D10.lt; omega));clear hr11 hg11 hs11 D10 T10 D9 T9 hb10 hr10 hg10;go_upto_region 11 with fail
   go_region_law
    (first
     | (have zz := D12; refine step_copy_rt rfl (.tmp 28) (.tmp 30) (by rfl) _ _ _ _ _ _ (by rfl) (by rfl) E 0 99 [0, 0, 0, 0] ((zs.drop 4088).take 4) (by exact D12.e) (by exact hb12) (by omega) (fun _ => by rfl) (by decide) ?_; intro w13 hr13 hg13 hs13)
     | (go_simp; go_at_call 136; refine (bytes_ok R G zs 4088 4 _ (by exact D11.out.drew.rd) (by omega)).mono ?_; rintro en w12 ⟨ao12, rfl, hx12, hb12, hr12, hg12⟩; clear hx12; have D12 := D11.out.drew.call hr12 hg12; have T12 := T11.out.kept (gQ ((Qt.refl w11).drew.grown (some R)) hg12) (fun e => by have := Option.some.inj e; have := HTR.out; omega)))
   all_goals
    rw [splice_all (by rw [HLE.out]; rfl)] at hr13;have D13 := hJ (D12.setE hr13 hg13);have T13 := hJ (T12.kept hg13 (fun e => by have := Option.some.inj e; have := HTR.out; have := D12.lt; omega));clear hr13 hg13 hs13 D12 T12 D11 T11 hb12 hr12 hg12;go_upto_region 12 with fail
    obtain ⟨a0, a1, a2, b0, b1, b2, b3⟩ := HK.out.keptN D13.out.gr
    by_cases k5 : kd = 5
    ·subst k5
     have HK5 : Hid (zs.take 1 = [5]) := by
      have h1 := lb_le 1 (zs.drop 0) (hbt.drop 0) (by rw [List.length_drop]; omega);rw [← HKD.out, List.drop_zero] at h1;exact h1.symm
     have hgF : ∀ (x y : Operand) (W : World), (eqGuard .neq 174 x y (agB ((zs.drop 1).take 3)) (.agg #[.int .u8 99, .int .u8 111, .int .u8 112])).run Tryz.prog W = .ok () W := fun x y W => guard_arr arrM_is x y _ [99, 111, 112] W
     have hgS : ∀ (x y : Operand) (W : World), (eqGuard .neq 177 x y (agB ((zs.drop 37).take 4051)) (agB Z)).run Tryz.prog W = .ok () W := fun x y W => guard_arr arrS_is x y _ _ W
     have hgE : ∀ (x y : Operand) (W : World), (eqGuard .neq 99 x y (agB ((zs.drop 4088).take 4)) (.agg #[.int .u8 101, .int .u8 110, .int .u8 100, .int .u8 46])).run Tryz.prog W = .ok () W := fun x y W => guard_arr arrE_is x y _ [101, 110, 100, 46] W
     have hnF := fun W => neq_arr arrM_is ((zs.drop 1).take 3) [99, 111, 112] W HLF.out rfl
     have hnS := fun W => neq_arr arrS_is ((zs.drop 37).take 4051) Z W HLS.out hZl
     have hnE := fun W => neq_arr arrE_is ((zs.drop 4088).take 4) [101, 110, 100, 46] W HLE.out rfl
     by_cases f5 : (zs.drop 1).take 3 = [99, 111, 112]
     ·have hqF : ∀ W : World, (binOp .neq 174 (agB ((zs.drop 1).take 3)) (.agg #[.int .u8 99, .int .u8 111, .int .u8 112])).run Tryz.prog W = .ok (.bool false) W := fun W => (hnF W).trans (by rw [decide_eq_true f5]; rfl)
      have HF5 := hJ f5
      by_cases s5 : (zs.drop 37).take 4051 = Z
      ·have hqS : ∀ W : World, (binOp .neq 177 (agB ((zs.drop 37).take 4051)) (agB Z)).run Tryz.prog W = .ok (.bool false) W := fun W => (hnS W).trans (by rw [decide_eq_true s5]; rfl)
       have HS5 := hJ s5
       by_cases e5 : (zs.drop 4088).take 4 = [101, 110, 100, 46]
       ·have hqE : ∀ W : World, (binOp .neq 99 (agB ((zs.drop 4088).take 4)) (.agg #[.int .u8 101, .int .u8 110, .int .u8 100, .int .u8 46])).run Tryz.prog W = .ok (.bool false) W := fun W => (hnE W).trans (by rw [decide_eq_true e5]; rfl)
        have HE5 := hJ e5;clear f5 s5 e5 hnF hnS hnE;generalize (zs.drop 1).take 3 = fs at *;generalize (zs.drop 37).take 4051 = ss at *;generalize (zs.drop 4088).take 4 = es at *;obtain ⟨t0, t1, t2, t3, t4, t5, t6⟩ := T13.out.cells
        go_wp2_with (first | (refine wpList_load_on arrM_is (by rfl) _ rfl F _ rfl D13.out.f HLF.out ?_) | (refine wpList_load_on arrS_is (by rfl) _ rfl S _ rfl D13.out.s HLS.out ?_) | (refine wpList_build_on arrS_is (by rfl) rfl Z HZ.out ?_) | (refine wpList_load_on arrE_is (by rfl) _ rfl E _ rfl D13.out.e HLE.out ?_))
        refine (mayBe_any v c r t k f n _).mono ?_;rintro en w15 ⟨rfl, hg15⟩;have D15 := hJ (D13.out.quiet hg15);have T15 := hJ (T13.out.keptN hg15);clear t0 t1 t2 t3 t4 t5 t6 a0 a1 a2 b0 b1 b2 b3 hgF hgS hgE hqF hqS hqE D13 T13 hg15;cases hm : may ⟨v, c, r, t, k, f, n⟩ with
        | true =>
         have HT : Hid (dM zs = true) := HIF.out.2 ⟨by rw [← HH.out]; exact hm, HK5.out, HF5.out, by rw [HS5.out]; exact HZ.out, HE5.out⟩;clear hm;obtain ⟨t0, t1, t2, t3, t4, t5, t6⟩ := T15.out.cells
         go_wp2_with (refine wpList_store_head rfl _ _ rfl U v c r t k f n 0 0 0 0 0 0 0 rfl rfl D15.out.u ?_)
         intro w16 hx16 hg16 hs16;have G16 := hJ (grown_new D15.out.gr hg16 D15.out.lt.1);clear hg16 hs16 t0 t1 t2 t3 t4 t5 t6;go_wp2;refine bodyPost_ret (ret_head_tmp rfl _ _ U v c r t k f n rfl hx16) rfl ?_;rw [(a_yes HT.out).1, (a_yes HT.out).2, ← HH.out];exact ⟨rfl, G16.out⟩
        | false =>
         have HT : Hid (dM zs = false) := by
          cases hh : dM zs with
          | false => rfl
          | true => exact absurd ((by rw [HH.out]; exact (HIF.out.1 hh).1 : may ⟨v, c, r, t, k, f, n⟩ = true)) (by rw [hm]; decide)
         clear hm
         go_wp2_with (refine wpList_store_head rfl _ _ rfl U 0 0 0 0 0 0 0 0 0 0 0 0 0 0 rfl rfl D15.out.u ?_)
         intro w14 hx14 hg14 hs14;have G14 := hJ (grown_new D15.out.gr hg14 D15.out.lt.1);clear hg14 hs14;go_wp2;refine bodyPost_ret (ret_head_tmp rfl _ _ U 0 0 0 0 0 0 0 rfl hx14) rfl ?_;rw [(a_no HT.out).1, (a_no HT.out).2];exact ⟨rfl, G14.out⟩
       ·have hqE : ∀ W : World, (binOp .neq 99 (agB ((zs.drop 4088).take 4)) (.agg #[.int .u8 101, .int .u8 110, .int .u8 100, .int .u8 46])).run Tryz.prog W = .ok (.bool true) W := fun W => (hnE W).trans (by rw [decide_eq_false e5]; rfl)
        have HT : Hid (dM zs = false) := by
         cases hh : dM zs with
         | false => rfl
         | true => exact absurd (HIF.out.1 hh).2.2.2.2 e5
        clear f5 s5 e5 hnF hnS hnE;generalize (zs.drop 1).take 3 = fs at *;generalize (zs.drop 37).take 4051 = ss at *;generalize (zs.drop 4088).take 4 = es at *
        go_wp2_with (first | (refine wpList_load_on arrM_is (by rfl) _ rfl F _ rfl D13.out.f HLF.out ?_) | (refine wpList_load_on arrS_is (by rfl) _ rfl S _ rfl D13.out.s HLS.out ?_) | (refine wpList_build_on arrS_is (by rfl) rfl Z HZ.out ?_) | (refine wpList_load_on arrE_is (by rfl) _ rfl E _ rfl D13.out.e HLE.out ?_) | (refine wpList_store_head rfl _ _ rfl U 0 0 0 0 0 0 0 0 0 0 0 0 0 0 rfl rfl D13.out.u ?_))
        intro w14 hx14 hg14 hs14;have G14 := hJ (grown_new D13.out.gr hg14 D13.out.lt.1);clear hg14 hs14;go_wp2;refine bodyPost_ret (ret_head_tmp rfl _ _ U 0 0 0 0 0 0 0 rfl hx14) rfl ?_;rw [(a_no HT.out).1, (a_no HT.out).2];exact ⟨rfl, G14.out⟩
      ·have hqS : ∀ W : World, (binOp .neq 177 (agB ((zs.drop 37).take 4051)) (agB Z)).run Tryz.prog W = .ok (.bool true) W := fun W => (hnS W).trans (by rw [decide_eq_false s5]; rfl)
       have HT : Hid (dM zs = false) := by
        cases hh : dM zs with
        | false => rfl
        | true => exact absurd (by rw [(HIF.out.1 hh).2.2.2.1]; exact HZ.out.symm) s5
       clear f5 s5 hnF hnS hnE;generalize (zs.drop 1).take 3 = fs at *;generalize (zs.drop 37).take 4051 = ss at *;generalize (zs.drop 4088).take 4 = es at *
       go_wp2_with (first | (refine wpList_load_on arrM_is (by rfl) _ rfl F _ rfl D13.out.f HLF.out ?_) | (refine wpList_load_on arrS_is (by rfl) _ rfl S _ rfl D13.out.s HLS.out ?_) | (refine wpList_build_on arrS_is (by rfl) rfl Z HZ.out ?_) | (refine wpList_load_on arrE_is (by rfl) _ rfl E _ rfl D13.out.e HLE.out ?_) | (refine wpList_store_head rfl _ _ rfl U 0 0 0 0 0 0 0 0 0 0 0 0 0 0 rfl rfl D13.out.u ?_))
       intro w14 hx14 hg14 hs14;have G14 := hJ (grown_new D13.out.gr hg14 D13.out.lt.1);clear hg14 hs14;go_wp2;refine bodyPost_ret (ret_head_tmp rfl _ _ U 0 0 0 0 0 0 0 rfl hx14) rfl ?_;rw [(a_no HT.out).1, (a_no HT.out).2];exact ⟨rfl, G14.out⟩
     ·have hqF : ∀ W : World, (binOp .neq 174 (agB ((zs.drop 1).take 3)) (.agg #[.int .u8 99, .int .u8 111, .int .u8 112])).run Tryz.prog W = .ok (.bool true) W := fun W => (hnF W).trans (by rw [decide_eq_false f5]; rfl)
      have HT : Hid (dM zs = false) := by
       cases hh : dM zs with
       | false => rfl
       | true => exact absurd (HIF.out.1 hh).2.2.1 f5
      clear f5 hnF hnS hnE;generalize (zs.drop 1).take 3 = fs at *;generalize (zs.drop 37).take 4051 = ss at *;generalize (zs.drop 4088).take 4 = es at *
      go_wp2_with (first | (refine wpList_load_on arrM_is (by rfl) _ rfl F _ rfl D13.out.f HLF.out ?_) | (refine wpList_load_on arrS_is (by rfl) _ rfl S _ rfl D13.out.s HLS.out ?_) | (refine wpList_build_on arrS_is (by rfl) rfl Z HZ.out ?_) | (refine wpList_load_on arrE_is (by rfl) _ rfl E _ rfl D13.out.e HLE.out ?_) | (refine wpList_store_head rfl _ _ rfl U 0 0 0 0 0 0 0 0 0 0 0 0 0 0 rfl rfl D13.out.u ?_))
      intro w14 hx14 hg14 hs14;have G14 := hJ (grown_new D13.out.gr hg14 D13.out.lt.1);clear hg14 hs14;go_wp2;refine bodyPost_ret (ret_head_tmp rfl _ _ U 0 0 0 0 0 0 0 rfl hx14) rfl ?_;rw [(a_no HT.out).1, (a_no HT.out).2];exact ⟨rfl, G14.out⟩
    ·have HT : Hid (dM zs = false) := by
      cases hh : dM zs with
      | false => rfl
      | true =>
       have h1 := (HIF.out.1 hh).2.1;exact absurd (by rw [HKD.out, List.drop_zero, ← le_take, h1]; rfl) k5
     have k1 : ((kd : Int) == 5) = false := by simp; omega
     have k2 : ((kd : Int) != 5) = true := by simp; omega
     obtain ⟨u0, u1, u2, u3, u4, u5, u6⟩ := D13.out.u.cells;have v0 := D13.out.u.frozen 0;clear a0 a1 a2 b0 b1 b2 b3;clear u0 u1 u2 u3 u4 u5 u6 v0
     go_wp2_with (refine wpList_store_head rfl _ _ rfl U 0 0 0 0 0 0 0 0 0 0 0 0 0 0 rfl rfl D13.out.u ?_)
     intro w14 hx14 hg14 hs14;have G14 := hJ (grown_new D13.out.gr hg14 D13.out.lt.1);clear hg14 hs14;go_wp2;refine bodyPost_ret (ret_head_tmp rfl _ _ U 0 0 0 0 0 0 0 rfl hx14) rfl ?_;rw [(a_no HT.out).1, (a_no HT.out).2];exact ⟨rfl, G14.out⟩
theorem encode7_ok (v c r t k f n : Int) (w : World) (hm : may ⟨v, c, r, t, k, f, n⟩ = true) (hk0 : Mk w) :
  Calls Tryz.prog 112 #[.agg #[.int .i64 v, .int .i64 c, .int .i64 r, .int .i64 t, .int .i64 k, .int .i64 f, .int .i64 n]] w fun en w' => ∃ g, en = .returned (.tuple #[.slice (some ⟨g, 0, none⟩) 4092 4092, .int .i64 0]) ∧ Rw w' g (mB ⟨v, c, r, t, k, f, n⟩) ∧ w.heap.size ≤ g ∧ w.grownBy w' none := by
 have b := may_bounds hm;simp only at b;obtain ⟨v, rfl⟩ : ∃ x : Nat, v = (x : Int) := ⟨v.toNat, by omega⟩;obtain ⟨c, rfl⟩ : ∃ x : Nat, c = (x : Int) := ⟨c.toNat, by omega⟩;obtain ⟨r, rfl⟩ : ∃ x : Nat, r = (x : Int) := ⟨r.toNat, by omega⟩;obtain ⟨t, rfl⟩ : ∃ x : Nat, t = (x : Int) := ⟨t.toNat, by omega⟩;obtain ⟨k, rfl⟩ : ∃ x : Nat, k = (x : Int) := ⟨k.toNat, by omega⟩;obtain ⟨f, rfl⟩ : ∃ x : Nat, f = (x : Int) := ⟨f.toNat, by omega⟩;obtain ⟨n, rfl⟩ : ∃ x : Nat, n = (x : Int) := ⟨n.toNat, by omega⟩;exact encode_yes v c r t k f n w hm hk0
theorem encode7_any (v c r t k f n : Int) (w : World) (hk0 : Mk w) :
  Calls Tryz.prog 112 #[.agg #[.int .i64 v, .int .i64 c, .int .i64 r, .int .i64 t, .int .i64 k, .int .i64 f, .int .i64 n]] w fun en w' => ∃ bo m, en = .returned (.tuple #[.slice bo m m, .int .i64 (eM ⟨v, c, r, t, k, f, n⟩)]) ∧ Byt w' bo m m (oM ⟨v, c, r, t, k, f, n⟩) ∧ (0 < m → ∃ g, bo = some ⟨g, 0, none⟩ ∧ w.heap.size ≤ g ∧ Rw w' g (oM ⟨v, c, r, t, k, f, n⟩)) ∧ w.grownBy w' none := by
 cases hm : may ⟨v, c, r, t, k, f, n⟩ with
 | true =>
  refine (encode7_ok v c r t k f n w hm hk0).mono ?_;rintro en w' ⟨g, rfl, h1, h2, h3⟩;rw [(o_yes hm).1, (o_yes hm).2];exact ⟨_, 4092, rfl, h1.all 4092 4092 (mB_len _).symm, fun _ => ⟨g, rfl, h2, h1⟩, h3⟩
 | false =>
  refine (encode_no v c r t k f n w hm).mono ?_;rintro en w' ⟨rfl, h3⟩;rw [(o_no hm).1, (o_no hm).2];exact ⟨none, 0, rfl, Byt.empty _, fun h => by omega, h3⟩
theorem decode7_any (ao : Option Addr) (n cap : Nat) (zs : List Int) (w : World) (hb : Byt w ao n cap zs) (hbt : Bt zs) (hk : Mk w) :
  Calls Tryz.prog 113 #[.slice ao n cap] w fun en w' => en = .returned (.tuple #[.agg #[.int .i64 (aH zs).v, .int .i64 (aH zs).c, .int .i64 (aH zs).r, .int .i64 (aH zs).h, .int .i64 (aH zs).k, .int .i64 (aH zs).f, .int .i64 (aH zs).n], .int .i64 (aE zs)]) ∧ w.grownBy w' none := by
 by_cases h : n = 4092
 ·subst h
  exact decode_full ao cap zs w hb hbt hk
 ·refine (decode_short ao n cap w h).mono ?_
  rintro en w' ⟨rfl, h3⟩;have hd : dM zs = false := by simp [dM, hb.len, h]
  rw [(a_no hd).1, (a_no hd).2];exact ⟨rfl, h3⟩
theorem refEncode7_any (v c r t k f n : Int) (w : World) :
  Calls Tryz.prog 60 #[.agg #[.int .i64 v, .int .i64 c, .int .i64 r, .int .i64 t, .int .i64 k, .int .i64 f, .int .i64 n]] w fun en w' => ∃ bo m cp, en = .returned (.tuple #[.slice bo m cp, .int .i64 (eM ⟨v, c, r, t, k, f, n⟩)]) ∧ Byt w' bo m cp (oM ⟨v, c, r, t, k, f, n⟩) ∧ w.grownBy w' none := by
 cases hm : may ⟨v, c, r, t, k, f, n⟩ with
 | true =>
  have b := may_bounds hm;simp only at b;obtain ⟨v, rfl⟩ : ∃ x : Nat, v = (x : Int) := ⟨v.toNat, by omega⟩;obtain ⟨c, rfl⟩ : ∃ x : Nat, c = (x : Int) := ⟨c.toNat, by omega⟩;obtain ⟨r, rfl⟩ : ∃ x : Nat, r = (x : Int) := ⟨r.toNat, by omega⟩;obtain ⟨t, rfl⟩ : ∃ x : Nat, t = (x : Int) := ⟨t.toNat, by omega⟩;obtain ⟨k, rfl⟩ : ∃ x : Nat, k = (x : Int) := ⟨k.toNat, by omega⟩;obtain ⟨f, rfl⟩ : ∃ x : Nat, f = (x : Int) := ⟨f.toNat, by omega⟩;obtain ⟨n, rfl⟩ : ∃ x : Nat, n = (x : Int) := ⟨n.toNat, by omega⟩;refine (refEncode_yes v c r t k f n w hm).mono ?_;rintro en w' ⟨ao, cp, rfl, h1, h3⟩;rw [(o_yes hm).1, (o_yes hm).2];exact ⟨_, 4092, _, rfl, h1, h3⟩
 | false =>
  refine (refEncode_no v c r t k f n w hm).mono ?_;rintro en w' ⟨rfl, h3⟩;rw [(o_no hm).1, (o_no hm).2];exact ⟨none, 0, 0, rfl, Byt.empty _, h3⟩
theorem refDecode7_any (ao : Option Addr) (n cap : Nat) (zs : List Int) (w : World) (hb : Byt w ao n cap zs) (hbt : Bt zs) :
  Calls Tryz.prog 45 #[.slice ao n cap] w fun en w' => en = .returned (.tuple #[.agg #[.int .i64 (aH zs).v, .int .i64 (aH zs).c, .int .i64 (aH zs).r, .int .i64 (aH zs).h, .int .i64 (aH zs).k, .int .i64 (aH zs).f, .int .i64 (aH zs).n], .int .i64 (aE zs)]) ∧ w.grownBy w' none := by
 by_cases h : n = 4092
 ·subst h
  exact refDecode_full ao cap zs w hb hbt
 ·refine (refDecode_short ao n cap w h).mono ?_
  rintro en w' ⟨rfl, h3⟩;have hd : dM zs = false := by simp [dM, hb.len, h]
  rw [(a_no hd).1, (a_no hd).2];exact ⟨rfl, h3⟩
end Go.Proofs.YtkiopabcnemgnaaGreatDoor
