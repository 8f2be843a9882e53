import Derived.Test.YtkiopabcnemgnaaGreatDoorK30
import Derived.Deep.WholeRow
import Derived.Deep.CutBlock
import Derived.Deep.RegionLaw
import Derived.Laws.Cover3
import Derived.Laws.StructEq
import Derived.ChangeKeysEq
import Derived.KernelRfl
set_option maxRecDepth 100000
set_option maxHeartbeats 4000000
namespace Go.Proofs.YtkiopabcnemgnaaGreatDoor
open Go.RowKit
def Hx (w : World) (T : Nat) (v c r t k f n : Int) : Prop := w.heap[T]? = some (.cells #[.int .i64 v, .int .i64 c, .int .i64 r, .int .i64 t, .int .i64 k, .int .i64 f, .int .i64 n] 28 (0, 0))
theorem Hx.lt {w : World} {T : Nat} {v c r t k f n : Int} (h : Hx w T v c r t k f n) : T < w.heap.size := (Array.getElem?_eq_some_iff.1 h).1
theorem Hx.cells {w : World} {T : Nat} {v c r t k f n : Int} (h : Hx w T v c r t k f n) : w.cell? ⟨T, 0, none⟩ = some (.int .i64 v) ∧ w.cell? ⟨T, 1, none⟩ = some (.int .i64 c) ∧ w.cell? ⟨T, 2, none⟩ = some (.int .i64 r) ∧ w.cell? ⟨T, 3, none⟩ = some (.int .i64 t) ∧
  w.cell? ⟨T, 4, none⟩ = some (.int .i64 k) ∧ w.cell? ⟨T, 5, none⟩ = some (.int .i64 f) ∧ w.cell? ⟨T, 6, none⟩ = some (.int .i64 n) := by
 refine ⟨?_, ?_, ?_, ?_, ?_, ?_, ?_⟩
 ·rw [cell_of_row w T 0 _ _ _ h]; rfl
 ·rw [cell_of_row w T 1 _ _ _ h]; rfl
 ·rw [cell_of_row w T 2 _ _ _ h]; rfl
 ·rw [cell_of_row w T 3 _ _ _ h]; rfl
 ·rw [cell_of_row w T 4 _ _ _ h]; rfl
 ·rw [cell_of_row w T 5 _ _ _ h]; rfl
 ·rw [cell_of_row w T 6 _ _ _ h]; rfl
theorem Hx.frozen {w : World} {T : Nat} {v c r t k f n : Int} (h : Hx w T v c r t k f n) (j : Nat) : w.frozen? ⟨T, j, none⟩ = false := frozen_of_row w T j _ _ h
theorem Hx.kept {w w' : World} {T : Nat} {v c r t k f n : Int} {row : Option Nat} (h : Hx w T v c r t k f n) (hg : w.grownBy w' row) (hne : some T ≠ row) : Hx w' T v c r t k f n := (hg.block T h.lt hne).trans h
theorem Hx.keptN {w w' : World} {T : Nat} {v c r t k f n : Int} (h : Hx w T v c r t k f n) (hg : w.grownBy w' none) : Hx w' T v c r t k f n := h.kept hg (by simp)
theorem Hx.new (w : World) (v c r t k f n : Int) : Hx (w.alloc (.cells #[.int .i64 v, .int .i64 c, .int .i64 r, .int .i64 t, .int .i64 k, .int .i64 f, .int .i64 n] 28)) w.heap.size v c r t k f n := heap_alloc_new w _
theorem head_size : (Tryz.prog.info? 28).map (·.size) = some 7 := by kernel_rfl
theorem ret_head {fn : Func} {p : Tmp} (h : fn.results = #[.cell p 28]) (tmps : Array Value) (w : World) (U : Nat) (v c r t k f n : Int) (hp : tmps.getD p undef = .pointer (some ⟨U, 0, none⟩)) (hx : Hx w U v c r t k f n) :
  (results fn tmps).run Tryz.prog w = .ok (.agg #[.int .i64 v, .int .i64 c, .int .i64 r, .int .i64 t, .int .i64 k, .int .i64 f, .int .i64 n]) w :=
 results_cell_row h tmps w U 28 _ (0, 0) _ hp hx Tryz.underlying28 rfl head_size
structure Arr (t : TypeId) (n : Nat) : Prop where
 und : Tryz.prog.underlying t = some (.array n 5)
 zero : ((Tryz.prog.info? t).bind (fun i => i.zero)).map (fun z => z.cells) = some ((List.replicate n (Value.int .u8 0)).toArray)
 size : (Tryz.prog.info? t).map (fun i => i.size) = some n
 heldNo : Tryz.prog.eqGuardType Tryz.prog.depth t = false
theorem arrM_is : Arr 174 3 := ⟨Tryz.underlying174, by kernel_rfl, by kernel_rfl, by kernel_rfl⟩
theorem arrE_is : Arr 99 4 := ⟨Tryz.underlying99, by kernel_rfl, by kernel_rfl, by kernel_rfl⟩
theorem arrS_is : Arr 177 4051 := ⟨Tryz.underlying177, by kernel_rfl, by kernel_rfl, by kernel_rfl⟩
theorem Arr.parts {t : TypeId} {n : Nat} (h : Arr t n) : ∃ i z, Tryz.prog.info? t = some i ∧ i.zero = some z ∧ z.cells = ((List.replicate n (0 : Int)).map (Value.int .u8)).toArray := by
 obtain ⟨z, h1, h2⟩ := Option.map_eq_some_iff.1 h.zero;obtain ⟨i, h3, h4⟩ := Option.bind_eq_some_iff.1 h1;exact ⟨i, z, h3, h4, by rw [List.map_replicate]; exact h2⟩
theorem wpList_alloc_arr7 {t : TypeId} {N : Nat} (ha : Arr t N) {w : World} {ops : Array Oper} {rest : List Oper} {o : Oper} {a : Act} {Q : Exit → Act → World → Prop} (hgd : o.guard = none) (ho : o.op = .alloc t) (Z : List Int) (hZ : Z = List.replicate N 0)
  (h : ∀ w', Rt w' w.heap.size t Z → w.grownBy w' none → w'.heap.size = w.heap.size + 1 → wpList Tryz.prog ops Q rest (a.put o.dst (.pointer (some ⟨w.heap.size, 0, none⟩))) w') : wpList Tryz.prog ops Q (o :: rest) a w := by
 obtain ⟨i, z, h1, h2, h3⟩ := ha.parts;refine wpList_plain hgd fun K hK => ?_
 unfold Oper.wp
 have hr : (execOp a.eval o).run Tryz.prog w = .ok (.value (.pointer (some ⟨w.heap.size, 0, none⟩))) (w.alloc (.cells z.cells t)) := by
  simp [execOp, ho, Instr.alloc, zeroValue, typeInfo, newVar, newRow, h1, h2]
 rw [hr, Oper.upon_value];refine hK _ _ (h _ ?_ (World.grownBy_alloc w _ none) (by simp));rw [h3, hZ];exact heap_alloc_new w _
theorem plain_u8 : Tryz.prog.plainKey 5 = true := by kernel_rfl
theorem plain_int : Tryz.prog.plainKey 3 = true := by kernel_rfl
theorem cells_u8 : Tryz.prog.cellsOf 5 = 1 := by kernel_rfl
theorem info_u8_is : ∃ i, Tryz.prog.info? 5 = some i := Option.isSome_iff_exists.1 (by kernel_rfl)
theorem get_byte (xs : List Int) (i : Nat) (h : i < xs.length) (kk : IntKind) : (xs.map (Value.int kk)).toArray[i]? = some (.int kk (xs.getD i 0)) := by
 simp [List.getD, List.getElem?_eq_getElem h]
theorem eqItems_u8 (d : Nat) (xs ys : List Int) (w : World) : ∀ is : List Nat, (∀ i ∈ is, i < xs.length ∧ i < ys.length) →
  (Op.eqItems (d + 1) 5 1 (xs.map (Value.int .u8)).toArray (ys.map (Value.int .u8)).toArray is).run Tryz.prog w = .ok (is.all fun i => xs.getD i 0 == ys.getD i 0) w
 | [], _ => by simp [Op.eqItems]
 | i :: is, h => by
  have hi := h i List.mem_cons_self;have p1 := run_part_plain (P := Tryz.prog) (w := w) plain_u8 (get_byte xs i hi.1 .u8);have p2 := run_part_plain (P := Tryz.prog) (w := w) plain_u8 (get_byte ys i hi.2 .u8);have p3 := run_equalIn_int (P := Tryz.prog) (w := w) d 5 .u8 .u8 (xs.getD i 0) (ys.getD i 0) Tryz.underlying5;have ih := eqItems_u8 d xs ys w is (fun j hj => h j (List.mem_cons_of_mem _ hj));simp only [Op.eqItems, Sem.run_bind, Nat.mul_one, p1, p2, p3, Result.andThen_ok, List.all_cons];cases (xs.getD i 0 == ys.getD i 0)
  ·simp
  ·simp only [Bool.not_true, Bool.false_eq_true, if_false, Bool.true_and]; exact ih
theorem all_range_eq (xs ys : List Int) (h : xs.length = ys.length) : ((List.range xs.length).all fun i => xs.getD i 0 == ys.getD i 0) = decide (xs = ys) := by
 rw [Bool.eq_iff_iff, List.all_eq_true, decide_eq_true_eq];constructor
 ·intro h1
  refine List.ext_getElem h fun i h2 h3 => ?_
  have := h1 i (List.mem_range.2 h2);simpa [List.getD, List.getElem?_eq_getElem h2, List.getElem?_eq_getElem h3] using this
 ·rintro rfl i _
  simp
theorem neq_arr {t : TypeId} {N : Nat} (ha : Arr t N) (xs ys : List Int) (w : World) (hx : xs.length = N) (hy : ys.length = N) : (binOp .neq t (agB xs) (agB ys)).run Tryz.prog w = .ok (.bool (!decide (xs = ys))) w := by
 obtain ⟨i, hi⟩ := info_u8_is;unfold agB;rw [run_neq_struct, show (10000 : Nat) = 9999 + 1 from rfl, run_equalIn_array w 9999 _ _ ha.und hi, cells_u8, ← hx, show (9999 : Nat) = 9998 + 1 from rfl, eqItems_u8 9998 xs ys w _ (fun j hj => by have := List.mem_range.1 hj; omega), all_range_eq xs ys (by omega)]
 rfl
theorem guard_arr {t : TypeId} {N : Nat} (ha : Arr t N) (x y : Operand) (xs ys : List Int) (w : World) : (eqGuard .neq t x y (agB xs) (agB ys)).run Tryz.prog w = .ok () w := by
 unfold agB;exact run_eqGuard_agg w .neq t x y _ _ ha.heldNo
theorem eqFields_ints (d : Nat) (xs ys : List Int) (w : World) : ∀ fs : List Field, (∀ g ∈ fs, g.name ≠ "_" ∧ g.type = 3 ∧ g.offset < xs.length ∧ g.offset < ys.length) →
  (Op.eqFields (d + 1) (xs.map (Value.int .i64)).toArray (ys.map (Value.int .i64)).toArray fs).run Tryz.prog w = .ok (fs.all fun g => xs.getD g.offset 0 == ys.getD g.offset 0) w
 | [], _ => by simp [Op.eqFields]
 | g :: fs, h => by
  obtain ⟨h1, h2, h3, h4⟩ := h g List.mem_cons_self;have p1 := run_part_plain (P := Tryz.prog) (w := w) plain_int (get_byte xs g.offset h3 .i64);have p2 := run_part_plain (P := Tryz.prog) (w := w) plain_int (get_byte ys g.offset h4 .i64);have p3 := run_equalIn_int (P := Tryz.prog) (w := w) d 3 .i64 .i64 (xs.getD g.offset 0) (ys.getD g.offset 0) Tryz.underlying3;have ih := eqFields_ints d xs ys w fs (fun j hj => h j (List.mem_cons_of_mem _ hj));simp only [Op.eqFields, h1, h2, ne_eq, not_false_eq_true, if_true, Sem.run_bind, p1, p2, p3, Result.andThen_ok, List.all_cons];cases (xs.getD g.offset 0 == ys.getD g.offset 0)
  ·simp
  ·simp only [Bool.not_true, Bool.false_eq_true, if_false, Bool.true_and]; exact ih
theorem head_fields : Tryz.prog.underlying 28 = some (.struct (Tryz.prog.fieldsOf 28)) := by kernel_rfl
theorem head_held : Tryz.prog.stoodInHeld 28 = false := by kernel_rfl
theorem eql_head (v c r t k f n v' c' r' t' k' f' n' : Int) (w : World) : (binOp .eql 28 (.agg #[.int .i64 v, .int .i64 c, .int .i64 r, .int .i64 t, .int .i64 k, .int .i64 f, .int .i64 n]) (.agg #[.int .i64 v', .int .i64 c', .int .i64 r', .int .i64 t', .int .i64 k', .int .i64 f', .int .i64 n'])).run Tryz.prog w = .ok (.bool (decide (v = v') && (decide (c = c') && (decide (r = r') && (decide (t = t') && (decide (k = k') && (decide (f = f') && decide (n = n')))))))) w := by
 have e1 : (#[.int .i64 v, .int .i64 c, .int .i64 r, .int .i64 t, .int .i64 k, .int .i64 f, .int .i64 n] : Array Value) = (([v, c, r, t, k, f, n] : List Int).map (Value.int .i64)).toArray := rfl;have e2 : (#[.int .i64 v', .int .i64 c', .int .i64 r', .int .i64 t', .int .i64 k', .int .i64 f', .int .i64 n'] : Array Value) = (([v', c', r', t', k', f', n'] : List Int).map (Value.int .i64)).toArray := rfl;obtain ⟨F, hF⟩ : ∃ F, F = Tryz.prog.fieldsOf 28 := ⟨_, rfl⟩;have hu := head_fields;rw [Tryz.underlying28, ← hF] at hu;rw [run_eql_struct, show (10000 : Nat) = 9999 + 1 from rfl, run_equalIn_struct w 9999 28 _ _ head_fields head_held, ← hF, e1, e2];have hf := (TypeDesc.struct.inj (Option.some.inj hu)).symm;subst hf;rw [show (9999 : Nat) = 9998 + 1 from rfl, eqFields_ints 9998 _ _ w _ (by intro g hg; simp at hg; rcases hg with rfl | rfl | rfl | rfl | rfl | rfl | rfl <;> exact ⟨by decide, rfl, by simp, by simp⟩)]
 show Result.ok (Value.bool _) w = _
 congr 2
 rw [Bool.eq_iff_iff];simp
theorem guard_head (x y : Operand) (v c r t k f n v' c' r' t' k' f' n' : Int) (w : World) : (eqGuard .eql 28 x y (.agg #[.int .i64 v, .int .i64 c, .int .i64 r, .int .i64 t, .int .i64 k, .int .i64 f, .int .i64 n]) (.agg #[.int .i64 v', .int .i64 c', .int .i64 r', .int .i64 t', .int .i64 k', .int .i64 f', .int .i64 n'])).run Tryz.prog w = .ok () w :=
 run_eqGuard_agg w .eql 28 x y _ _ (by kernel_rfl)
theorem within7_any (x a b : Int) (w : World) : Calls Tryz.prog 185 #[.int .i64 x, .int .i64 a, .int .i64 b] w fun en w' => en = .returned (.bool (wi x a b)) ∧ w' = w := by
 by_cases h1 : a ≤ x
 ·by_cases h2 : x ≤ b
  ·have e : Hid (wi x a b = true) := wi_iff.2 ⟨h1, h2⟩
   go_enter Tryz.func185, Tryz.ntmps185;go_wp2;go_ret;exact ⟨by rw [e.out]; rfl, rfl⟩
  ·have e : Hid (wi x a b = false) := by show _ = _; simp [wi, h2]
   go_enter Tryz.func185, Tryz.ntmps185;go_wp2;go_ret;exact ⟨by rw [e.out]; rfl, rfl⟩
 ·have e : Hid (wi x a b = false) := by show _ = _; simp [wi, h1]
  go_enter Tryz.func185, Tryz.ntmps185;go_wp2;go_ret;exact ⟨by rw [e.out]; rfl, rfl⟩
theorem Hx.new2 (w : World) (o : Obj) (v c r t k f n : Int) : Hx ((w.alloc o).alloc (.cells #[.int .i64 v, .int .i64 c, .int .i64 r, .int .i64 t, .int .i64 k, .int .i64 f, .int .i64 n] 28)) (w.heap.size + 1) v c r t k f n := by
 have := Hx.new (w.alloc o) v c r t k f n;simpa using this
theorem grown_two (w : World) (o o' : Obj) : w.grownBy ((w.alloc o).alloc o') none := gQ (World.grownBy_alloc w _ none) (World.grownBy_alloc _ _ none)
theorem withoutTree_any (v c r t k f n : Int) (w : World) : Calls Tryz.prog 206 #[.agg #[.int .i64 v, .int .i64 c, .int .i64 r, .int .i64 t, .int .i64 k, .int .i64 f, .int .i64 n]] w fun en w' => en = .returned (.agg #[.int .i64 v, .int .i64 c, .int .i64 0, .int .i64 0, .int .i64 0, .int .i64 f, .int .i64 n]) ∧ w.grownBy w' none := by
 go_enter Tryz.func206, Tryz.ntmps206;go_wp2;refine bodyPost_ret (ret_head rfl _ _ (w.heap.size + 1) v c 0 0 0 f n rfl (Hx.new2 w _ v c 0 0 0 f n)) rfl ?_;exact ⟨rfl, grown_two w _ _⟩
theorem withoutFrees_any (v c r t k f n : Int) (w : World) : Calls Tryz.prog 207 #[.agg #[.int .i64 v, .int .i64 c, .int .i64 r, .int .i64 t, .int .i64 k, .int .i64 f, .int .i64 n]] w fun en w' => en = .returned (.agg #[.int .i64 v, .int .i64 c, .int .i64 r, .int .i64 t, .int .i64 k, .int .i64 0, .int .i64 0]) ∧ w.grownBy w' none := by
 go_enter Tryz.func207, Tryz.ntmps207;go_wp2;refine bodyPost_ret (ret_head rfl _ _ (w.heap.size + 1) v c r t k 0 0 rfl (Hx.new2 w _ v c r t k 0 0)) rfl ?_;exact ⟨rfl, grown_two w _ _⟩
theorem rightTree_any (v c r t k f n : Int) (w : World) (hc : 2 ≤ c ∧ c ≤ 524287) : Calls Tryz.prog 186 #[.agg #[.int .i64 v, .int .i64 c, .int .i64 r, .int .i64 t, .int .i64 k, .int .i64 f, .int .i64 n]] w fun en w' => en = .returned (.bool (tOk ⟨v, c, r, t, k, f, n⟩)) ∧ w.grownBy w' none := by
 by_cases hr : r = 0
 ·subst hr
  have hm : Hid ((decide (v = v) && (decide (c = c) && (decide ((0 : Int) = 0) && (decide (t = 0) && (decide (k = 0) && (decide (f = f) && decide (n = n))))))) = tOk ⟨v, c, 0, t, k, f, n⟩) := by
   show _ = _
   simp [tOk]
  generalize tOk ⟨v, c, 0, t, k, f, n⟩ = bt at *;have heq : ∀ W : World, (binOp .eql 28 (.agg #[.int .i64 v, .int .i64 c, .int .i64 0, .int .i64 t, .int .i64 k, .int .i64 f, .int .i64 n]) (.agg #[.int .i64 v, .int .i64 c, .int .i64 0, .int .i64 0, .int .i64 0, .int .i64 f, .int .i64 n])).run Tryz.prog W = .ok (.bool bt) W := fun W => by rw [eql_head, hm.out]
  have hgu : ∀ (x y : Operand) (W : World), (eqGuard .eql 28 x y (.agg #[.int .i64 v, .int .i64 c, .int .i64 0, .int .i64 t, .int .i64 k, .int .i64 f, .int .i64 n]) (.agg #[.int .i64 v, .int .i64 c, .int .i64 0, .int .i64 0, .int .i64 0, .int .i64 f, .int .i64 n])).run Tryz.prog W = .ok () W := fun x y W => guard_head x y _ _ _ _ _ _ _ _ _ _ _ _ _ _ W
  go_enter Tryz.func186, Tryz.ntmps186;go_upto_region 2 with fail
  have X1 := hJ (Hx.new w v c 0 t k f n);have G1 := hJ (World.grownBy_alloc w (.cells #[.int .i64 v, .int .i64 c, .int .i64 0, .int .i64 t, .int .i64 k, .int .i64 f, .int .i64 n] 28) none);generalize w.alloc (.cells #[.int .i64 v, .int .i64 c, .int .i64 0, .int .i64 t, .int .i64 k, .int .i64 f, .int .i64 n] 28) = w1 at *;obtain ⟨c0, c1, c2, c3, c4, c5, c6⟩ := X1.out.cells
  go_region_law
   (go_simp; go_at_call 206; refine (withoutTree_any v c 0 t k f n _).mono ?_; rintro en w2 ⟨rfl, hg2⟩; have hg3 := gQ ((Qt.refl w1).drew.grown none) hg2; have X2 := X1.out.keptN hg3; obtain ⟨d0, d1, d2, d3, d4, d5, d6⟩ := X2.cells)
  all_goals
   have G2 := hJ (gQ G1.out hg3);clear hg2 hg3 X2 d0 d1 d2 d3 d4 d5 d6 c0 c1 c2 c3 c4 c5 c6 heq hgu;go_wp2;go_ret;exact ⟨rfl, G2.out⟩
 ·have hr' : (r == 0) = false := by simp [hr]
  have hw : IntKind.i64.wrap (c - 1) = c - 1 := by simp [IntKind.wrap, IntKind.bits, IntKind.signed]; omega
  have hm : Hid (tOk ⟨v, c, r, t, k, f, n⟩ = (wi r 2 (c - 1) && (wi t 1 16 && wi k 1 4294967295))) := by show _ = _; simp [tOk, hr]
  generalize tOk ⟨v, c, r, t, k, f, n⟩ = bt at *;go_enter Tryz.func186, Tryz.ntmps186
  go_wp2_with fail
  refine (within7_any _ _ _ _).mono ?_;rintro en w1 ⟨rfl, rfl⟩;have G1 := hJ (World.grownBy_alloc w (.cells #[.int .i64 v, .int .i64 c, .int .i64 r, .int .i64 t, .int .i64 k, .int .i64 f, .int .i64 n] 28) none);cases e1 : wi r 2 (c - 1) with
  | false =>
   go_wp2;go_ret;exact ⟨by rw [hm.out, e1]; rfl, G1.out⟩
  | true =>
   go_wp2_with fail
   refine (within7_any _ _ _ _).mono ?_;rintro en w1 ⟨rfl, rfl⟩;cases e2 : wi t 1 16 with
   | false =>
    go_wp2;go_ret;exact ⟨by rw [hm.out, e1, e2]; rfl, G1.out⟩
   | true =>
    go_wp2_with fail
    refine (within7_any _ _ _ _).mono ?_;rintro en w1 ⟨rfl, rfl⟩;generalize wi k 1 4294967295 = b3 at *;go_wp2;go_ret;exact ⟨by rw [hm.out, e1, e2]; rfl, G1.out⟩
theorem rightFrees_any (v c r t k f n : Int) (w : World) (hc : 2 ≤ c ∧ c ≤ 524287) : Calls Tryz.prog 187 #[.agg #[.int .i64 v, .int .i64 c, .int .i64 r, .int .i64 t, .int .i64 k, .int .i64 f, .int .i64 n]] w fun en w' => en = .returned (.bool (fOk ⟨v, c, r, t, k, f, n⟩)) ∧ w.grownBy w' none := by
 by_cases hr : f = 0
 ·subst hr
  have hm : Hid ((decide (v = v) && (decide (c = c) && (decide (r = r) && (decide (t = t) && (decide (k = k) && (decide ((0 : Int) = 0) && decide (n = 0))))))) = fOk ⟨v, c, r, t, k, 0, n⟩) := by
   show _ = _
   simp [fOk]
  generalize fOk ⟨v, c, r, t, k, 0, n⟩ = bt at *;have heq : ∀ W : World, (binOp .eql 28 (.agg #[.int .i64 v, .int .i64 c, .int .i64 r, .int .i64 t, .int .i64 k, .int .i64 0, .int .i64 n]) (.agg #[.int .i64 v, .int .i64 c, .int .i64 r, .int .i64 t, .int .i64 k, .int .i64 0, .int .i64 0])).run Tryz.prog W = .ok (.bool bt) W := fun W => by rw [eql_head, hm.out]
  have hgu : ∀ (x y : Operand) (W : World), (eqGuard .eql 28 x y (.agg #[.int .i64 v, .int .i64 c, .int .i64 r, .int .i64 t, .int .i64 k, .int .i64 0, .int .i64 n]) (.agg #[.int .i64 v, .int .i64 c, .int .i64 r, .int .i64 t, .int .i64 k, .int .i64 0, .int .i64 0])).run Tryz.prog W = .ok () W := fun x y W => guard_head x y _ _ _ _ _ _ _ _ _ _ _ _ _ _ W
  go_enter Tryz.func187, Tryz.ntmps187;go_upto_region 2 with fail
  have X1 := hJ (Hx.new w v c r t k 0 n);have G1 := hJ (World.grownBy_alloc w (.cells #[.int .i64 v, .int .i64 c, .int .i64 r, .int .i64 t, .int .i64 k, .int .i64 0, .int .i64 n] 28) none);generalize w.alloc (.cells #[.int .i64 v, .int .i64 c, .int .i64 r, .int .i64 t, .int .i64 k, .int .i64 0, .int .i64 n] 28) = w1 at *;obtain ⟨c0, c1, c2, c3, c4, c5, c6⟩ := X1.out.cells
  go_region_law
   (go_simp; go_at_call 207; refine (withoutFrees_any v c r t k 0 n _).mono ?_; rintro en w2 ⟨rfl, hg2⟩; have hg3 := gQ ((Qt.refl w1).drew.grown none) hg2; have X2 := X1.out.keptN hg3; obtain ⟨d0, d1, d2, d3, d4, d5, d6⟩ := X2.cells)
  all_goals
   have G2 := hJ (gQ G1.out hg3);clear hg2 hg3 X2 d0 d1 d2 d3 d4 d5 d6 c0 c1 c2 c3 c4 c5 c6 heq hgu;go_wp2;go_ret;exact ⟨rfl, G2.out⟩
 ·have hr' : (f == 0) = false := by simp [hr]
  have hw : IntKind.i64.wrap (c - 1) = c - 1 := by simp [IntKind.wrap, IntKind.bits, IntKind.signed]; omega
  have hw2 : IntKind.i64.wrap (c - 2) = c - 2 := by simp [IntKind.wrap, IntKind.bits, IntKind.signed]; omega
  have hm : Hid (fOk ⟨v, c, r, t, k, f, n⟩ = (wi f 2 (c - 1) && wi n 1 (c - 2))) := by show _ = _; simp [fOk, hr]
  generalize fOk ⟨v, c, r, t, k, f, n⟩ = bt at *;go_enter Tryz.func187, Tryz.ntmps187
  go_wp2_with fail
  refine (within7_any _ _ _ _).mono ?_;rintro en w1 ⟨rfl, rfl⟩;have G1 := hJ (World.grownBy_alloc w (.cells #[.int .i64 v, .int .i64 c, .int .i64 r, .int .i64 t, .int .i64 k, .int .i64 f, .int .i64 n] 28) none);cases e1 : wi f 2 (c - 1) with
  | false =>
   go_wp2;go_ret;exact ⟨by rw [hm.out, e1]; rfl, G1.out⟩
  | true =>
   go_wp2_with fail
   refine (within7_any _ _ _ _).mono ?_;rintro en w1 ⟨rfl, rfl⟩;generalize wi n 1 (c - 2) = b3 at *;go_wp2;go_ret;exact ⟨by rw [hm.out, e1]; rfl, G1.out⟩
theorem sameHead_yes (v c r t k f n : Int) (w : World) : Calls Tryz.prog 27 #[.agg #[.int .i64 v, .int .i64 c, .int .i64 r, .int .i64 t, .int .i64 k, .int .i64 f, .int .i64 n], .agg #[.int .i64 v, .int .i64 c, .int .i64 r, .int .i64 t, .int .i64 k, .int .i64 f, .int .i64 n]] w fun en w' => en = .returned (.bool true) ∧ w.grownBy w' none := by
 go_enter Tryz.func27, Tryz.ntmps27;go_wp2;go_ret;exact ⟨rfl, gQ (World.grownBy_alloc w _ none) (World.grownBy_alloc _ _ none)⟩
theorem mayBe_any (v c r t k f n : Int) (w : World) :
  Calls Tryz.prog 143 #[.agg #[.int .i64 v, .int .i64 c, .int .i64 r, .int .i64 t, .int .i64 k, .int .i64 f, .int .i64 n]] w fun en w' => en = .returned (.bool (may ⟨v, c, r, t, k, f, n⟩)) ∧ w.grownBy w' none := by
 have hT : wi c 2 524287 = true → ∀ w, Calls Tryz.prog 186 #[.agg #[.int .i64 v, .int .i64 c, .int .i64 r, .int .i64 t, .int .i64 k, .int .i64 f, .int .i64 n]] w fun en w' => en = .returned (.bool (tOk ⟨v, c, r, t, k, f, n⟩)) ∧ w.grownBy w' none := fun h w => rightTree_any v c r t k f n w (wi_iff.1 h)
 have hF : wi c 2 524287 = true → ∀ w, Calls Tryz.prog 187 #[.agg #[.int .i64 v, .int .i64 c, .int .i64 r, .int .i64 t, .int .i64 k, .int .i64 f, .int .i64 n]] w fun en w' => en = .returned (.bool (fOk ⟨v, c, r, t, k, f, n⟩)) ∧ w.grownBy w' none := fun h w => rightFrees_any v c r t k f n w (wi_iff.1 h)
 have hm : Hid (may ⟨v, c, r, t, k, f, n⟩ = (wi v 1 4611686018427387904 && (wi c 2 524287 && (tOk ⟨v, c, r, t, k, f, n⟩ && fOk ⟨v, c, r, t, k, f, n⟩)))) := rfl;generalize tOk ⟨v, c, r, t, k, f, n⟩ = bt at *;generalize fOk ⟨v, c, r, t, k, f, n⟩ = bf at *;generalize may ⟨v, c, r, t, k, f, n⟩ = bm at *;cases e1 : wi v 1 4611686018427387904 with
 | false =>
  go_enter Tryz.func143, Tryz.ntmps143
  go_wp2_with fail
  refine (within7_any _ _ _ _).mono ?_;rintro en w1 ⟨rfl, rfl⟩;rw [e1];go_wp2;go_ret;exact ⟨by rw [hm.out, e1]; rfl, World.grownBy_alloc w _ none⟩
 | true =>
  go_enter Tryz.func143, Tryz.ntmps143
  go_wp2_with fail
  have X1 := hJ (Hx.new w v c r t k f n);have G1 := hJ (World.grownBy_alloc w (.cells #[.int .i64 v, .int .i64 c, .int .i64 r, .int .i64 t, .int .i64 k, .int .i64 f, .int .i64 n] 28) none);obtain ⟨c0, c1, c2, c3, c4, c5, c6⟩ := X1.out.cells;generalize w.alloc (.cells #[.int .i64 v, .int .i64 c, .int .i64 r, .int .i64 t, .int .i64 k, .int .i64 f, .int .i64 n] 28) = w1 at *;refine (within7_any _ _ _ _).mono ?_;rintro en w1 ⟨rfl, rfl⟩;rw [e1];cases e2 : wi c 2 524287 with
  | false =>
   go_wp2_with fail
   refine (within7_any _ _ _ _).mono ?_;rintro en w1 ⟨rfl, rfl⟩;rw [e2];go_wp2;go_ret;exact ⟨by rw [hm.out, e1, e2]; rfl, G1.out⟩
  | true =>
   go_wp2_with fail
   refine (within7_any _ _ _ _).mono ?_;rintro en w1 ⟨rfl, rfl⟩;rw [e2];have HT := hJ (hT e2);have HF := hJ (hF e2);clear hT hF
   go_wp2_with fail
   refine (HT.out _).mono ?_;rintro en w2 ⟨rfl, hg2⟩;have X2 := hJ (X1.out.keptN hg2);have G2 := hJ (gQ G1.out hg2);clear c0 c1 c2 c3 c4 c5 c6 X1 G1 hg2 HT;obtain ⟨c0, c1, c2, c3, c4, c5, c6⟩ := X2.out.cells;cases bt with
   | false =>
    go_wp2;go_ret;exact ⟨by rw [hm.out, e1, e2]; rfl, G2.out⟩
   | true =>
    go_wp2_with fail
    refine (HF.out _).mono ?_;rintro en w3 ⟨rfl, hg3⟩;have G3 := hJ (gQ G2.out hg3);clear hg3 c0 c1 c2 c3 c4 c5 c6;go_wp2;go_ret;exact ⟨by rw [hm.out, e1, e2]; rfl, G3.out⟩
theorem may_iff {v c r t k f n : Int} : may ⟨v, c, r, t, k, f, n⟩ = true ↔ (1 ≤ v ∧ v ≤ 4611686018427387904 ∧ 2 ≤ c ∧ c ≤ 524287 ∧ ((r = 0 ∧ t = 0 ∧ k = 0) ∨ (r ≠ 0 ∧ 2 ≤ r ∧ r < c ∧ 1 ≤ t ∧ t ≤ 16 ∧ 1 ≤ k ∧ k ≤ 4294967295)) ∧ ((f = 0 ∧ n = 0) ∨ (f ≠ 0 ∧ 2 ≤ f ∧ f < c ∧ 1 ≤ n ∧ n ≤ c - 2))) := by
 by_cases h1 : r = 0 <;> by_cases h2 : f = 0 <;> simp [may, tOk, fOk, wi, h1, h2] <;> omega
theorem may_no {v c r t k f n : Int} (h : ¬ (1 ≤ v ∧ v ≤ 4611686018427387904 ∧ 2 ≤ c ∧ c ≤ 524287 ∧ ((r = 0 ∧ t = 0 ∧ k = 0) ∨ (r ≠ 0 ∧ 2 ≤ r ∧ r < c ∧ 1 ≤ t ∧ t ≤ 16 ∧ 1 ≤ k ∧ k ≤ 4294967295)) ∧ ((f = 0 ∧ n = 0) ∨ (f ≠ 0 ∧ 2 ≤ f ∧ f < c ∧ 1 ≤ n ∧ n ≤ c - 2)))) : may ⟨v, c, r, t, k, f, n⟩ = false := by
 rw [← Bool.not_eq_true, may_iff]; exact h
theorem refMay_any (v c r t k f n : Int) (w : World) : Calls Tryz.prog 100 #[.agg #[.int .i64 v, .int .i64 c, .int .i64 r, .int .i64 t, .int .i64 k, .int .i64 f, .int .i64 n]] w fun en w' => en = .returned (.bool (may ⟨v, c, r, t, k, f, n⟩)) ∧ w.grownBy w' none := by
 by_cases a1 : v < 1
 ·have e : Hid (may ⟨v, c, r, t, k, f, n⟩ = false) := may_no (by omega)
  go_enter Tryz.func100, Tryz.ntmps100;go_wp2;go_ret;exact ⟨by rw [e.out]; rfl, World.grownBy_alloc w _ none⟩
 ·by_cases a2 : v > 4611686018427387904
  ·have e : Hid (may ⟨v, c, r, t, k, f, n⟩ = false) := may_no (by omega)
   go_enter Tryz.func100, Tryz.ntmps100;go_wp2;go_ret;exact ⟨by rw [e.out]; rfl, World.grownBy_alloc w _ none⟩
  ·by_cases a3 : c < 2
   ·have e : Hid (may ⟨v, c, r, t, k, f, n⟩ = false) := may_no (by omega)
    go_enter Tryz.func100, Tryz.ntmps100;go_wp2;go_ret;exact ⟨by rw [e.out]; rfl, World.grownBy_alloc w _ none⟩
   ·by_cases a4 : c > 524287
    ·have e : Hid (may ⟨v, c, r, t, k, f, n⟩ = false) := may_no (by omega)
     go_enter Tryz.func100, Tryz.ntmps100;go_wp2;go_ret;exact ⟨by rw [e.out]; rfl, World.grownBy_alloc w _ none⟩
    ·have hw2 : IntKind.i64.wrap (c - 2) = c - 2 := by simp [IntKind.wrap, IntKind.bits, IntKind.signed]; omega
     by_cases hr : r = 0
     ·subst hr
      by_cases ht : t = 0
      ·subst ht
       by_cases hk : k = 0
       ·subst hk
        by_cases hf : f = 0
        ·subst hf
         by_cases hn : n = 0
         ·subst hn
          have e : Hid (may ⟨v, c, 0, 0, 0, 0, 0⟩ = true) := may_iff.2 (by omega);go_enter Tryz.func100, Tryz.ntmps100;go_wp2;go_ret;exact ⟨by rw [e.out]; rfl, World.grownBy_alloc w _ none⟩
         ·have hnb : (n == 0) = false := by simp [hn]
          have hnc : (n != 0) = true := by simp [hn]
          have e : Hid (may ⟨v, c, 0, 0, 0, 0, n⟩ = false) := may_no (by omega);go_enter Tryz.func100, Tryz.ntmps100;go_wp2;go_ret;exact ⟨by rw [e.out]; rfl, World.grownBy_alloc w _ none⟩
        ·have hfb : (f == 0) = false := by simp [hf]
         have hfc : (f != 0) = true := by simp [hf]
         by_cases c0 : 2 ≤ f
         ·by_cases c1 : f < c
          ·by_cases c2 : 1 ≤ n
           ·by_cases c3 : n ≤ c - 2
            ·have e : Hid (may ⟨v, c, 0, 0, 0, f, n⟩ = true) := may_iff.2 (by omega)
             go_enter Tryz.func100, Tryz.ntmps100;go_wp2;go_ret;exact ⟨by rw [e.out]; rfl, World.grownBy_alloc w _ none⟩
            ·have e : Hid (may ⟨v, c, 0, 0, 0, f, n⟩ = false) := may_no (by omega)
             go_enter Tryz.func100, Tryz.ntmps100;go_wp2;go_ret;exact ⟨by rw [e.out]; rfl, World.grownBy_alloc w _ none⟩
           ·have e : Hid (may ⟨v, c, 0, 0, 0, f, n⟩ = false) := may_no (by omega)
            go_enter Tryz.func100, Tryz.ntmps100;go_wp2;go_ret;exact ⟨by rw [e.out]; rfl, World.grownBy_alloc w _ none⟩
          ·have e : Hid (may ⟨v, c, 0, 0, 0, f, n⟩ = false) := may_no (by omega)
           go_enter Tryz.func100, Tryz.ntmps100;go_wp2;go_ret;exact ⟨by rw [e.out]; rfl, World.grownBy_alloc w _ none⟩
         ·have e : Hid (may ⟨v, c, 0, 0, 0, f, n⟩ = false) := may_no (by omega)
          go_enter Tryz.func100, Tryz.ntmps100;go_wp2;go_ret;exact ⟨by rw [e.out]; rfl, World.grownBy_alloc w _ none⟩
       ·have hkb : (k == 0) = false := by simp [hk]
        have hkc : (k != 0) = true := by simp [hk]
        by_cases hf : f = 0
        ·subst hf
         have e : Hid (may ⟨v, c, 0, 0, k, 0, n⟩ = false) := may_no (by omega);go_enter Tryz.func100, Tryz.ntmps100;go_wp2;go_ret;exact ⟨by rw [e.out]; rfl, World.grownBy_alloc w _ none⟩
        ·have hfb : (f == 0) = false := by simp [hf]
         have hfc : (f != 0) = true := by simp [hf]
         have e : Hid (may ⟨v, c, 0, 0, k, f, n⟩ = false) := may_no (by omega);go_enter Tryz.func100, Tryz.ntmps100;go_wp2;go_ret;exact ⟨by rw [e.out]; rfl, World.grownBy_alloc w _ none⟩
      ·have htb : (t == 0) = false := by simp [ht]
       have htc : (t != 0) = true := by simp [ht]
       by_cases hf : f = 0
       ·subst hf
        have e : Hid (may ⟨v, c, 0, t, k, 0, n⟩ = false) := may_no (by omega);go_enter Tryz.func100, Tryz.ntmps100;go_wp2;go_ret;exact ⟨by rw [e.out]; rfl, World.grownBy_alloc w _ none⟩
       ·have hfb : (f == 0) = false := by simp [hf]
        have hfc : (f != 0) = true := by simp [hf]
        have e : Hid (may ⟨v, c, 0, t, k, f, n⟩ = false) := may_no (by omega);go_enter Tryz.func100, Tryz.ntmps100;go_wp2;go_ret;exact ⟨by rw [e.out]; rfl, World.grownBy_alloc w _ none⟩
     ·have hrb : (r == 0) = false := by simp [hr]
      have hrc : (r != 0) = true := by simp [hr]
      by_cases r0 : 2 ≤ r
      ·by_cases r1 : r < c
       ·by_cases r2 : 1 ≤ t
        ·by_cases r3 : t ≤ 16
         ·by_cases r4 : 1 ≤ k
          ·by_cases r5 : k ≤ 4294967295
           ·by_cases hf : f = 0
            ·subst hf
             by_cases hn : n = 0
             ·subst hn
              have e : Hid (may ⟨v, c, r, t, k, 0, 0⟩ = true) := may_iff.2 (by omega);go_enter Tryz.func100, Tryz.ntmps100;go_wp2;go_ret;exact ⟨by rw [e.out]; rfl, World.grownBy_alloc w _ none⟩
             ·have hnb : (n == 0) = false := by simp [hn]
              have hnc : (n != 0) = true := by simp [hn]
              have e : Hid (may ⟨v, c, r, t, k, 0, n⟩ = false) := may_no (by omega);go_enter Tryz.func100, Tryz.ntmps100;go_wp2;go_ret;exact ⟨by rw [e.out]; rfl, World.grownBy_alloc w _ none⟩
            ·have hfb : (f == 0) = false := by simp [hf]
             have hfc : (f != 0) = true := by simp [hf]
             by_cases c0 : 2 ≤ f
             ·by_cases c1 : f < c
              ·by_cases c2 : 1 ≤ n
               ·by_cases c3 : n ≤ c - 2
                ·have e : Hid (may ⟨v, c, r, t, k, f, n⟩ = true) := may_iff.2 (by omega)
                 go_enter Tryz.func100, Tryz.ntmps100;go_wp2;go_ret;exact ⟨by rw [e.out]; rfl, World.grownBy_alloc w _ none⟩
                ·have e : Hid (may ⟨v, c, r, t, k, f, n⟩ = false) := may_no (by omega)
                 go_enter Tryz.func100, Tryz.ntmps100;go_wp2;go_ret;exact ⟨by rw [e.out]; rfl, World.grownBy_alloc w _ none⟩
               ·have e : Hid (may ⟨v, c, r, t, k, f, n⟩ = false) := may_no (by omega)
                go_enter Tryz.func100, Tryz.ntmps100;go_wp2;go_ret;exact ⟨by rw [e.out]; rfl, World.grownBy_alloc w _ none⟩
              ·have e : Hid (may ⟨v, c, r, t, k, f, n⟩ = false) := may_no (by omega)
               go_enter Tryz.func100, Tryz.ntmps100;go_wp2;go_ret;exact ⟨by rw [e.out]; rfl, World.grownBy_alloc w _ none⟩
             ·have e : Hid (may ⟨v, c, r, t, k, f, n⟩ = false) := may_no (by omega)
              go_enter Tryz.func100, Tryz.ntmps100;go_wp2;go_ret;exact ⟨by rw [e.out]; rfl, World.grownBy_alloc w _ none⟩
           ·by_cases hf : f = 0
            ·subst hf
             have e : Hid (may ⟨v, c, r, t, k, 0, n⟩ = false) := may_no (by omega);go_enter Tryz.func100, Tryz.ntmps100;go_wp2;go_ret;exact ⟨by rw [e.out]; rfl, World.grownBy_alloc w _ none⟩
            ·have hfb : (f == 0) = false := by simp [hf]
             have hfc : (f != 0) = true := by simp [hf]
             have e : Hid (may ⟨v, c, r, t, k, f, n⟩ = false) := may_no (by omega);go_enter Tryz.func100, Tryz.ntmps100;go_wp2;go_ret;exact ⟨by rw [e.out]; rfl, World.grownBy_alloc w _ none⟩
          ·by_cases hf : f = 0
           ·subst hf
            have e : Hid (may ⟨v, c, r, t, k, 0, n⟩ = false) := may_no (by omega);go_enter Tryz.func100, Tryz.ntmps100;go_wp2;go_ret;exact ⟨by rw [e.out]; rfl, World.grownBy_alloc w _ none⟩
           ·have hfb : (f == 0) = false := by simp [hf]
            have hfc : (f != 0) = true := by simp [hf]
            have e : Hid (may ⟨v, c, r, t, k, f, n⟩ = false) := may_no (by omega);go_enter Tryz.func100, Tryz.ntmps100;go_wp2;go_ret;exact ⟨by rw [e.out]; rfl, World.grownBy_alloc w _ none⟩
         ·by_cases hf : f = 0
          ·subst hf
           have e : Hid (may ⟨v, c, r, t, k, 0, n⟩ = false) := may_no (by omega);go_enter Tryz.func100, Tryz.ntmps100;go_wp2;go_ret;exact ⟨by rw [e.out]; rfl, World.grownBy_alloc w _ none⟩
          ·have hfb : (f == 0) = false := by simp [hf]
           have hfc : (f != 0) = true := by simp [hf]
           have e : Hid (may ⟨v, c, r, t, k, f, n⟩ = false) := may_no (by omega);go_enter Tryz.func100, Tryz.ntmps100;go_wp2;go_ret;exact ⟨by rw [e.out]; rfl, World.grownBy_alloc w _ none⟩
        ·by_cases hf : f = 0
         ·subst hf
          have e : Hid (may ⟨v, c, r, t, k, 0, n⟩ = false) := may_no (by omega);go_enter Tryz.func100, Tryz.ntmps100;go_wp2;go_ret;exact ⟨by rw [e.out]; rfl, World.grownBy_alloc w _ none⟩
         ·have hfb : (f == 0) = false := by simp [hf]
          have hfc : (f != 0) = true := by simp [hf]
          have e : Hid (may ⟨v, c, r, t, k, f, n⟩ = false) := may_no (by omega);go_enter Tryz.func100, Tryz.ntmps100;go_wp2;go_ret;exact ⟨by rw [e.out]; rfl, World.grownBy_alloc w _ none⟩
       ·by_cases hf : f = 0
        ·subst hf
         have e : Hid (may ⟨v, c, r, t, k, 0, n⟩ = false) := may_no (by omega);go_enter Tryz.func100, Tryz.ntmps100;go_wp2;go_ret;exact ⟨by rw [e.out]; rfl, World.grownBy_alloc w _ none⟩
        ·have hfb : (f == 0) = false := by simp [hf]
         have hfc : (f != 0) = true := by simp [hf]
         have e : Hid (may ⟨v, c, r, t, k, f, n⟩ = false) := may_no (by omega);go_enter Tryz.func100, Tryz.ntmps100;go_wp2;go_ret;exact ⟨by rw [e.out]; rfl, World.grownBy_alloc w _ none⟩
      ·by_cases hf : f = 0
       ·subst hf
        have e : Hid (may ⟨v, c, r, t, k, 0, n⟩ = false) := may_no (by omega);go_enter Tryz.func100, Tryz.ntmps100;go_wp2;go_ret;exact ⟨by rw [e.out]; rfl, World.grownBy_alloc w _ none⟩
       ·have hfb : (f == 0) = false := by simp [hf]
        have hfc : (f != 0) = true := by simp [hf]
        have e : Hid (may ⟨v, c, r, t, k, f, n⟩ = false) := may_no (by omega);go_enter Tryz.func100, Tryz.ntmps100;go_wp2;go_ret;exact ⟨by rw [e.out]; rfl, World.grownBy_alloc w _ none⟩
end Go.Proofs.YtkiopabcnemgnaaGreatDoor
