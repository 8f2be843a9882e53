import Derived.Test.YtlhjociijkhimaaGreatDoorMeM
import Derived.Test.YtlhjociijkhimaaGreatDoorBrG
import Derived.Test.YtlhjociijkhimaaGreatDoorBrS
import Derived.Deep.WholeRow
import Derived.Deep.CutBlock
import Derived.Deep.RegionLaw
import Derived.Laws.Cover3
import Derived.Laws.StructEq
import Derived.ChangeKeysEq
import Derived.KernelRfl
namespace Go.Proofs.YtlhjociijkhimaaGreatDoor
open Go.RowKit

/-! ### A head in memory -/

/-- A box of a head. -/
def Hx (w : World) (T : Nat) (v c r t k f n : Int) : Prop := w.heap[T]? = some (.cells #[.int .i64 v, .int .i64 c, .int .i64 r, .int .i64 t, .int .i64 k, .int .i64 f, .int .i64 n] 23 (0, 0))
theorem Hx.lt {w : World} {T : Nat} {v c r t k f n : Int} (h : Hx w T v c r t k f n) : T < w.heap.size := (Array.getElem?_eq_some_iff.1 h).1
theorem Hx.cells {w : World} {T : Nat} {v c r t k f n : Int} (h : Hx w T v c r t k f n) : w.cell? ⟨T, 0, none⟩ = some (.int .i64 v) ∧ w.cell? ⟨T, 1, none⟩ = some (.int .i64 c) ∧ w.cell? ⟨T, 2, none⟩ = some (.int .i64 r) ∧ w.cell? ⟨T, 3, none⟩ = some (.int .i64 t) ∧
    w.cell? ⟨T, 4, none⟩ = some (.int .i64 k) ∧ w.cell? ⟨T, 5, none⟩ = some (.int .i64 f) ∧ w.cell? ⟨T, 6, none⟩ = some (.int .i64 n) := by
  refine ⟨?_, ?_, ?_, ?_, ?_, ?_, ?_⟩
  · rw [cell_of_row w T 0 _ _ _ h]; rfl
  · rw [cell_of_row w T 1 _ _ _ h]; rfl
  · rw [cell_of_row w T 2 _ _ _ h]; rfl
  · rw [cell_of_row w T 3 _ _ _ h]; rfl
  · rw [cell_of_row w T 4 _ _ _ h]; rfl
  · rw [cell_of_row w T 5 _ _ _ h]; rfl
  · rw [cell_of_row w T 6 _ _ _ h]; rfl
theorem Hx.frozen {w : World} {T : Nat} {v c r t k f n : Int} (h : Hx w T v c r t k f n) (j : Nat) : w.frozen? ⟨T, j, none⟩ = false := frozen_of_row w T j _ _ h
theorem Hx.kept {w w' : World} {T : Nat} {v c r t k f n : Int} {row : Option Nat} (h : Hx w T v c r t k f n) (hg : w.grownBy w' row) (hne : some T ≠ row) : Hx w' T v c r t k f n := (hg.block T h.lt hne).trans h
theorem Hx.keptN {w w' : World} {T : Nat} {v c r t k f n : Int} (h : Hx w T v c r t k f n) (hg : w.grownBy w' none) : Hx w' T v c r t k f n := h.kept hg (by simp)
theorem Hx.new (w : World) (v c r t k f n : Int) : Hx (w.alloc (.cells #[.int .i64 v, .int .i64 c, .int .i64 r, .int .i64 t, .int .i64 k, .int .i64 f, .int .i64 n] 23)) w.heap.size v c r t k f n := heap_alloc_new w _
theorem head_size : (Tryz.prog.info? 23).map (·.size) = some 7 := by kernel_rfl
theorem ret_head {fn : Func} {p : Tmp} (h : fn.results = #[.cell p 23]) (tmps : Array Value) (w : World) (U : Nat) (v c r t k f n : Int) (hp : tmps.getD p undef = .pointer (some ⟨U, 0, none⟩)) (hx : Hx w U v c r t k f n) :
    (results fn tmps).run Tryz.prog w = .ok (.agg #[.int .i64 v, .int .i64 c, .int .i64 r, .int .i64 t, .int .i64 k, .int .i64 f, .int .i64 n]) w :=
  results_cell_row h tmps w U 23 _ (0, 0) _ hp hx Tryz.underlying23 rfl head_size

/-! ### Arrays of bytes, as values -/

def agB (zs : List Int) : Value := .agg (zs.map (Value.int .u8)).toArray
/-- A type of arrays of n bytes. -/
structure Arr (t : TypeId) (n : Nat) : Prop where
  und : Tryz.prog.underlying t = some (.array n 5)
  zero : ((Tryz.prog.info? t).bind (fun i => i.zero)).map (fun z => z.cells) = some ((List.replicate n (Value.int .u8 0)).toArray)
  size : (Tryz.prog.info? t).map (fun i => i.size) = some n
  heldNo : Tryz.prog.eqGuardType Tryz.prog.depth t = false
theorem arrM_is : Arr 53 3 := ⟨Tryz.underlying53, by kernel_rfl, by kernel_rfl, by kernel_rfl⟩
theorem arrE_is : Arr 54 4 := ⟨Tryz.underlying54, by kernel_rfl, by kernel_rfl, by kernel_rfl⟩
theorem arrS_is : Arr 58 4051 := ⟨Tryz.underlying58, by kernel_rfl, by kernel_rfl, by kernel_rfl⟩
theorem Arr.parts {t : TypeId} {n : Nat} (h : Arr t n) : ∃ i z, Tryz.prog.info? t = some i ∧ i.zero = some z ∧ z.cells = ((List.replicate n (0 : Int)).map (Value.int .u8)).toArray := by
  obtain ⟨z, h1, h2⟩ := Option.map_eq_some_iff.1 h.zero
  obtain ⟨i, h3, h4⟩ := Option.bind_eq_some_iff.1 h1
  exact ⟨i, z, h3, h4, by rw [List.map_replicate]; exact h2⟩
theorem wpList_alloc_arr {t : TypeId} {N : Nat} (ha : Arr t N) {w : World} {ops : Array Oper} {rest : List Oper} {o : Oper} {a : Act} {Q : Exit → Act → World → Prop} (hgd : o.guard = none) (ho : o.op = .alloc t) (Z : List Int) (hZ : Z = List.replicate N 0)
    (h : ∀ w', Rt w' w.heap.size t Z → w.grownBy w' none → w'.heap.size = w.heap.size + 1 → wpList Tryz.prog ops Q rest (a.put o.dst (.pointer (some ⟨w.heap.size, 0, none⟩))) w') : wpList Tryz.prog ops Q (o :: rest) a w := by
  obtain ⟨i, z, h1, h2, h3⟩ := ha.parts
  refine wpList_plain hgd fun K hK => ?_
  unfold Oper.wp
  have hr : (execOp a.eval o).run Tryz.prog w = .ok (.value (.pointer (some ⟨w.heap.size, 0, none⟩))) (w.alloc (.cells z.cells t)) := by
    simp [execOp, ho, Instr.alloc, zeroValue, typeInfo, newVar, newRow, h1, h2]
  rw [hr, Oper.upon_value]
  refine hK _ _ (h _ ?_ (World.grownBy_alloc w _ none) (by simp))
  rw [h3, hZ]
  exact heap_alloc_new w _
theorem wpList_load_arr {t : TypeId} {N : Nat} (ha : Arr t N) {w : World} {ops : Array Oper} {rest : List Oper} {o : Oper} {a : Act} {Q : Exit → Act → World → Prop} (hgd : o.guard = none) (p : Operand) (ho : o.op = .load t p) (g : Nat) (zs : List Int) (hp : a.eval p = .pointer (some ⟨g, 0, none⟩)) (hr : Rt w g t zs) (hl : zs.length = N)
    (h : wpList Tryz.prog ops Q rest (a.put o.dst (agB zs)) w) : wpList Tryz.prog ops Q (o :: rest) a w := by
  refine wpList_plain hgd fun K hK => ?_
  unfold Oper.wp
  have hv := run_loadVar_row (P := Tryz.prog) w g t t _ (0, 0) _ hr ha.und rfl (by rw [ha.size]; simp [hl])
  have hr : (execOp a.eval o).run Tryz.prog w = .ok (.value (agB zs)) w := by
    simp [execOp, ho, hp, Instr.loadAt, Instr.sureAddr, hv, agB, Result.andThen]
  rw [hr, Oper.upon_value]
  exact hK _ _ h
theorem wpList_store_arr {t : TypeId} {N : Nat} (ha : Arr t N) {w : World} {ops : Array Oper} {rest : List Oper} {o : Oper} {a : Act} {Q : Exit → Act → World → Prop} (hgd : o.guard = none) (p x : Operand) (ho : o.op = .store t p x) (g : Nat) (cs zs : List Int) (hp : a.eval p = .pointer (some ⟨g, 0, none⟩)) (hx : a.eval x = agB zs) (hr : Rt w g t cs) (hl : cs.length = N) (hz : zs.length = N)
    (h : ∀ w', Rt w' g t zs → w.grownBy w' (some g) → w'.heap.size = w.heap.size → wpList Tryz.prog ops Q rest (a.put o.dst undef) w') : wpList Tryz.prog ops Q (o :: rest) a w := by
  refine wpList_plain hgd fun K hK => ?_
  unfold Oper.wp
  have hv := run_storeVar_row (P := Tryz.prog) w g t t _ (zs.map (Value.int .u8)).toArray hr (by rw [ha.size]; simp [hz]) (by simp [hl, hz]) (by simp [Value.oneCell'])
  have hr2 : (execOp a.eval o).run Tryz.prog w = .ok .skip (w.setRow g (zs.map (Value.int .u8)).toArray) := by
    simp [execOp, ho, hp, hx, Instr.storeAt, Instr.sureAddr, hv, agB, Result.andThen]
  rw [hr2, Oper.upon_skip]
  have hro : Rp w (w.setRow g (zs.map (Value.int .u8)).toArray) g t (zs.map (Value.int .u8)) := ⟨setRow_heap w g _ _ _ _ hr, fun k hk => setRow_other w g k _ hk, by simp [World.setRow], rfl, rfl, rfl⟩
  exact hK _ _ (h _ hro.row hro.grown hro.size)

theorem plain_u8 : Tryz.prog.plainKey 5 = true := by kernel_rfl
theorem plain_int : Tryz.prog.plainKey 3 = true := by kernel_rfl
theorem cells_u8 : Tryz.prog.cellsOf 5 = 1 := by kernel_rfl
theorem info_u8_is : ∃ i, Tryz.prog.info? 5 = some i := Option.isSome_iff_exists.1 (by kernel_rfl)
theorem get_byte (xs : List Int) (i : Nat) (h : i < xs.length) (kk : IntKind) : (xs.map (Value.int kk)).toArray[i]? = some (.int kk (xs.getD i 0)) := by
  simp [List.getD, List.getElem?_eq_getElem h]
theorem eqItems_u8 (d : Nat) (xs ys : List Int) (w : World) : ∀ is : List Nat, (∀ i ∈ is, i < xs.length ∧ i < ys.length) →
    (Op.eqItems (d + 1) 5 1 (xs.map (Value.int .u8)).toArray (ys.map (Value.int .u8)).toArray is).run Tryz.prog w = .ok (is.all fun i => xs.getD i 0 == ys.getD i 0) w
  | [], _ => by simp [Op.eqItems]
  | i :: is, h => by
    have hi := h i List.mem_cons_self
    have p1 := run_part_plain (P := Tryz.prog) (w := w) plain_u8 (get_byte xs i hi.1 .u8)
    have p2 := run_part_plain (P := Tryz.prog) (w := w) plain_u8 (get_byte ys i hi.2 .u8)
    have p3 := run_equalIn_int (P := Tryz.prog) (w := w) d 5 .u8 .u8 (xs.getD i 0) (ys.getD i 0) Tryz.underlying5
    have ih := eqItems_u8 d xs ys w is (fun j hj => h j (List.mem_cons_of_mem _ hj))
    simp only [Op.eqItems, Sem.run_bind, Nat.mul_one, p1, p2, p3, Result.andThen_ok, List.all_cons]
    cases (xs.getD i 0 == ys.getD i 0)
    · simp
    · simp only [Bool.not_true, Bool.false_eq_true, if_false, Bool.true_and]; exact ih
theorem all_range_eq (xs ys : List Int) (h : xs.length = ys.length) : ((List.range xs.length).all fun i => xs.getD i 0 == ys.getD i 0) = decide (xs = ys) := by
  rw [Bool.eq_iff_iff, List.all_eq_true, decide_eq_true_eq]
  constructor
  · intro h1
    refine List.ext_getElem h fun i h2 h3 => ?_
    have := h1 i (List.mem_range.2 h2)
    simpa [List.getD, List.getElem?_eq_getElem h2, List.getElem?_eq_getElem h3] using this
  · rintro rfl i _
    simp
theorem neq_arr {t : TypeId} {N : Nat} (ha : Arr t N) (xs ys : List Int) (w : World) (hx : xs.length = N) (hy : ys.length = N) : (binOp .neq t (agB xs) (agB ys)).run Tryz.prog w = .ok (.bool (!decide (xs = ys))) w := by
  obtain ⟨i, hi⟩ := info_u8_is
  unfold agB
  rw [run_neq_struct, show (10000 : Nat) = 9999 + 1 from rfl, run_equalIn_array w 9999 _ _ ha.und hi, cells_u8, ← hx, show (9999 : Nat) = 9998 + 1 from rfl, eqItems_u8 9998 xs ys w _ (fun j hj => by have := List.mem_range.1 hj; omega), all_range_eq xs ys (by omega)]
  rfl
theorem guard_arr {t : TypeId} {N : Nat} (ha : Arr t N) (x y : Operand) (xs ys : List Int) (w : World) : (eqGuard .neq t x y (agB xs) (agB ys)).run Tryz.prog w = .ok () w := by
  unfold agB
  exact run_eqGuard_agg w .neq t x y _ _ ha.heldNo

/-! ### Two heads compared -/

theorem eqFields_ints (d : Nat) (xs ys : List Int) (w : World) : ∀ fs : List Field, (∀ g ∈ fs, g.name ≠ "_" ∧ g.type = 3 ∧ g.offset < xs.length ∧ g.offset < ys.length) →
    (Op.eqFields (d + 1) (xs.map (Value.int .i64)).toArray (ys.map (Value.int .i64)).toArray fs).run Tryz.prog w = .ok (fs.all fun g => xs.getD g.offset 0 == ys.getD g.offset 0) w
  | [], _ => by simp [Op.eqFields]
  | g :: fs, h => by
    obtain ⟨h1, h2, h3, h4⟩ := h g List.mem_cons_self
    have p1 := run_part_plain (P := Tryz.prog) (w := w) plain_int (get_byte xs g.offset h3 .i64)
    have p2 := run_part_plain (P := Tryz.prog) (w := w) plain_int (get_byte ys g.offset h4 .i64)
    have p3 := run_equalIn_int (P := Tryz.prog) (w := w) d 3 .i64 .i64 (xs.getD g.offset 0) (ys.getD g.offset 0) Tryz.underlying3
    have ih := eqFields_ints d xs ys w fs (fun j hj => h j (List.mem_cons_of_mem _ hj))
    simp only [Op.eqFields, h1, h2, ne_eq, not_false_eq_true, if_true, Sem.run_bind, p1, p2, p3, Result.andThen_ok, List.all_cons]
    cases (xs.getD g.offset 0 == ys.getD g.offset 0)
    · simp
    · simp only [Bool.not_true, Bool.false_eq_true, if_false, Bool.true_and]; exact ih
theorem head_fields : Tryz.prog.underlying 23 = some (.struct (Tryz.prog.fieldsOf 23)) := by kernel_rfl
theorem head_held : Tryz.prog.stoodInHeld 23 = false := by kernel_rfl
theorem eql_head (v c r t k f n v' c' r' t' k' f' n' : Int) (w : World) : (binOp .eql 23 (.agg #[.int .i64 v, .int .i64 c, .int .i64 r, .int .i64 t, .int .i64 k, .int .i64 f, .int .i64 n]) (.agg #[.int .i64 v', .int .i64 c', .int .i64 r', .int .i64 t', .int .i64 k', .int .i64 f', .int .i64 n'])).run Tryz.prog w = .ok (.bool (decide (v = v') && (decide (c = c') && (decide (r = r') && (decide (t = t') && (decide (k = k') && (decide (f = f') && decide (n = n')))))))) w := by
  have e1 : (#[.int .i64 v, .int .i64 c, .int .i64 r, .int .i64 t, .int .i64 k, .int .i64 f, .int .i64 n] : Array Value) = (([v, c, r, t, k, f, n] : List Int).map (Value.int .i64)).toArray := rfl
  have e2 : (#[.int .i64 v', .int .i64 c', .int .i64 r', .int .i64 t', .int .i64 k', .int .i64 f', .int .i64 n'] : Array Value) = (([v', c', r', t', k', f', n'] : List Int).map (Value.int .i64)).toArray := rfl
  obtain ⟨F, hF⟩ : ∃ F, F = Tryz.prog.fieldsOf 23 := ⟨_, rfl⟩
  have hu := head_fields
  rw [Tryz.underlying23, ← hF] at hu
  rw [run_eql_struct, show (10000 : Nat) = 9999 + 1 from rfl, run_equalIn_struct w 9999 23 _ _ head_fields head_held, ← hF, e1, e2]
  have hf := (TypeDesc.struct.inj (Option.some.inj hu)).symm
  subst hf
  rw [show (9999 : Nat) = 9998 + 1 from rfl, eqFields_ints 9998 _ _ w _ (by intro g hg; simp at hg; rcases hg with rfl | rfl | rfl | rfl | rfl | rfl | rfl <;> exact ⟨by decide, rfl, by simp, by simp⟩)]
  show Result.ok (Value.bool _) w = _
  congr 2
  rw [Bool.eq_iff_iff]
  simp
theorem guard_head (x y : Operand) (v c r t k f n v' c' r' t' k' f' n' : Int) (w : World) : (eqGuard .eql 23 x y (.agg #[.int .i64 v, .int .i64 c, .int .i64 r, .int .i64 t, .int .i64 k, .int .i64 f, .int .i64 n]) (.agg #[.int .i64 v', .int .i64 c', .int .i64 r', .int .i64 t', .int .i64 k', .int .i64 f', .int .i64 n'])).run Tryz.prog w = .ok () w :=
  run_eqGuard_agg w .eql 23 x y _ _ (by kernel_rfl)
end Go.Proofs.YtlhjociijkhimaaGreatDoor
