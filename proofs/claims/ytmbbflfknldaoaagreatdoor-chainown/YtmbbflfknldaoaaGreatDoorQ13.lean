import Derived.Test.YtmbbflfknldaoaaGreatDoorQ12
import Derived.Test.YtmbbflfknldaoaaGreatDoorQ4
import Derived.Deep.WholeRow
namespace Go.Proofs.YtmbbflfknldaoaaGreatDoor
open Go.RowKit
def agB (zs : List Int) : Value := .agg (zs.map (Value.int .u8)).toArray
theorem info_arrB : ((Tryz.prog.info? 67).bind (fun i => i.zero)).map (fun z => z.cells) = some ((List.replicate 4092 (Value.int .u8 0)).toArray) := by kernel_rfl
theorem size_arrB : (Tryz.prog.info? 67).map (fun i => i.size) = some 4092 := by kernel_rfl
theorem arrB_parts : ∃ i z, Tryz.prog.info? 67 = some i ∧ i.zero = some z ∧ z.cells = ((List.replicate 4092 (0 : Int)).map (Value.int .u8)).toArray := by
 obtain ⟨z, h1, h2⟩ := Option.map_eq_some_iff.1 info_arrB
 obtain ⟨i, h3, h4⟩ := Option.bind_eq_some_iff.1 h1
 exact ⟨i, z, h3, h4, by rw [List.map_replicate]; exact h2⟩
theorem wpList_alloc_arr6 {w : World} {ops : Array Oper} {rest : List Oper} {o : Oper} {a : Act} {Q : Exit → Act → World → Prop} (hgd : o.guard = none) (ho : o.op = .alloc 67) (Z : List Int) (hZ : Z = List.replicate 4092 0)
  (h : ∀ w', Rt w' w.heap.size 67 Z → w.grownBy w' none → w'.heap.size = w.heap.size + 1 → wpList Tryz.prog ops Q rest (a.put o.dst (.pointer (some ⟨w.heap.size, 0, none⟩))) w') : wpList Tryz.prog ops Q (o :: rest) a w := by
 obtain ⟨i, z, h1, h2, h3⟩ := arrB_parts
 refine wpList_plain hgd fun K hK => ?_
 unfold Oper.wp
 have hr : (execOp a.eval o).run Tryz.prog w = .ok (.value (.pointer (some ⟨w.heap.size, 0, none⟩))) (w.alloc (.cells z.cells 67)) := by
  simp [execOp, ho, Instr.alloc, zeroValue, typeInfo, newVar, newRow, h1, h2]
 rw [hr, Oper.upon_value]
 refine hK _ _ (h _ ?_ (World.grownBy_alloc w _ none) (by simp))
 rw [h3, hZ]
 exact heap_alloc_new w _
theorem wpList_load_arr {w : World} {ops : Array Oper} {rest : List Oper} {o : Oper} {a : Act} {Q : Exit → Act → World → Prop} (hgd : o.guard = none) (p : Operand) (ho : o.op = .load 67 p) (g : Nat) (zs : List Int) (hp : a.eval p = .pointer (some ⟨g, 0, none⟩)) (hr : Rt w g 67 zs) (hl : zs.length = 4092)
  (h : wpList Tryz.prog ops Q rest (a.put o.dst (agB zs)) w) : wpList Tryz.prog ops Q (o :: rest) a w := by
 refine wpList_plain hgd fun K hK => ?_
 unfold Oper.wp
 have hv := run_loadVar_row (P := Tryz.prog) w g 67 67 _ (0, 0) _ hr Tryz.underlying67 rfl (by rw [size_arrB]; simp [hl])
 have hr : (execOp a.eval o).run Tryz.prog w = .ok (.value (agB zs)) w := by
  simp [execOp, ho, hp, Instr.loadAt, Instr.sureAddr, hv, agB, Result.andThen]
 rw [hr, Oper.upon_value]
 exact hK _ _ h
theorem wpList_store_arr {w : World} {ops : Array Oper} {rest : List Oper} {o : Oper} {a : Act} {Q : Exit → Act → World → Prop} (hgd : o.guard = none) (p x : Operand) (ho : o.op = .store 67 p x) (g : Nat) (cs zs : List Int) (hp : a.eval p = .pointer (some ⟨g, 0, none⟩)) (hx : a.eval x = agB zs) (hr : Rt w g 67 cs) (hl : cs.length = 4092) (hz : zs.length = 4092)
  (h : ∀ w', Rt w' g 67 zs → w.grownBy w' (some g) → w'.heap.size = w.heap.size → wpList Tryz.prog ops Q rest (a.put o.dst undef) w') : wpList Tryz.prog ops Q (o :: rest) a w := by
 refine wpList_plain hgd fun K hK => ?_
 unfold Oper.wp
 have hv := run_storeVar_row (P := Tryz.prog) w g 67 67 _ (zs.map (Value.int .u8)).toArray hr (by rw [size_arrB]; simp [hz]) (by simp [hl, hz]) (by simp [Value.oneCell'])
 have hr2 : (execOp a.eval o).run Tryz.prog w = .ok .skip (w.setRow g (zs.map (Value.int .u8)).toArray) := by
  simp [execOp, ho, hp, hx, Instr.storeAt, Instr.sureAddr, hv, agB, Result.andThen]
 rw [hr2, Oper.upon_skip]
 have hro : Rp w (w.setRow g (zs.map (Value.int .u8)).toArray) g 67 (zs.map (Value.int .u8)) := ⟨setRow_heap w g _ _ _ _ hr, fun k hk => setRow_other w g k _ hk, by simp [World.setRow], rfl, rfl, rfl⟩
 exact hK _ _ (h _ hro.row hro.grown hro.size)
def pgI (x : Int) : Int := if x ≤ 512 ∨ 262144 < x then 0 else (x + 4085 - 1) / 4085
theorem pgI_nat (n : Nat) : pgI (n : Int) = ((pg n : Nat) : Int) := by
 unfold pgI pg
 by_cases h : n ≤ 512 ∨ 262144 < n
 ·rw [if_pos (by omega), if_pos h]; rfl
 ·rw [if_neg (by omega), if_neg h]; omega
set_option maxHeartbeats 400000 in
theorem pages_any (x : Int) (w : World) : Calls Tryz.prog 22 #[.int .i64 x] w fun en w' => en = .returned (.int .i64 (pgI x)) ∧ w' = w := by
 by_cases h1 : x ≤ 512
 ·have e : Hid (pgI x = 0) := by show _ = _; unfold pgI; rw [if_pos (.inl h1)]
  go_enter Tryz.func22, Tryz.ntmps22
  go_wp2
  go_ret
  exact ⟨by rw [e.out]; rfl, rfl⟩
 ·by_cases h2 : 262144 < x
  ·have e : Hid (pgI x = 0) := by show _ = _; unfold pgI; rw [if_pos (.inr h2)]
   go_enter Tryz.func22, Tryz.ntmps22
   go_wp2
   go_ret
   exact ⟨by rw [e.out]; rfl, rfl⟩
  ·have e : Hid (pgI x = (x + 4085 - 1) / 4085) := by show _ = _; unfold pgI; rw [if_neg (by omega)]
   go_enter Tryz.func22, Tryz.ntmps22
   go_wp2
   go_ret
   exact ⟨by rw [e.out]; rfl, rfl⟩
set_option maxHeartbeats 400000 in
theorem refPages_any (x : Int) (w : World) : Calls Tryz.prog 26 #[.int .i64 x] w fun en w' => en = .returned (.int .i64 (pgI x)) ∧ w' = w := by
 by_cases h1 : x ≤ 512
 ·have e : Hid (pgI x = 0) := by show _ = _; unfold pgI; rw [if_pos (.inl h1)]
  go_enter Tryz.func26, Tryz.ntmps26
  go_wp2
  go_ret
  exact ⟨by rw [e.out]; rfl, rfl⟩
 ·by_cases h2 : 262144 < x
  ·have e : Hid (pgI x = 0) := by show _ = _; unfold pgI; rw [if_pos (.inr h2)]
   go_enter Tryz.func26, Tryz.ntmps26
   go_wp2
   go_ret
   exact ⟨by rw [e.out]; rfl, rfl⟩
  ·have e : Hid (pgI x = (x - 1) / 4085 + 1) := by show _ = _; unfold pgI; rw [if_neg (by omega)]; omega
   go_enter Tryz.func26, Tryz.ntmps26
   go_wp2
   go_ret
   exact ⟨by rw [e.out]; rfl, rfl⟩
set_option maxHeartbeats 400000 in
theorem wrongNo_any (x : Int) (w : World) : Calls Tryz.prog 34 #[.int .i64 x] w fun en w' => en = .returned (.bool (!inR x)) ∧ w' = w := by
 by_cases h1 : x < 2
 ·have e : Hid (inR x = false) := by show _ = _; simp [inR]; omega
  go_enter Tryz.func34, Tryz.ntmps34
  go_wp2
  go_ret
  exact ⟨by rw [e.out]; rfl, rfl⟩
 ·by_cases h2 : 524287 ≤ x
  ·have e : Hid (inR x = false) := by show _ = _; simp [inR]; omega
   go_enter Tryz.func34, Tryz.ntmps34
   go_wp2
   go_ret
   exact ⟨by rw [e.out]; rfl, rfl⟩
  ·have e : Hid (inR x = true) := by show _ = _; simp [inR]; omega
   go_enter Tryz.func34, Tryz.ntmps34
   go_wp2
   go_ret
   exact ⟨by rw [e.out]; rfl, rfl⟩
set_option maxHeartbeats 400000 in
theorem wrongNext_any (x : Int) (w : World) : Calls Tryz.prog 28 #[.int .i64 x] w fun en w' => en = .returned (.bool (!nOk x)) ∧ w' = w := by
 by_cases h1 : x = 0
 ·have e : Hid (nOk x = true) := by show _ = _; simp [nOk, h1]
  have h2 : (x == 0) = true := by simp [h1]
  have h3 : ¬ x ≠ 0 := by simp [h1]
  go_enter Tryz.func28, Tryz.ntmps28
  go_wp2
  go_ret
  exact ⟨by rw [e.out]; rfl, rfl⟩
 ·have e : Hid (nOk x = inR x) := by show _ = _; simp [nOk, h1]
  have h2 : (x != 0) = true := by simp [h1]
  have h3 : (x == 0) = false := by simp [h1]
  go_enter Tryz.func28, Tryz.ntmps28
  go_wp2_with fail
  refine (wrongNo_any x _).mono ?_
  rintro en w1 ⟨rfl, rfl⟩
  go_wp2
  go_ret
  exact ⟨by rw [e.out]; rfl, rfl⟩
set_option maxHeartbeats 400000 in
theorem refKid6_any (x : Int) (w : World) : Calls Tryz.prog 31 #[.int .i64 x] w fun en w' => en = .returned (.bool (nOk x)) ∧ w' = w := by
 by_cases h1 : x = 0
 ·have e : Hid (nOk x = true) := by show _ = _; simp [nOk, h1]
  have h2 : (x == 0) = true := by simp [h1]
  go_enter Tryz.func31, Tryz.ntmps31
  go_wp2
  go_ret
  exact ⟨by rw [e.out]; rfl, rfl⟩
 ·have h4 : (x == 0) = false := by simp [h1]
  by_cases h2 : 2 ≤ x
  ·by_cases h3 : x ≤ 524286
   ·have e : Hid (nOk x = true) := by show _ = _; simp [nOk, inR, h2, h3]
    go_enter Tryz.func31, Tryz.ntmps31
    go_wp2
    go_ret
    exact ⟨by rw [e.out]; rfl, rfl⟩
   ·have e : Hid (nOk x = false) := by show _ = _; simp [nOk, inR, h1, h2, h3]
    go_enter Tryz.func31, Tryz.ntmps31
    go_wp2
    go_ret
    exact ⟨by rw [e.out]; rfl, rfl⟩
  ·have e : Hid (nOk x = false) := by show _ = _; simp [nOk, inR, h1, h2]
   go_enter Tryz.func31, Tryz.ntmps31
   go_wp2
   go_ret
   exact ⟨by rw [e.out]; rfl, rfl⟩
set_option maxHeartbeats 400000 in
theorem wrongCount_any (x : Int) (n full : Nat) (w : World) : Calls Tryz.prog 29 #[.int .i64 x, .int .i64 n, .int .i64 full] w fun en w' => en = .returned (.bool (cnt x n full)) ∧ w' = w := by
 by_cases h1 : full < n
 ·have e : Hid (cnt x n full = true) := by show _ = _; simp [cnt, h1]
  have h2 : (full : Int) < (n : Int) := by omega
  go_enter Tryz.func29, Tryz.ntmps29
  go_wp2
  go_ret
  exact ⟨by rw [e.out]; rfl, rfl⟩
 ·have h2 : ¬ (full : Int) < (n : Int) := by omega
  by_cases h3 : x = 0
  ·subst h3
   have e : Hid (cnt 0 n full = false) := by show _ = _; simp [cnt, h1]
   go_enter Tryz.func29, Tryz.ntmps29
   go_wp2
   go_ret
   exact ⟨by rw [e.out]; rfl, rfl⟩
  ·have h6 : (x != 0) = true := by simp [h3]
   have h7 : (x == 0) = false := by simp [h3]
   by_cases h4 : n < full
   ·have e : Hid (cnt x n full = true) := by show _ = _; simp [cnt, h3, h4]
    have h5 : (n : Int) < (full : Int) := by omega
    go_enter Tryz.func29, Tryz.ntmps29
    go_wp2
    go_ret
    exact ⟨by rw [e.out]; rfl, rfl⟩
   ·have e : Hid (cnt x n full = false) := by show _ = _; simp [cnt, h1, h4]
    have h5 : ¬ (n : Int) < (full : Int) := by omega
    go_enter Tryz.func29, Tryz.ntmps29
    go_wp2
    go_ret
    exact ⟨by rw [e.out]; rfl, rfl⟩
set_option maxHeartbeats 400000 in
theorem cut_any (b off m cap p k : Nat) (w : World) (h : p + k ≤ cap) (hc : cap ≤ 9223372036854775807) :
  Calls Tryz.prog 25 #[.slice (some ⟨b, off, none⟩) m cap, .int .i64 p, .int .i64 k] w fun en w' => (∃ q, en = .returned (.slice (some ⟨b, q, none⟩) k k) ∧ (0 < k → q = off + p)) ∧ w' = w := by
 by_cases hk : k = 0
 ·subst hk
  go_enter Tryz.func25, Tryz.ntmps25
  go_wp2
  all_goals
   go_ret
   exact ⟨⟨_, rfl, fun h => by omega⟩, rfl⟩
 ·have hk2 : ¬ p + k = p := by omega
  go_enter Tryz.func25, Tryz.ntmps25
  go_wp2
  go_ret
  exact ⟨⟨off + p, by simp, fun _ => rfl⟩, rfl⟩
theorem cut_at (b off m cap p k : Nat) (P : Int) (w : World) (hP : P = (p : Int)) (h : p + k ≤ cap) (hc : cap ≤ 9223372036854775807) :
  Calls Tryz.prog 25 #[.slice (some ⟨b, off, none⟩) m cap, .int .i64 P, .int .i64 k] w fun en w' => (∃ q, en = .returned (.slice (some ⟨b, q, none⟩) k k) ∧ (0 < k → q = off + p)) ∧ w' = w := by
 subst hP
 exact cut_any b off m cap p k w h hc
theorem splice_whole6 {cs zs : List Int} (h : zs.length = cs.length) : splice cs 0 zs = zs := by
 unfold splice
 rw [List.take_zero, List.nil_append, Nat.zero_add, h, List.drop_length, List.append_nil]
set_option maxHeartbeats 1000000 in
theorem copyOf_any (ao : Option Addr) (n cap : Nat) (zs : List Int) (w : World) (hb : Byt w ao n cap zs) (hn : n ≤ 140737488351232) :
  Calls Tryz.prog 24 #[.slice ao n cap] w fun en w' => en = .returned (.slice (some ⟨w.heap.size, 0, none⟩) n n) ∧ Rw w' w.heap.size zs ∧ w.grownBy w' none := by
 obtain ⟨i0, hi, hz0, hz1, hz2⟩ := info_parts info_u8
 have hl := hb.len
 have HB := hid_intro hb
 clear hb
 go_enter Tryz.func24, Tryz.ntmps24
 go_wp2_with (at_make; refine wpList_make_full _ rfl _ _ 22 rfl w.heap.size 5 i0 (.int .u8 0) 1 Tryz.underlying22 hi hz0 hz1 _ _ _ _ n rfl rfl rfl rfl ?b2 ?b3 (Nat.le_refl _) ?_)
 case b2 => rw [hz2]; omega
 case b3 => unfold maxLen; omega
 intro w1 hown hg1
 rw [made] at hown
 have R1 := hid_intro (show Rt w1 w.heap.size 5 (List.replicate n 0) from Rw.of_owns hown)
 have B1 := hid_intro (HB.out.keptN hg1)
 have G1 := hid_intro hg1
 clear hown hg1
 go_wp2_with (refine wpList_copy_rt rfl _ _ rfl _ _ _ _ _ _ rfl rfl w.heap.size 0 5 (List.replicate n 0) zs R1.out B1.out (Nat.le_refl _) (fun _ => rfl) (by rw [List.length_replicate]; omega) ?_)
 intro w2 hr2 hg2 hs2
 rw [splice_whole6 (by rw [List.length_replicate]; exact hl)] at hr2
 have R2 := hid_intro hr2
 have G2 := hid_intro (grown_new G1.out hg2 (Nat.le_refl _))
 clear hr2 hg2
 go_wp2
 go_ret
 exact ⟨rfl, R2.out, G2.out⟩
def hz (k x n : Nat) : List Int := hd k x n ++ List.replicate 4085 0
theorem hz_len (k x n : Nat) : (hz k x n).length = 4092 := by unfold hz; rw [List.length_append, hd_len, List.length_replicate]
theorem results_arr {fn : Func} {p : Tmp} (h : fn.results = #[.cell p 67]) (tmps : Array Value) (w : World) (g : Nat) (zs : List Int) (hp : tmps.getD p undef = .pointer (some ⟨g, 0, none⟩)) (hr : Rt w g 67 zs) (hl : zs.length = 4092) :
  (results fn tmps).run Tryz.prog w = .ok (agB zs) w :=
 results_cell_row h tmps w g 67 _ (0, 0) _ hp hr Tryz.underlying67 rfl (by rw [size_arrB]; simp [hl])
theorem put_h2 (ao : Option Addr) (c : Nat) (zs : List Int) (x : Nat) (w : World) (hb : Byt w ao 1 c zs) (hx : x < 4294967296) :
  Calls Tryz.prog 36 #[.slice ao 1 c, .int .u32 x] w fun e w' => e = .returned (.slice (some ⟨w.heap.size, 0, none⟩) 5 5) ∧ Byt w' (some ⟨w.heap.size, 0, none⟩) 5 5 (zs ++ lb 4 x) ∧ w.grownBy w' none := by
 refine (put_u32 ao 1 c zs x w hb (by omega) hx).mono ?_
 rintro e w' ⟨rfl, h1, h2, h3⟩
 exact ⟨rfl, Byt.of_owns h1, h2⟩
theorem put_h3 (ao : Option Addr) (c : Nat) (zs : List Int) (x : Nat) (w : World) (hb : Byt w ao 5 c zs) (hx : x < 65536) :
  Calls Tryz.prog 49 #[.slice ao 5 c, .int .u16 x] w fun e w' => e = .returned (.slice (some ⟨w.heap.size, 0, none⟩) 7 7) ∧ Byt w' (some ⟨w.heap.size, 0, none⟩) 7 7 (zs ++ lb 2 x) ∧ w.grownBy w' none := by
 refine (put_u16 ao 5 c zs x w hb (by omega) hx).mono ?_
 rintro e w' ⟨rfl, h1, h2, h3⟩
 exact ⟨rfl, Byt.of_owns h1, h2⟩
theorem hz_splice {Z : List Int} (hZ : Z = List.replicate 4092 0) (k x n : Nat) (hk : k < 256) : splice Z 0 (lb 1 k ++ lb 4 x ++ lb 2 n) = hz k x n := by
 have e1 : lb 1 k ++ lb 4 x ++ lb 2 n = hd k x n := by
  unfold hd
  rw [List.append_assoc]
  show ((k % 256 : Nat) : Int) :: _ = _
  rw [Nat.mod_eq_of_lt hk]
  rfl
 rw [e1, hZ]
 unfold splice hz
 rw [List.take_zero, List.nil_append, Nat.zero_add, hd_len, List.drop_replicate]
set_option maxHeartbeats 1000000 in
set_option maxRecDepth 100000 in
theorem begun_any (k x n : Nat) (w : World) (hk : k < 256) (hx : x < 4294967296) (hn : n < 65536) :
  Calls Tryz.prog 30 #[.int .u8 k, .int .i64 x, .int .i64 n] w fun en w' => en = .returned (agB (hz k x n)) ∧ w.grownBy w' none := by
 have hwx : IntKind.u32.wrap (x : Int) = (x : Int) := by simp [IntKind.wrap, IntKind.bits, IntKind.signed]; omega
 have hwn : IntKind.u16.wrap (n : Int) = (n : Int) := by simp [IntKind.wrap, IntKind.bits, IntKind.signed]; omega
 obtain ⟨Z, hZ⟩ : ∃ Z : List Int, Z = List.replicate 4092 0 := ⟨_, rfl⟩
 have hZl : Z.length = 4092 := by rw [hZ, List.length_replicate]
 have HZ := hid_intro hZ
 have HZ2 := hid_intro (hz_splice hZ k x n hk)
 have HZ3 := hid_intro (hz_len k x n)
 clear hZ
 go_enter Tryz.func30, Tryz.ntmps30
 go_wp2_with (refine wpList_alloc_arr6 rfl rfl Z HZ.out ?_)
 intro w1 hr1 hg1 hs1
 have R1 := hid_intro hr1
 have G1 := hid_intro hg1
 have hs1' := hr1.lt
 clear hr1 hg1 hs1
 go_wp2_with fail
 refine (put_u8_nil k _ hk).mono ?_
 rintro en w2 ⟨rfl, hb2, hg2, _⟩
 have R2 := hid_intro (R1.out.keptN hg2)
 have G2 := hid_intro (grown_trans G1.out hg2)
 clear hg2 R1 G1
 go_wp2_with fail
 refine (put_h2 _ _ _ x _ hb2 hx).mono ?_
 rintro en w3 ⟨rfl, hb3, hg3⟩
 have R3 := hid_intro (R2.out.keptN hg3)
 have G3 := hid_intro (grown_trans G2.out hg3)
 clear hg3 R2 G2 hb2
 go_wp2_with fail
 refine (put_h3 _ _ _ n _ hb3 hn).mono ?_
 rintro en w4 ⟨rfl, hb4, hg4⟩
 have R4 := hid_intro (R3.out.keptN hg4)
 have G4 := hid_intro (grown_trans G3.out hg4)
 clear hg4 R3 G3 hb3
 have B4 := hid_intro hb4
 clear hb4
 go_wp2_with (refine wpList_alloc_arr6 rfl rfl Z HZ.out ?_)
 intro w5 hr5 hg5 hs5
 have R5 := hid_intro hr5
 have R5' := hid_intro (R4.out.keptN hg5)
 have G5 := hid_intro (grown_trans G4.out hg5)
 have B5 := hid_intro (B4.out.keptN hg5)
 have HS4 := hid_intro G4.out.size
 have HLT := hid_intro R4.out.lt
 clear hr5 hg5 hs5 R4 G4 B4
 go_wp2_with fail
 refine (cut_any w4.heap.size 0 4092 4092 0 7 _ (by omega) (by omega)).mono ?_
 rintro en w6 ⟨⟨q, rfl, hq⟩, rfl⟩
 have hq := hq (by omega)
 subst hq
 go_wp2_with (refine wpList_copy_rt rfl _ _ rfl _ _ _ _ _ _ rfl rfl w4.heap.size 0 67 Z (lb 1 k ++ lb 4 x ++ lb 2 n) R5.out B5.out (Nat.le_refl _) (fun _ => rfl) (by omega) ?_)
 intro w7 hr7 hg7 hs7
 have hr7' : Rt w7 w4.heap.size 67 (hz k x n) := by rw [← HZ2.out]; exact hr7
 have R7 := hid_intro hr7'
 have R7' := hid_intro (R5'.out.kept hg7 (fun e => by have := Option.some.inj e; have := HLT.out; omega))
 have G7 := hid_intro (grown_new G5.out hg7 HS4.out)
 clear hr7 hr7' hg7 hs7 R5 R5' G5 B5
 go_wp2_with (refine wpList_load_arr rfl _ rfl w4.heap.size (hz k x n) rfl R7.out HZ3.out (wpList_store_arr rfl _ _ rfl w.heap.size Z (hz k x n) rfl rfl R7'.out hZl HZ3.out ?_))
 intro w8 hr8 hg8 hs8
 have G8 := hid_intro (grown_new G7.out hg8 (Nat.le_refl _))
 go_wp2
 refine bodyPost_ret (results_arr rfl _ _ w.heap.size (hz k x n) rfl hr8 HZ3.out) rfl ?_
 exact ⟨rfl, G8.out⟩
def oD (x : Int) (zs : List Int) : List Int := if eD x zs.length = 0 then dB x.toNat zs else []
theorem oD_no {x : Int} {zs : List Int} (h : eD x zs.length ≠ 0) : oD x zs = [] := by unfold oD; rw [if_neg h]
theorem oD_yes {x : Int} {zs : List Int} (h : eD x zs.length = 0) : oD x zs = dB x.toNat zs := by unfold oD; rw [if_pos h]
theorem oD_bt {x : Int} {zs : List Int} (h : Bt zs) : Bt (oD x zs) := by
 unfold oD; split
 ·exact dB_bt h
 ·exact Bt.nil
theorem dB_splice {x : Nat} {zs : List Int} (h : zs.length ≤ 4085) : splice (hz 3 x zs.length) 7 zs = dB x zs := by
 unfold hz dB
 have e : List.replicate 4085 (0 : Int) = List.replicate zs.length 0 ++ List.replicate (4085 - zs.length) 0 := by rw [List.replicate_append_replicate]; congr 1; omega
 rw [e, splice_mid (hd_len _ _ _) (by rw [List.length_replicate])]
set_option maxHeartbeats 1000000 in
set_option maxRecDepth 100000 in
theorem encodeData_any (x : Int) (ao : Option Addr) (n cap : Nat) (zs : List Int) (w : World) (hb : Byt w ao n cap zs) (hn : n ≤ 9223372036854775807) :
  Calls Tryz.prog 11 #[.int .i64 x, .slice ao n cap] w fun en w' => ∃ bo m, en = .returned (.tuple #[.slice bo m m, .int .i64 (eD x n)]) ∧ Byt w' bo m m (oD x zs) ∧ (0 < m → ∃ g, bo = some ⟨g, 0, none⟩ ∧ w.heap.size ≤ g ∧ Rw w' g (oD x zs)) ∧ w.grownBy w' none := by
 have hl := hb.len
 have HB := hid_intro hb
 clear hb
 cases hk : nOk x with
 | false =>
  have e : Hid (eD x n = 51) := by show _ = _; unfold eD; rw [if_pos hk]
  have e2 : Hid (oD x zs = []) := oD_no (by rw [hl, e.out]; decide)
  clear hl
  go_enter Tryz.func11, Tryz.ntmps11
  go_wp2_with fail
  refine (wrongNext_any x _).mono ?_
  rintro en w1 ⟨rfl, rfl⟩
  rw [hk]
  go_wp2
  go_ret2
  rw [e.out, e2.out]
  exact ⟨none, 0, rfl, Byt.empty _, fun h => by omega, World.grownBy.refl _ _⟩
 | true =>
  by_cases h0 : n = 0
  ·subst h0
   have e : Hid (eD x 0 = 62) := by show _ = _; unfold eD; rw [if_neg (by rw [hk]; decide), if_pos (by rfl)]
   have e2 : Hid (oD x zs = []) := oD_no (by rw [hl, e.out]; decide)
   clear hl
   go_enter Tryz.func11, Tryz.ntmps11
   go_wp2_with fail
   refine (wrongNext_any x _).mono ?_
   rintro en w1 ⟨rfl, rfl⟩
   rw [hk]
   go_wp2
   go_ret2
   rw [e.out, e2.out]
   exact ⟨none, 0, rfl, Byt.empty _, fun h => by omega, World.grownBy.refl _ _⟩
  ·have h0' : ((n : Int) == 0) = false := by simp [h0]
   cases hc : cnt x n 4085 with
   | true =>
    have e : Hid (eD x n = 62) := by show _ = _; unfold eD; rw [if_neg (by rw [hk]; decide), if_pos (by rw [hc]; simp)]
    have e2 : Hid (oD x zs = []) := oD_no (by rw [hl, e.out]; decide)
    clear hl
    go_enter Tryz.func11, Tryz.ntmps11
    go_wp2_with fail
    refine (wrongNext_any x _).mono ?_
    rintro en w1 ⟨rfl, rfl⟩
    rw [hk]
    go_wp2_with fail
    refine (wrongCount_any x n 4085 _).mono ?_
    rintro en w1 ⟨rfl, rfl⟩
    rw [hc]
    go_wp2
    go_ret2
    rw [e.out, e2.out]
    exact ⟨none, 0, rfl, Byt.empty _, fun h => by omega, World.grownBy.refl _ _⟩
   | false =>
    have e : Hid (eD x n = 0) := by show _ = _; unfold eD; rw [if_neg (by rw [hk]; decide), if_neg (by rw [hc]; simp [h0])]
    have e2 : Hid (oD x zs = dB x.toNat zs) := oD_yes (by rw [hl, e.out])
    have hm := (eD_zero e.out).2.2.1
    obtain ⟨y, hy, hy2⟩ := nOk_nat hk
    subst hy
    have e2 : Hid (oD y zs = dB y zs) := e2
    have e3 : Hid ((hz 3 y n).length = 4092) := hz_len _ _ _
    have e4 : Hid (splice (hz 3 y n) 7 zs = dB y zs) := by show _ = _; rw [← hl]; exact dB_splice (by omega)
    have e5 : Hid ((dB y zs).length = 4092) := dB_len (by omega)
    obtain ⟨Z, hZ⟩ : ∃ Z : List Int, Z = List.replicate 4092 0 := ⟨_, rfl⟩
    have hZl : Z.length = 4092 := by rw [hZ, List.length_replicate]
    have HZ := hid_intro hZ
    clear hZ hl
    go_enter Tryz.func11, Tryz.ntmps11
    go_wp2_with fail
    refine (wrongNext_any y _).mono ?_
    rintro en w1 ⟨rfl, rfl⟩
    rw [hk]
    go_wp2_with fail
    refine (wrongCount_any y n 4085 _).mono ?_
    rintro en w1 ⟨rfl, rfl⟩
    rw [hc]
    go_wp2_with fail
    refine (begun_any 3 y n _ (by omega) (by omega) (by omega)).mono ?_
    rintro en w2 ⟨rfl, hg2⟩
    have B2 := hid_intro (HB.out.keptN hg2)
    have HLT : Hid (∀ ad, ao = some ad → 0 < n → ad.block < w2.heap.size) := fun ad h1 h2 => (HB.out.keptN hg2).lt h1 h2
    have G2 := hid_intro hg2
    clear hg2 HB
    go_wp2_with (refine wpList_alloc_arr6 rfl rfl Z HZ.out ?_)
    intro w3 hr3 hg3 hs3
    have R3 := hid_intro hr3
    have B3 := hid_intro (B2.out.keptN hg3)
    have G3 := hid_intro (grown_trans G2.out hg3)
    have S2 := hid_intro G2.out.size
    clear hr3 hg3 hs3 B2 G2
    go_wp2_with (refine wpList_store_arr rfl _ _ rfl w2.heap.size Z (hz 3 y n) rfl rfl R3.out hZl e3.out ?_)
    intro w4 hr4 hg4 hs4
    have R4 := hid_intro hr4
    have B4 := hid_intro (B3.out.kept hg4 (fun ad h1 h2 e => by have := Option.some.inj e; have := HLT.out ad h1 h2; omega))
    have G4 := hid_intro (grown_new G3.out hg4 S2.out)
    clear hr4 hg4 hs4 R3 B3 G3
    go_wp2_with fail
    refine (cut_any w2.heap.size 0 4092 4092 7 n _ (by omega) (by omega)).mono ?_
    rintro en w5 ⟨⟨q, rfl, hq⟩, rfl⟩
    have hq := hq (by omega)
    subst hq
    go_wp2_with (refine wpList_copy_rt rfl _ _ rfl _ _ _ _ _ _ rfl rfl w2.heap.size 7 67 (hz 3 y n) zs R4.out B4.out (Nat.le_refl _) (fun _ => rfl) (by rw [e3.out]; omega) ?_)
    intro w6 hr6 hg6 hs6
    have hr6' : Rt w6 w2.heap.size 67 (dB y zs) := by rw [← e4.out]; exact hr6
    have B6 := hid_intro (hr6'.all 4092 4092 e5.out.symm)
    have G6 := hid_intro (grown_new G4.out hg6 S2.out)
    clear hr6 hr6' hg6 hs6 R4 B4 G4
    go_wp2_with fail
    refine (copyOf_any _ 4092 4092 (dB y zs) _ B6.out (by omega)).mono ?_
    rintro en w7 ⟨rfl, hr7, hg7⟩
    have R7 := hid_intro hr7
    have G7 := hid_intro (grown_trans G6.out hg7)
    clear hr7 hg7
    go_wp2
    go_ret2
    rw [e.out, e2.out]
    exact ⟨some ⟨w6.heap.size, 0, none⟩, 4092, rfl, R7.out.all 4092 4092 e5.out.symm, fun _ => ⟨_, rfl, G6.out.size, R7.out⟩, G7.out⟩
set_option maxHeartbeats 1000000 in
set_option maxRecDepth 100000 in
theorem readHead_any (R G : Nat) (zs : List Int) (w : World) (h : Rd w R G zs 0 0) (hbt : Bt zs) (hl : zs.length = 4092) :
  Calls Tryz.prog 39 #[.pointer (some ⟨R, 0, none⟩)] w fun en w' => en = .returned (.tuple #[.int .i64 (rN zs : Nat), .int .i64 (rC zs : Nat)]) ∧ Rd w' R G zs 7 0 ∧ w.grownBy w' (some R) := by
 obtain ⟨x, hx⟩ : ∃ x, x = rN zs := ⟨_, rfl⟩
 obtain ⟨n, hn⟩ : ∃ n, n = rC zs := ⟨_, rfl⟩
 have hx2 : x < 4294967296 := by rw [hx]; exact rN_lt hbt
 have hn2 : n < 65536 := by rw [hn]; exact rC_lt hbt
 have hwx : IntKind.i64.wrap (x : Int) = (x : Int) := by simp [IntKind.wrap, IntKind.bits, IntKind.signed]; omega
 have hwn : IntKind.i64.wrap (n : Int) = (n : Int) := by simp [IntKind.wrap, IntKind.bits, IntKind.signed]; omega
 rw [← hx, ← hn]
 have HX := hid_intro hx
 have HN := hid_intro hn
 clear hx hn
 go_enter Tryz.func39, Tryz.ntmps39
 go_wp2_with fail
 refine (bytes_ok R G zs 0 1 _ h (by omega)).mono ?_
 rintro en w1 ⟨ao, rfl, _, _, hr1, hg1⟩
 have G1 := hid_intro hg1
 clear hg1 h
 go_wp2_with fail
 refine (get_u32_ok R G zs 1 _ hr1 hbt (by omega)).mono ?_
 rintro en w2 ⟨rfl, hr2, hg2⟩
 have hx : (le 4 (zs.drop 1) : Nat) = x := HX.out.symm
 rw [hx]
 have G2 := hid_intro (grown_trans G1.out hg2)
 clear hg2 hr1 G1 hx
 go_wp2_with fail
 refine (get_u16_ok R G zs 5 _ hr2 hbt (by omega)).mono ?_
 rintro en w3 ⟨rfl, hr3, hg3⟩
 have hn : (le 2 (zs.drop 5) : Nat) = n := HN.out.symm
 rw [hn]
 have G3 := hid_intro (grown_trans G2.out hg3)
 have R3 := hid_intro hr3
 clear hg3 hr2 G2 hn hr3
 go_wp2
 go_ret2
 exact ⟨rfl, R3.out, G3.out⟩
def vN (bs : List Int) : Int := if dD bs = true then (rN bs : Int) else 0
def vD (bs : List Int) : List Int := if dD bs = true then rD bs else []
def vE (bs : List Int) : Int := if dD bs = true then 0 else 60
theorem v_no {bs : List Int} (h : dD bs = false) : vN bs = 0 ∧ vD bs = [] ∧ vE bs = 60 := by unfold vN vD vE; rw [h]; exact ⟨rfl, rfl, rfl⟩
theorem v_yes {bs : List Int} (h : dD bs = true) : vN bs = (rN bs : Int) ∧ vD bs = rD bs ∧ vE bs = 0 := by unfold vN vD vE; rw [h]; exact ⟨rfl, rfl, rfl⟩
theorem sB_rD {zs : List Int} (hl : zs.length = 4092) : (sB zs (7, 0) ((rC zs : Nat) : Int)).1 = rD zs := by
 unfold sB rD
 rw [if_pos rfl]
 by_cases h : rC zs ≤ 4085
 ·rw [if_neg (by simp only; omega), if_pos h]; simp
 ·rw [if_pos (by simp only; omega), if_neg h]
theorem rD_bt {zs : List Int} (h : Bt zs) : Bt (rD zs) := by
 unfold rD; split
 ·exact (h.drop _).take _
 ·exact Bt.nil
theorem dD_iff {zs : List Int} (hl : zs.length = 4092) : dD zs = true ↔ eD (rN zs) (rD zs).length = 0 ∧ oD (rN zs) (rD zs) = zs := by
 constructor
 ·intro h
  obtain ⟨_, h2, h3⟩ := dD_parts h
  exact ⟨h2, by rw [oD_yes h2]; exact h3⟩
 ·rintro ⟨h1, h2⟩
  rw [oD_yes h1] at h2
  have h3 : dB (rN zs) (rD zs) = zs := h2
  simp [dD, hl, h1, h3]
set_option maxHeartbeats 2000000 in
set_option maxRecDepth 100000 in
theorem decodeData_any (ao : Option Addr) (n cap : Nat) (zs : List Int) (w : World) (hb : Byt w ao n cap zs) (hbt : Bt zs) :
  Calls Tryz.prog 18 #[.slice ao n cap] w fun en w' => ∃ bo m, en = .returned (.tuple #[.int .i64 (vN zs), .slice bo m m, .int .i64 (vE zs)]) ∧ Byt w' bo m m (vD zs) ∧ (0 < m → bo = some ⟨w.heap.size, 7, none⟩) ∧ w.grownBy w' none := by
 have hl := hb.len
 have HB := hid_intro hb
 clear hb
 by_cases h0 : n = 4092
 ·subst h0
  have hrd := sB_rD hl
  have HRB := hid_intro (rD_bt hbt)
  have HIF := hid_intro (dD_iff hl)
  obtain ⟨x, hx⟩ : ∃ x, x = rN zs := ⟨_, rfl⟩
  obtain ⟨c, hc⟩ : ∃ c, c = rC zs := ⟨_, rfl⟩
  have HX := hid_intro hx
  have HC := hid_intro hc
  rw [← hc] at hrd
  have HRD := hid_intro hrd
  clear hx hc hrd
  go_enter Tryz.func18, Tryz.ntmps18
  go_wp2_with fail
  refine (newReader_any ao 4092 cap zs _ HB.out (by omega)).mono ?_
  rintro en w1 ⟨R, rfl, hr1, hg1, hs1⟩
  have B1 := hid_intro (HB.out.keptN hg1)
  have HLT : Hid (∀ ad, ao = some ad → 0 < 4092 → ad.block < w.heap.size) := fun ad h1 h2 => HB.out.lt h1 h2
  have G1 := hid_intro hg1
  clear hg1
  go_wp2_with fail
  refine (readHead_any R w.heap.size zs _ hr1 hbt hl).mono ?_
  rw [← HX.out, ← HC.out]
  rintro en w2 ⟨rfl, hr2, hg2⟩
  have B2 := hid_intro (B1.out.kept hg2 (fun ad h1 h2 e => by have := HLT.out ad h1 (by omega); have := Option.some.inj e; omega))
  have G2 := hid_intro (grown_new G1.out hg2 (by omega))
  clear hg2 hr1 G1 B1
  go_wp2_with fail
  refine (rd_B R w.heap.size zs (7, 0) (c : Int) _ hr2).mono ?_
  rw [HRD.out]
  rintro en w3 ⟨⟨bo, k, rfl, hb3, hp3, hk3⟩, _, hg3⟩
  have B3 := hid_intro (B2.out.kept hg3 (fun ad h1 h2 e => by have := HLT.out ad h1 (by omega); have := Option.some.inj e; omega))
  have G3 := hid_intro (grown_new G2.out hg3 (by omega))
  have D3 := hid_intro hb3
  have hk := hb3.len
  have P3 := hid_intro hp3
  clear hg3 hr2 G2 B2 hb3 hp3
  go_wp2_with fail
  refine (encodeData_any (x : Int) bo k k (rD zs) _ D3.out (by omega)).mono ?_
  rintro en w4 ⟨so, m, rfl, hb4, _, hg4⟩
  have B4 := hid_intro (B3.out.keptN hg4)
  have G4 := hid_intro (grown_trans G3.out hg4)
  have D4 := hid_intro (D3.out.keptN hg4)
  have S4 := hid_intro hb4
  rw [← hk]
  obtain ⟨er, her⟩ : ∃ er, er = eD (x : Int) (rD zs).length := ⟨_, rfl⟩
  rw [← her]
  have HER := hid_intro her
  have HK := hid_intro hk
  clear hg4 G3 B3 D3 hb4 her hk
  by_cases he : er = 0
  ·subst he
   by_cases hq : oD (x : Int) (rD zs) = zs
   ·have HT : Hid (dD zs = true) := HIF.out.2 ⟨by rw [← HX.out]; exact HER.out.symm, by rw [← HX.out]; exact hq⟩
    have HQ := hid_intro hq
    clear hq
    go_wp2_with fail
    refine (equal_yes so ao m 4092 m cap _ _ _ S4.out B4.out HQ.out).mono ?_
    rintro en w5 ⟨rfl, rfl⟩
    go_wp2
    go_ret3
    rw [(v_yes HT.out).1, (v_yes HT.out).2.1, (v_yes HT.out).2.2, ← HX.out]
    exact ⟨bo, k, by rw [HK.out]; rfl, D4.out, P3.out, G4.out⟩
   ·have HT : Hid (dD zs = false) := by
     cases hh : dD zs with
     | false => rfl
     | true => exact absurd (by rw [HX.out]; exact (HIF.out.1 hh).2) hq
    have HQ := hid_intro hq
    clear hq
    go_wp2_with fail
    refine (equal_no so ao m 4092 m cap _ _ _ S4.out B4.out (oD_bt HRB.out) hbt HQ.out).mono ?_
    rintro en w5 ⟨rfl, rfl⟩
    go_wp2
    go_ret3
    rw [(v_no HT.out).1, (v_no HT.out).2.1, (v_no HT.out).2.2]
    exact ⟨none, 0, rfl, Byt.empty _, fun h => by omega, G4.out⟩
  ·have HT : Hid (dD zs = false) := by
    cases hh : dD zs with
    | false => rfl
    | true => exact absurd (by rw [HER.out, HX.out]; exact (HIF.out.1 hh).1) he
   have he2 : (er == 0) = false := by simp [he]
   have he3 : (er != 0) = true := by simp [he]
   go_wp2
   go_ret3
   rw [(v_no HT.out).1, (v_no HT.out).2.1, (v_no HT.out).2.2]
   exact ⟨none, 0, rfl, Byt.empty _, fun h => by omega, G4.out⟩
 ·have HT : Hid (dD zs = false) := by show _ = _; simp [dD, hl, h0]
  have h0' : ¬ (n : Int) = 4092 := by omega
  go_enter Tryz.func18, Tryz.ntmps18
  go_wp2
  go_ret3
  rw [(v_no HT.out).1, (v_no HT.out).2.1, (v_no HT.out).2.2]
  exact ⟨none, 0, rfl, Byt.empty _, fun h => by omega, World.grownBy.refl _ _⟩
structure Nt (w : World) (a : Option Addr) (xs : List Int) : Prop where
 row : ∀ i, i < xs.length → ∃ b off, a = some ⟨b, off, none⟩ ∧ w.cell? ⟨b, off + i, none⟩ = some (.int .i64 (xs.getD i 0))
theorem Nt.heap {w w' : World} {a : Option Addr} {xs : List Int} (h : Nt w a xs) (e : w'.heap = w.heap) : Nt w' a xs := by
 refine ⟨fun i hi => ?_⟩
 obtain ⟨b, off, h1, h2⟩ := h.row i hi
 exact ⟨b, off, h1, (World.cell?_of_block (by rw [e])).trans h2⟩
theorem Nt.keptN {w w' : World} {a : Option Addr} {xs : List Int} (h : Nt w a xs) (hg : w.grownBy w' none) : Nt w' a xs := by
 refine ⟨fun i hi => ?_⟩
 obtain ⟨b, off, h1, h2⟩ := h.row i hi
 exact ⟨b, off, h1, hg.cell h2 (by simp)⟩
theorem Nt.kept {w w' : World} {row : Option Nat} {a : Option Addr} {xs : List Int} (h : Nt w a xs) (hg : w.grownBy w' row) (hne : ∀ ad, a = some ad → some ad.block ≠ row) : Nt w' a xs := by
 refine ⟨fun i hi => ?_⟩
 obtain ⟨b, off, h1, h2⟩ := h.row i hi
 exact ⟨b, off, h1, hg.cell h2 (hne ⟨b, off, none⟩ h1)⟩
theorem Nt.zero (w : World) (a : Option Addr) : Nt w a [] := ⟨fun i hi => by simp at hi⟩
theorem Nt.at {w : World} {b off : Nat} {xs : List Int} (h : Nt w (some ⟨b, off, none⟩) xs) (i : Nat) (hi : i < xs.length) : w.cell? ⟨b, off + i, none⟩ = some (.int .i64 (xs.getD i 0)) := by
 obtain ⟨b', off', h1, h2⟩ := h.row i hi
 simp only [Option.some.injEq, Addr.mk.injEq] at h1
 obtain ⟨rfl, rfl, _⟩ := h1
 exact h2
theorem Nt.where {w : World} {a : Option Addr} {xs : List Int} (h : Nt w a xs) (h0 : 0 < xs.length) : ∃ b off, a = some ⟨b, off, none⟩ ∧ b < w.heap.size := by
 obtain ⟨b, off, h1, h2⟩ := h.row 0 h0
 exact ⟨b, off, h1, World.block_lt_of_cell? w _ h2⟩
theorem nget_mem {xs : List Int} {i : Nat} (h : i < xs.length) : xs.getD i 0 ∈ xs := by
 simp [List.getD, List.getElem?_eq_getElem h]
theorem nall_take {xs : List Int} {i : Nat} (h : i < xs.length) (k : (xs.take i).all inR = true) (e : inR (xs.getD i 0) = true) : (xs.take (i + 1)).all inR = true := by
 have hg : xs.getD i 0 = xs[i] := by simp [List.getD, List.getElem?_eq_getElem h]
 rw [List.take_add_one, List.getElem?_eq_getElem h, List.all_append, k]
 rw [hg] at e
 simp [e]
theorem nall_no {xs : List Int} {i : Nat} (h : i < xs.length) (e : inR (xs.getD i 0) = false) : xs.all inR = false := by
 cases hh : xs.all inR with
 | false => rfl
 | true => have := List.all_eq_true.1 hh _ (nget_mem h); rw [e] at this; cases this
set_option maxHeartbeats 2000000 in
set_option maxRecDepth 100000 in
theorem index_no (a : Option Addr) (n cap : Nat) (xs : List Int) (w : World) (hl : Nt w a xs) (hn : xs.length = n) (hm : n ≤ 9223372036854775807) :
  Calls Tryz.prog 50 #[.slice a n cap, .func (.func 34) #[] #[]] w fun en w' => (∃ r : Int, en = .returned (.int .i64 r) ∧ (r < 0 ↔ xs.all inR = true)) ∧ w' = w := by
 have HL := hid_intro hl
 clear hl
 go_enter Tryz.func50, Tryz.ntmps50
 go_wp2
 go_loopw [5, 8] (fun _ si wr => ∃ i : Nat, i ≤ n ∧ si = .int .i64 i ∧ (xs.take i).all inR = true ∧ wr = w) (fun _ si _ => n - (intOf si).toNat)
 case atStart => exact ⟨0, Nat.zero_le _, rfl, by simp, rfl⟩
 case round =>
  obtain ⟨i, hi, rfl, ha, rfl⟩ := hrel
  have HA := hid_intro ha
  clear ha
  by_cases hlt : i < n
  ·obtain ⟨b, off, rfl, c0⟩ := HL.out.row i (by omega)
   have HX : Hid (inR (xs.getD i 0) = true → (xs.take (i + 1)).all inR = true) := fun e => nall_take (by omega) HA.out e
   have HY : Hid (inR (xs.getD i 0) = false → xs.all inR = false) := fun e => nall_no (by omega) e
   have HC := hid_intro (fun (W : World) => wrongNo_any (xs.getD i 0) W)
   generalize inR (xs.getD i 0) = bb at *
   generalize xs.getD i 0 = v at *
   go_wp2_with fail
   refine (HC.out _).mono ?_
   rintro en w2 ⟨rfl, rfl⟩
   cases bb with
   | false =>
    have HY1 := hid_intro (HY.out rfl)
    clear HX HY
    go_wp2
    go_ret
    refine ⟨⟨_, rfl, ?_⟩, rfl⟩
    rw [HY1.out]
    simp
   | true =>
    have HX1 := hid_intro (HX.out rfl)
    clear HX HY
    go_wp2
    go_roundw
    case rel => exact ⟨i + 1, by omega, by go_num, HX1.out, by trivial⟩
    case measure => simp [intOf]; omega
  ·have hin : i = n := by omega
   subst hin
   go_wp2
   go_ret
   refine ⟨⟨-1, rfl, ?_⟩, rfl⟩
   have := HA.out
   rw [← hn, List.take_length] at this
   rw [this]
   simp
set_option maxHeartbeats 1000000 in
set_option maxRecDepth 100000 in
theorem contains_no (a : Option Addr) (n cap : Nat) (xs : List Int) (w : World) (hl : Nt w a xs) (hn : xs.length = n) (hm : n ≤ 9223372036854775807) :
  Calls Tryz.prog 33 #[.slice a n cap, .func (.func 34) #[] #[]] w fun en w' => en = .returned (.bool (!(xs.all inR))) ∧ w' = w := by
 go_enter Tryz.func33, Tryz.ntmps33
 go_wp2_with fail
 refine (index_no a n cap xs _ hl hn hm).mono ?_
 rintro en w1 ⟨⟨r, rfl, hr⟩, rfl⟩
 have HR := hid_intro hr
 clear hr hl
 by_cases h0 : r < 0
 ·go_wp2
  go_ret
  exact ⟨by rw [HR.out.1 h0]; simp [h0], rfl⟩
 ·have this : Hid (xs.all inR = false) := by
   show _ = _
   cases hb : xs.all inR with
   | false => rfl
   | true => exact absurd (HR.out.2 hb) h0
  go_wp2
  go_ret
  exact ⟨by rw [this.out]; simp, rfl⟩
theorem ris_true {xs : List Int} (h : ∀ j, j + 1 < xs.length → xs.getD j 0 < xs.getD (j + 1) 0) : ris xs = true := by
 unfold ris
 rw [List.all_eq_true]
 intro i hi
 have := List.mem_range.1 hi
 exact decide_eq_true (h i (by omega))
theorem ris_false {xs : List Int} {j : Nat} (hj : j + 1 < xs.length) (h : ¬ xs.getD j 0 < xs.getD (j + 1) 0) : ris xs = false := by
 cases hh : ris xs with
 | false => rfl
 | true =>
  unfold ris at hh
  have := List.all_eq_true.1 hh j (List.mem_range.2 (by omega))
  exact absurd (of_decide_eq_true this) h
set_option maxHeartbeats 1000000 in
set_option maxRecDepth 100000 in
theorem rising6_any (a : Option Addr) (n cap : Nat) (xs : List Int) (w : World) (hl : Nt w a xs) (hn : xs.length = n) (hm : n ≤ 9223372036854775806) :
  Calls Tryz.prog 35 #[.slice a n cap] w fun en w' => en = .returned (.bool (ris xs)) ∧ Qt w w' := by
 have HL := hid_intro hl
 clear hl
 go_enter Tryz.func35, Tryz.ntmps35
 go_wp2
 go_loopw [3] (fun si wr => ∃ i : Nat, si = .int .i64 ((i : Int) + 1) ∧ i ≤ n ∧ (∀ j, j + 1 < i + 1 → j + 1 < n → xs.getD j 0 < xs.getD (j + 1) 0) ∧ Qt w wr) (fun si _ => n + 1 - (intOf si).toNat)
 case atStart => exact ⟨0, rfl, Nat.zero_le _, fun j hj => by omega, Qt.refl _⟩
 case round =>
  obtain ⟨i, rfl, hi, ha, hq⟩ := hrel
  have HA := hid_intro ha
  have HQ := hid_intro hq
  clear ha hq
  by_cases hlt : i + 1 < n
  ·obtain ⟨b, off, rfl, q0⟩ := HL.out.row i (by omega)
   have q1 := HL.out.at (i + 1) (by omega)
   have c0 := (HQ.out.cell _).trans q0
   have c1 := (HQ.out.cell _).trans q1
   have g1 : (i : Int) < (n : Int) := by omega
   have g0 : (0 : Int) ≤ (i : Int) := by omega
   have g2 : (i : Int) + 1 < (n : Int) := by omega
   have g3 : (0 : Int) ≤ (i : Int) + 1 := by omega
   have HX : Hid (xs.getD i 0 < xs.getD (i + 1) 0 → ∀ j, j + 1 < i + 1 + 1 → j + 1 < n → xs.getD j 0 < xs.getD (j + 1) 0) := by
    intro h j hj hj2
    by_cases e : j = i
    ·subst e; exact h
    ·exact HA.out j (by omega) hj2
   have HY : Hid (¬ xs.getD i 0 < xs.getD (i + 1) 0 → ris xs = false) := fun h => ris_false (by omega) h
   clear q0 q1
   generalize xs.getD i 0 = u at *
   generalize xs.getD (i + 1) 0 = v at *
   by_cases h : u < v
   ·have HX1 := hid_intro (HX.out h)
    have h2 : ¬ v ≤ u := by omega
    clear HX HY
    go_wp2
    go_quiet (fail)
    go_wp2
    go_roundw
    case rel => exact ⟨i + 1, by go_num, by omega, HX1.out, HQ.out.trans (Qt.drewN _ _)⟩
    case measure => simp [intOf]; omega
   ·have HY1 := hid_intro (HY.out h)
    have h2 : v ≤ u := by omega
    clear HX HY
    go_wp2
    go_quiet (fail)
    go_wp2
    go_ret
    exact ⟨by rw [HY1.out]; rfl, HQ.out.trans (Qt.drewN _ _)⟩
  ·have g2 : ¬ (i : Int) + 1 < (n : Int) := by omega
   have HT : Hid (ris xs = true) := ris_true (fun j hj => HA.out j (by omega) (by omega))
   go_wp2
   go_ret
   exact ⟨by rw [HT.out]; rfl, HQ.out⟩
def oL (x : Int) (xs : List Int) : List Int := if eL x xs = 0 then lB x.toNat xs else []
theorem oL_no {x : Int} {xs : List Int} (h : eL x xs ≠ 0) : oL x xs = [] := by unfold oL; rw [if_neg h]
theorem oL_yes {x : Int} {xs : List Int} (h : eL x xs = 0) : oL x xs = lB x.toNat xs := by unfold oL; rw [if_pos h]
theorem oL_bt (x : Int) (xs : List Int) : Bt (oL x xs) := by
 unfold oL; split
 ·exact lB_bt _ _
 ·exact Bt.nil
def lP (x : Nat) (xs : List Int) (i : Nat) : List Int := hd 4 x xs.length ++ (fl (xs.take i) ++ List.replicate (4085 - 4 * i) 0)
theorem lP_zero (x : Nat) (xs : List Int) : lP x xs 0 = hz 4 x xs.length := by unfold lP hz; rw [List.take_zero, fl_nil, List.nil_append]
theorem lP_last (x : Nat) (xs : List Int) : lP x xs xs.length = lB x xs := by unfold lP lB; rw [List.take_length]
theorem lP_len {x : Nat} {xs : List Int} {i : Nat} (h : i ≤ xs.length) (h2 : xs.length ≤ 1021) : (lP x xs i).length = 4092 := by
 unfold lP; rw [List.length_append, List.length_append, hd_len, fl_len, List.length_take, List.length_replicate]; omega
theorem ntake {xs : List Int} {i : Nat} (hi : i < xs.length) : xs.take (i + 1) = xs.take i ++ [xs.getD i 0] := by
 rw [List.take_add_one, List.getElem?_eq_getElem hi]
 simp [List.getD, List.getElem?_eq_getElem hi]
theorem lP_next {x : Nat} {xs : List Int} {i : Nat} (hi : i < xs.length) (h2 : xs.length ≤ 1021) : splice (lP x xs i) (7 + 4 * i) (lb 4 (xs.getD i 0).toNat) = lP x xs (i + 1) := by
 unfold lP
 have e : List.replicate (4085 - 4 * i) (0 : Int) = List.replicate 4 0 ++ List.replicate (4085 - 4 * (i + 1)) 0 := by rw [List.replicate_append_replicate]; congr 1; omega
 have hl : (hd 4 x xs.length ++ fl (xs.take i)).length = 7 + 4 * i := by rw [List.length_append, hd_len, fl_len, List.length_take]; omega
 rw [e, ← List.append_assoc (hd 4 x xs.length), splice_mid hl (by rw [List.length_replicate, lb_len]), ntake hi, fl_app, fl_cons, fl_nil, List.append_nil, List.append_assoc, List.append_assoc]
set_option maxHeartbeats 2000000 in
set_option maxRecDepth 100000 in
theorem encodeList_any (x : Int) (ao : Option Addr) (n cap : Nat) (xs : List Int) (w : World) (hb : Nt w ao xs) (hl : xs.length = n) (hn : n ≤ 9223372036854775806) :
  Calls Tryz.prog 14 #[.int .i64 x, .slice ao n cap] w fun en w' => ∃ bo m, en = .returned (.tuple #[.slice bo m m, .int .i64 (eL x xs)]) ∧ Byt w' bo m m (oL x xs) ∧ (0 < m → ∃ g, bo = some ⟨g, 0, none⟩ ∧ w.heap.size ≤ g ∧ Rw w' g (oL x xs)) ∧ w.grownBy w' none := by
 have HB := hid_intro hb
 clear hb
 cases hk : nOk x with
 | false =>
  have e : Hid (eL x xs = 51) := by show _ = _; unfold eL; rw [if_pos hk]
  have e2 : Hid (oL x xs = []) := oL_no (by rw [e.out]; decide)
  go_enter Tryz.func14, Tryz.ntmps14
  go_wp2_with fail
  refine (wrongNext_any x _).mono ?_
  rintro en w ⟨rfl, rfl⟩
  rw [hk]
  go_wp2
  go_ret2
  rw [e.out, e2.out]
  exact ⟨none, 0, rfl, Byt.empty _, fun h => by omega, World.grownBy.refl _ _⟩
 | true =>
  have HBD : Hid (badL x xs = (cnt x n 1021 || (!(xs.all inR) || !(ris xs)))) := by show _ = _; rw [← hl]; rfl
  have EB : Hid (badL x xs = true → eL x xs = 63) := fun h => by unfold eL; rw [if_neg (by rw [hk]; decide), if_pos h]
  cases hc : cnt x n 1021 with
  | true =>
   have e : Hid (eL x xs = 63) := EB.out (by rw [HBD.out, hc]; rfl)
   have e2 : Hid (oL x xs = []) := oL_no (by rw [e.out]; decide)
   go_enter Tryz.func14, Tryz.ntmps14
   go_wp2_with fail
   refine (wrongNext_any x _).mono ?_
   rintro en w ⟨rfl, rfl⟩
   rw [hk]
   go_wp2_with fail
   refine (wrongCount_any x n 1021 _).mono ?_
   rintro en w ⟨rfl, rfl⟩
   rw [hc]
   go_wp2
   go_ret2
   rw [e.out, e2.out]
   exact ⟨none, 0, rfl, Byt.empty _, fun h => by omega, World.grownBy.refl _ _⟩
  | false =>
   cases ha : xs.all inR with
   | false =>
    have e : Hid (eL x xs = 63) := EB.out (by rw [HBD.out, hc, ha]; rfl)
    have e2 : Hid (oL x xs = []) := oL_no (by rw [e.out]; decide)
    go_enter Tryz.func14, Tryz.ntmps14
    go_wp2_with fail
    refine (wrongNext_any x _).mono ?_
    rintro en w ⟨rfl, rfl⟩
    rw [hk]
    go_wp2_with fail
    refine (wrongCount_any x n 1021 _).mono ?_
    rintro en w ⟨rfl, rfl⟩
    rw [hc]
    go_wp2_with fail
    refine (contains_no ao n cap xs _ HB.out hl (by omega)).mono ?_
    rintro en w ⟨rfl, rfl⟩
    rw [ha]
    go_wp2
    go_ret2
    rw [e.out, e2.out]
    exact ⟨none, 0, rfl, Byt.empty _, fun h => by omega, World.grownBy.refl _ _⟩
   | true =>
    cases hr : ris xs with
    | false =>
     have e : Hid (eL x xs = 63) := EB.out (by rw [HBD.out, hc, ha, hr]; rfl)
     have e2 : Hid (oL x xs = []) := oL_no (by rw [e.out]; decide)
     go_enter Tryz.func14, Tryz.ntmps14
     go_wp2_with fail
     refine (wrongNext_any x _).mono ?_
     rintro en w ⟨rfl, rfl⟩
     rw [hk]
     go_wp2_with fail
     refine (wrongCount_any x n 1021 _).mono ?_
     rintro en w ⟨rfl, rfl⟩
     rw [hc]
     go_wp2_with fail
     refine (contains_no ao n cap xs _ HB.out hl (by omega)).mono ?_
     rintro en w ⟨rfl, rfl⟩
     rw [ha]
     go_wp2_with fail
     refine (rising6_any ao n cap xs _ HB.out hl hn).mono ?_
     rintro en w1 ⟨rfl, hq⟩
     rw [hr]
     go_wp2
     go_ret2
     rw [e.out, e2.out]
     exact ⟨none, 0, rfl, Byt.empty _, fun h => by omega, hq.grown none⟩
    | true =>
     have e : Hid (eL x xs = 0) := by show _ = _; unfold eL; rw [if_neg (by rw [hk]; decide), if_neg (by rw [HBD.out, hc, ha, hr]; decide)]
     have e2 : Hid (oL x xs = lB x.toNat xs) := oL_yes e.out
     have hm : n ≤ 1021 := by rw [← hl]; exact (eL_zero e.out).2.1
     obtain ⟨y, hy, hy2⟩ := nOk_nat hk
     subst hy
     have e2 : Hid (oL y xs = lB y xs) := e2
     have e3 : Hid ((hz 4 y n).length = 4092) := hz_len _ _ _
     have e4 : Hid (lP y xs 0 = hz 4 y n) := by show _ = _; rw [← hl]; exact lP_zero _ _
     have e5 : Hid ((lB y xs).length = 4092) := lB_len (by omega)
     have e6 : Hid (lP y xs n = lB y xs) := by show _ = _; rw [← hl]; exact lP_last _ _
     have e7 : Hid (∀ i, i ≤ n → (lP y xs i).length = 4092) := fun i hi => lP_len (by omega) (by omega)
     have e8 : Hid (∀ i, i < n → splice (lP y xs i) (7 + 4 * i) (lb 4 (xs.getD i 0).toNat) = lP y xs (i + 1)) := fun i hi => lP_next (by omega) (by omega)
     have e9 : Hid (∀ i, i < n → ∃ v : Nat, xs.getD i 0 = (v : Int) ∧ v ≤ 524286) := fun i hi => by
      have := inR_iff.1 (List.all_eq_true.1 ha _ (nget_mem (show i < xs.length by omega)))
      exact ⟨(xs.getD i 0).toNat, by omega, by omega⟩
     obtain ⟨Z, hZ⟩ : ∃ Z : List Int, Z = List.replicate 4092 0 := ⟨_, rfl⟩
     have hZl : Z.length = 4092 := by rw [hZ, List.length_replicate]
     have HZ := hid_intro hZ
     clear hZ HBD EB
     go_enter Tryz.func14, Tryz.ntmps14
     go_wp2_with fail
     refine (wrongNext_any y _).mono ?_
     rintro en w ⟨rfl, rfl⟩
     rw [hk]
     go_wp2_with fail
     refine (wrongCount_any y n 1021 _).mono ?_
     rintro en w ⟨rfl, rfl⟩
     rw [hc]
     go_wp2_with fail
     refine (contains_no ao n cap xs _ HB.out hl (by omega)).mono ?_
     rintro en w ⟨rfl, rfl⟩
     rw [ha]
     go_wp2_with fail
     refine (rising6_any ao n cap xs _ HB.out hl hn).mono ?_
     rintro en w1 ⟨rfl, hq⟩
     rw [hr]
     have G1 := hid_intro (hq.grown none)
     clear hq
     go_wp2_with fail
     refine (begun_any 4 y n _ (by omega) (by omega) (by omega)).mono ?_
     rintro en w2 ⟨rfl, hg2⟩
     have G2 := hid_intro (grown_trans G1.out hg2)
     clear hg2 G1
     go_wp2_with (refine wpList_alloc_arr6 rfl rfl Z HZ.out ?_)
     intro w3 hr3 hg3 hs3
     have R3 := hid_intro hr3
     have G3 := hid_intro (grown_trans G2.out hg3)
     have S2 := hid_intro G2.out.size
     clear hr3 hg3 hs3 G2
     go_wp2_with (refine wpList_store_arr rfl _ _ rfl w2.heap.size Z (hz 4 y n) rfl rfl R3.out hZl e3.out ?_)
     intro w4 hr4 hg4 hs4
     have hr4' : Rt w4 w2.heap.size 67 (lP y xs 0) := by rw [e4.out]; exact hr4
     have R4 := hid_intro hr4'
     have G4 := hid_intro (grown_new G3.out hg4 S2.out)
     clear hr4 hr4' hg4 hs4 R3 G3
     go_wp2
     go_loopw [7, 8, 32] (fun _ _ si wr => ∃ i : Nat, i ≤ n ∧ si = .int .i64 i ∧ Rt wr w2.heap.size 67 (lP y xs i) ∧ w.grownBy wr none) (fun _ _ si _ => n - (intOf si).toNat)
     case atStart => exact ⟨0, Nat.zero_le _, rfl, R4.out, G4.out⟩
     case round =>
      obtain ⟨i, hi, rfl, hri, hgi⟩ := hrel
      have RI := hid_intro hri
      have GI := hid_intro hgi
      clear hri hgi
      by_cases hlt : i < n
      ·obtain ⟨b, off, rfl, c0⟩ := (HB.out.keptN GI.out).row i (by omega)
       obtain ⟨v, hv, hv2⟩ := e9.out i hlt
       have HN := hid_intro (e8.out i hlt)
       have HLN := hid_intro (e7.out i hi)
       rw [hv] at HN c0
       rw [Int.toNat_natCast] at HN
       clear hv
       have hwv : IntKind.u32.wrap (v : Int) = (v : Int) := by simp [IntKind.wrap, IntKind.bits, IntKind.signed]; omega
       go_wp2_with fail
       refine (cut_at w2.heap.size 0 4092 4092 (7 + 4 * i) 4 _ _ (by omega) (by omega) (by omega)).mono ?_
       rintro en wr ⟨⟨q, rfl, hq⟩, rfl⟩
       have hq := hq (by omega)
       rw [Nat.zero_add] at hq
       rw [hq]
       clear hq
       go_wp2_with fail
       refine (put_u32_nil v _ (by omega)).mono ?_
       rintro en w5 ⟨rfl, hb5, hg5, _⟩
       have R5 := hid_intro (RI.out.keptN hg5)
       have B5 := hid_intro hb5
       have G5 := hid_intro (grown_trans GI.out hg5)
       clear hb5 hg5 RI GI
       go_wp2_with (refine wpList_copy_rt rfl _ _ rfl _ _ _ _ _ _ rfl rfl w2.heap.size (7 + 4 * i) 67 (lP y xs i) (lb 4 v) R5.out B5.out (Nat.le_refl _) (fun _ => rfl) (by rw [HLN.out]; omega) ?_)
       intro w6 hr6 hg6 hs6
       have hr6' : Rt w6 w2.heap.size 67 (lP y xs (i + 1)) := by rw [← HN.out]; exact hr6
       have R6 := hid_intro hr6'
       have G6 := hid_intro (grown_new G5.out hg6 S2.out)
       clear hr6 hr6' hg6 hs6 R5 B5 G5
       go_wp2
       go_roundw
       case rel => exact ⟨i + 1, by omega, by go_num, R6.out, G6.out⟩
       case measure => simp [intOf]; omega
      ·have hin : i = n := by omega
       subst hin
       have hri : Rt wr w2.heap.size 67 (lB y xs) := by rw [← e6.out]; exact RI.out
       have B6 := hid_intro (hri.all 4092 4092 e5.out.symm)
       clear hri
       go_wp2_with fail
       refine (copyOf_any _ 4092 4092 (lB y xs) _ B6.out (by omega)).mono ?_
       rintro en w7 ⟨rfl, hr7, hg7⟩
       have R7 := hid_intro hr7
       have G7 := hid_intro (grown_trans GI.out hg7)
       clear hr7 hg7
       go_wp2
       go_ret2
       rw [e.out, e2.out]
       exact ⟨some ⟨wr.heap.size, 0, none⟩, 4092, rfl, R7.out.all 4092 4092 e5.out.symm, fun _ => ⟨_, rfl, GI.out.size, R7.out⟩, G7.out⟩
theorem info_int6 : (Tryz.prog.info? 3).map (fun i => (i.zero, i.size, i.bytes)) = some (some (.int .i64 0), 1, 8) := by kernel_rfl
def Ri (w : World) (g : Nat) (xs : List Int) : Prop := w.heap[g]? = some (.cells (xs.map (Value.int .i64)).toArray 3 (0, 0))
theorem Ri.lt {w : World} {g : Nat} {xs : List Int} (h : Ri w g xs) : g < w.heap.size := (Array.getElem?_eq_some_iff.1 h).1
theorem Ri.nt {w : World} {g : Nat} {xs : List Int} (h : Ri w g xs) : Nt w (some ⟨g, 0, none⟩) xs := by
 refine ⟨fun i hi => ⟨g, 0, rfl, ?_⟩⟩
 rw [Nat.zero_add, cell_of_row w g i _ _ (0, 0) h]
 simp [List.getD, List.getElem?_eq_getElem hi]
theorem Ri.kept {w w' : World} {row : Option Nat} {g : Nat} {xs : List Int} (h : Ri w g xs) (hg : w.grownBy w' row) (hne : some g ≠ row) : Ri w' g xs := (hg.block g h.lt hne).trans h
theorem Ri.keptN {w w' : World} {g : Nat} {xs : List Int} (h : Ri w g xs) (hg : w.grownBy w' none) : Ri w' g xs := h.kept hg (by simp)
theorem madeI (n : Nat) : (madeCells #[Value.int .i64 0] n).toList = (List.replicate n (0 : Int)).map (Value.int .i64) := by
 refine List.ext_getElem (by simp [madeCells]) fun i h1 h2 => ?_
 simp [madeCells, Nat.mod_one]
theorem Ri.of_owns {w : World} {base g n : Nat} {zs : List Int} (h : w.ownsRow base 3 1 (.slice (some ⟨g, 0, none⟩) n n) n (zs.map (Value.int .i64))) : Ri w g zs := by
 rcases h with ⟨hl, ⟨h0, _⟩ | ⟨g', cap, cur, hv, _, hg, _, _, hs, ht⟩⟩
 ·cases h0
 ·injection hv with e1 e2 e3
  injection e1 with e1
  injection e1 with e4
  subst e4 e3
  have : cur.toList = zs.map (Value.int .i64) := by
   rw [← ht, List.take_of_length_le (by simp [hs])]
  unfold Ri
  rw [hg, ← this]
theorem Ri.frozen {w : World} {g : Nat} {xs : List Int} (h : Ri w g xs) (j : Nat) : w.frozen? ⟨g, j, none⟩ = false := frozen_of_row w g j _ _ h
theorem Ri.cell {w : World} {g : Nat} {xs : List Int} (h : Ri w g xs) (i : Nat) (hi : i < xs.length) : w.cell? ⟨g, i, none⟩ = some (.int .i64 (xs.getD i 0)) := by
 rw [cell_of_row w g i _ _ (0, 0) h]
 simp [List.getD, List.getElem?_eq_getElem hi]
theorem Ri.set {w : World} {g i : Nat} {xs : List Int} {v : Int} (h : Ri w g xs) : Ri (w.setCell ⟨g, i, none⟩ (.int .i64 v)) g (xs.set i v) := by
 unfold Ri
 rw [heap_setCell_same w g i _ _ _ h]
 simp [List.map_set]
theorem rL_set {zs : List Int} {m i : Nat} (hi : i < m) : (rL zs i ++ List.replicate (m - i) 0).set i ((le 4 (zs.drop (7 + 4 * i)) : Nat) : Int) = rL zs (i + 1) ++ List.replicate (m - (i + 1)) 0 := by
 have e : List.replicate (m - i) (0 : Int) = 0 :: List.replicate (m - (i + 1)) 0 := by rw [show m - i = (m - (i + 1)) + 1 by omega, List.replicate_succ]
 rw [e, List.set_append_right _ _ (by rw [rL_len]; exact Nat.le_refl _), rL_len, Nat.sub_self, List.set_cons_zero, rL_snoc, List.append_assoc]
 rfl
set_option maxHeartbeats 2000000 in
set_option maxRecDepth 100000 in
theorem readList_any (R G m : Nat) (zs : List Int) (w : World) (h : Rd w R G zs 7 0) (hbt : Bt zs) (hl : zs.length = 4092) (hm : m ≤ 1021) :
  Calls Tryz.prog 42 #[.pointer (some ⟨R, 0, none⟩), .int .i64 m] w fun en w' => ∃ g, en = .returned (.slice (some ⟨g, 0, none⟩) m m) ∧ Ri w' g (rL zs m) ∧ w.heap.size ≤ g ∧ w.grownBy w' (some R) := by
 obtain ⟨i0, hi, hz0, hz1, hz2⟩ := info_parts info_int6
 have HR := hid_intro h
 have hRlt := h.lt.1
 have HGl := hid_intro h.lt.2
 clear h
 go_enter Tryz.func42, Tryz.ntmps42
 go_wp2_with (at_make; refine wpList_make_full _ rfl _ _ 23 rfl w.heap.size 3 i0 (.int .i64 0) 1 Tryz.underlying23 hi hz0 hz1 _ _ _ _ m rfl rfl rfl rfl ?b2 ?b3 (Nat.le_refl _) ?_)
 case b2 => rw [hz2]; omega
 case b3 => unfold maxLen; omega
 intro w1 hown hg1
 rw [madeI] at hown
 have hri : Ri w1 w.heap.size (rL zs 0 ++ List.replicate (m - 0) 0) := Ri.of_owns hown
 have RI := hid_intro hri
 have R1 := hid_intro (show Rd w1 R G zs (7 + 4 * 0) 0 from HR.out.kept hg1 (by simp) (by simp))
 have G1 := hid_intro (grown_any (row := some R) hg1)
 clear hown hg1 HR hri
 go_wp2
 go_loopw [6, 11] (fun _ si wr => ∃ i : Nat, i ≤ m ∧ si = .int .i64 i ∧ Ri wr w.heap.size (rL zs i ++ List.replicate (m - i) 0) ∧ Rd wr R G zs (7 + 4 * i) 0 ∧ w.grownBy wr (some R)) (fun _ si _ => m - (intOf si).toNat)
 case atStart => exact ⟨0, Nat.zero_le _, rfl, RI.out, R1.out, G1.out⟩
 case round =>
  obtain ⟨i, hi, rfl, hri, hrd, hgi⟩ := hrel
  have RI := hid_intro hri
  have GI := hid_intro hgi
  clear hri hgi R1 G1
  by_cases hlt : i < m
  ·have hv2 : le 4 (zs.drop (7 + 4 * i)) < 4294967296 := le_lt 4 _ (hbt.drop _)
   have HS := hid_intro (rL_set (zs := zs) hlt)
   have HC := hid_intro (fun (W : World) (hW : Rd W R G zs (7 + 4 * i) 0) => get_u32_ok R G zs (7 + 4 * i) W hW hbt (by omega))
   have HLL : Hid ((rL zs i ++ List.replicate (m - i) 0).length = m) := by show _ = _; rw [List.length_append, rL_len, List.length_replicate]; omega
   generalize le 4 (zs.drop (7 + 4 * i)) = v at *
   have hwv : IntKind.i64.wrap (v : Int) = (v : Int) := by simp [IntKind.wrap, IntKind.bits, IntKind.signed]; omega
   have hne : R ≠ w.heap.size := by omega
   have HGne : Hid (G ≠ w.heap.size) := by have := HGl.out; show _ ≠ _; omega
   go_wp2_with fail
   refine (HC.out _ hrd).mono ?_
   rintro en w2 ⟨rfl, hr2, hg2⟩
   have RI2 := hid_intro (RI.out.kept hg2 (fun e => hne (Option.some.inj e).symm))
   have GI2 := hid_intro (grown_trans GI.out hg2)
   have RD2 := hid_intro hr2
   clear hr2 hg2 RI GI hrd
   have f2 := RI2.out.frozen i
   have e2 := RI2.out.cell i (by rw [HLL.out]; exact hlt)
   go_wp2
   go_roundw
   case rel =>
    refine ⟨i + 1, by omega, by go_num, ?_, ?_, ?_⟩
    ·rw [← HS.out]; exact RI2.out.set
    ·exact RD2.out.kept (grown_cell _ _ _ _) (fun e => hne (Option.some.inj e)) (fun e => HGne.out (Option.some.inj e))
    ·exact grown_newR GI2.out (grown_cell _ _ _ _) (Nat.le_refl _)
   case measure => simp [intOf]; omega
  ·have hin : i = m := by omega
   subst hin
   go_wp2
   go_ret
   refine ⟨_, rfl, ?_, Nat.le_refl _, GI.out⟩
   have := RI.out
   rwa [Nat.sub_self, List.replicate_zero, List.append_nil] at this
def uN (bs : List Int) : Int := if dL bs = true then (rN bs : Int) else 0
def uL (bs : List Int) : List Int := if dL bs = true then rL bs (rC bs) else []
def uE (bs : List Int) : Int := if dL bs = true then 0 else 61
theorem u_no {bs : List Int} (h : dL bs = false) : uN bs = 0 ∧ uL bs = [] ∧ uE bs = 61 := by unfold uN uL uE; rw [h]; exact ⟨rfl, rfl, rfl⟩
theorem u_yes {bs : List Int} (h : dL bs = true) : uN bs = (rN bs : Int) ∧ uL bs = rL bs (rC bs) ∧ uE bs = 0 := by unfold uN uL uE; rw [h]; exact ⟨rfl, rfl, rfl⟩
theorem dL_iff {zs : List Int} (hl : zs.length = 4092) : dL zs = true ↔ eL (rN zs) (rL zs (min (rC zs) 1021)) = 0 ∧ oL (rN zs) (rL zs (min (rC zs) 1021)) = zs := by
 by_cases hc : rC zs ≤ 1021
 ·rw [Nat.min_eq_left hc]
  constructor
  ·intro h
   obtain ⟨_, _, h2, h3⟩ := dL_parts h
   exact ⟨h2, by rw [oL_yes h2]; exact h3⟩
  ·rintro ⟨h1, h2⟩
   rw [oL_yes h1] at h2
   have h3 : lB (rN zs) (rL zs (rC zs)) = zs := h2
   simp [dL, hl, h1, h3, hc]
 ·rw [Nat.min_eq_right (by omega)]
  constructor
  ·intro h
   exact absurd (dL_parts h).2.1 hc
  ·rintro ⟨h1, h2⟩
   rw [oL_yes h1] at h2
   exact absurd h2 (dL_short hc)
theorem dL_cnt {zs : List Int} (h : dL zs = true) : min (rC zs) 1021 = rC zs := Nat.min_eq_left (dL_parts h).2.1
set_option maxHeartbeats 2000000 in
set_option maxRecDepth 100000 in
theorem decodeList_any (ao : Option Addr) (n cap : Nat) (zs : List Int) (w : World) (hb : Byt w ao n cap zs) (hbt : Bt zs) :
  Calls Tryz.prog 19 #[.slice ao n cap] w fun en w' => ∃ bo m, en = .returned (.tuple #[.int .i64 (uN zs), .slice bo m m, .int .i64 (uE zs)]) ∧ Nt w' bo (uL zs) ∧ (uL zs).length = m ∧ (bo ≠ none → ∃ g, bo = some ⟨g, 0, none⟩ ∧ w.heap.size ≤ g ∧ Ri w' g (uL zs)) ∧ w.grownBy w' none := by
 have hl := hb.len
 have HB := hid_intro hb
 clear hb
 by_cases h0 : n = 4092
 ·subst h0
  have HIF := hid_intro (dL_iff hl)
  have HCN := hid_intro (fun h => dL_cnt (zs := zs) h)
  obtain ⟨x, hx⟩ : ∃ x, x = rN zs := ⟨_, rfl⟩
  obtain ⟨c, hc⟩ : ∃ c, c = rC zs := ⟨_, rfl⟩
  obtain ⟨m, hm⟩ : ∃ m, m = min (rC zs) 1021 := ⟨_, rfl⟩
  have hm2 : m ≤ 1021 := by rw [hm]; exact Nat.min_le_right _ _
  rw [← hm] at HIF HCN
  have hmin : ∀ (ts : Array TypeId) (ty : TypeId) (W : World), (Builtin.min_ ts ty #[.int .i64 (c : Int), .int .i64 1021]).run Tryz.prog W = .ok (.int .i64 (m : Int)) W := by
   intro ts ty W
   rw [run_min_int2, hm, ← hc]
   congr 2
   omega
  have HX := hid_intro hx
  have HC := hid_intro hc
  have HM := hid_intro hm
  clear hx hc hm
  go_enter Tryz.func19, Tryz.ntmps19
  go_wp2_with fail
  refine (newReader_any ao 4092 cap zs _ HB.out (by omega)).mono ?_
  rintro en w1 ⟨R, rfl, hr1, hg1, hs1⟩
  have B1 := hid_intro (HB.out.keptN hg1)
  have HLT : Hid (∀ ad, ao = some ad → 0 < 4092 → ad.block < w.heap.size) := fun ad h1 h2 => HB.out.lt h1 h2
  have G1 := hid_intro hg1
  clear hg1
  go_wp2_with fail
  refine (readHead_any R w.heap.size zs _ hr1 hbt hl).mono ?_
  rw [← HX.out, ← HC.out]
  rintro en w2 ⟨rfl, hr2, hg2⟩
  have B2 := hid_intro (B1.out.kept hg2 (fun ad h1 h2 e => by have := HLT.out ad h1 (by omega); have := Option.some.inj e; omega))
  have G2 := hid_intro (grown_new G1.out hg2 (by omega))
  clear hg2 hr1 G1 B1
  go_wp2_with fail
  refine (left_whole R w.heap.size zs 7 _ hr2).mono ?_
  rw [hl]
  rintro en w3 ⟨rfl, hq3⟩
  have B3 := hid_intro (B2.out.keptN (hq3.grown none))
  have G3 := hid_intro (grown_trans G2.out (hq3.grown none))
  have hr3 := hr2.kept (hq3.grown none) (by simp) (by simp)
  clear hq3 hr2 G2 B2
  go_wp2_with fail
  refine (readList_any R w.heap.size m zs _ hr3 hbt hl hm2).mono ?_
  rintro en w4 ⟨g, rfl, hri, hgs, hg4⟩
  have B4 := hid_intro (B3.out.kept hg4 (fun ad h1 h2 e => by have := HLT.out ad h1 (by omega); have := Option.some.inj e; omega))
  have G4 := hid_intro (grown_new G3.out hg4 (by omega))
  have HGS : Hid (w.heap.size ≤ g) := Nat.le_trans G3.out.size hgs
  have RI := hid_intro hri
  clear hg4 hr3 G3 B3 hri hgs
  go_wp2_with fail
  refine (encodeList_any (x : Int) _ m m (rL zs m) _ RI.out.nt (rL_len _ _) (by omega)).mono ?_
  rintro en w5 ⟨so, k, rfl, hb5, _, hg5⟩
  have B5 := hid_intro (B4.out.keptN hg5)
  have G5 := hid_intro (grown_trans G4.out hg5)
  have RI5 := hid_intro (RI.out.keptN hg5)
  have S5 := hid_intro hb5
  obtain ⟨er, her⟩ : ∃ er, er = eL (x : Int) (rL zs m) := ⟨_, rfl⟩
  rw [← her]
  have HER := hid_intro her
  clear hg5 G4 B4 RI hb5 her
  by_cases he : er = 0
  ·subst he
   by_cases hq : oL (x : Int) (rL zs m) = zs
   ·have HT : Hid (dL zs = true) := HIF.out.2 ⟨by rw [← HX.out]; exact HER.out.symm, by rw [← HX.out]; exact hq⟩
    have HQ := hid_intro hq
    clear hq
    go_wp2_with fail
    refine (equal_yes so ao k 4092 k cap _ _ _ S5.out B5.out HQ.out).mono ?_
    rintro en w6 ⟨rfl, rfl⟩
    go_wp2
    go_ret3
    rw [(u_yes HT.out).1, (u_yes HT.out).2.1, (u_yes HT.out).2.2, ← HX.out, ← HCN.out HT.out]
    exact ⟨_, m, rfl, RI5.out.nt, rL_len _ _, fun _ => ⟨_, rfl, HGS.out, RI5.out⟩, G5.out⟩
   ·have HT : Hid (dL zs = false) := by
     cases hh : dL zs with
     | false => rfl
     | true => exact absurd (by rw [HX.out]; exact (HIF.out.1 hh).2) hq
    have HQ := hid_intro hq
    clear hq
    go_wp2_with fail
    refine (equal_no so ao k 4092 k cap _ _ _ S5.out B5.out (oL_bt _ _) hbt HQ.out).mono ?_
    rintro en w6 ⟨rfl, rfl⟩
    go_wp2
    go_ret3
    rw [(u_no HT.out).1, (u_no HT.out).2.1, (u_no HT.out).2.2]
    exact ⟨none, 0, rfl, Nt.zero _ _, rfl, fun h => absurd rfl h, G5.out⟩
  ·have HT : Hid (dL zs = false) := by
    cases hh : dL zs with
    | false => rfl
    | true => exact absurd (by rw [HER.out, HX.out]; exact (HIF.out.1 hh).1) he
   have he2 : (er == 0) = false := by simp [he]
   have he3 : (er != 0) = true := by simp [he]
   go_wp2
   go_ret3
   rw [(u_no HT.out).1, (u_no HT.out).2.1, (u_no HT.out).2.2]
   exact ⟨none, 0, rfl, Nt.zero _ _, rfl, fun h => absurd rfl h, G5.out⟩
 ·have HT : Hid (dL zs = false) := by show _ = _; simp [dL, hl, h0]
  have h0' : ¬ (n : Int) = 4092 := by omega
  go_enter Tryz.func19, Tryz.ntmps19
  go_wp2
  go_ret3
  rw [(u_no HT.out).1, (u_no HT.out).2.1, (u_no HT.out).2.2]
  exact ⟨none, 0, rfl, Nt.zero _ _, rfl, fun h => absurd rfl h, World.grownBy.refl _ _⟩
def Lb (L : List (List Int)) : Prop := ∀ s ∈ L, Bt s
theorem lget_mem {L : List (List Int)} {i : Nat} (h : i < L.length) : L.getD i [] ∈ L := by
 simp [List.getD, List.getElem?_eq_getElem h]
theorem lget_ext {L M : List (List Int)} (hl : L.length = M.length) (h : ∀ j, j < L.length → L.getD j [] = M.getD j []) : L = M := by
 refine List.ext_getElem hl fun j h1 h2 => ?_
 have := h j h1
 simpa [List.getD, List.getElem?_eq_getElem h1, List.getElem?_eq_getElem h2] using this
set_option maxHeartbeats 1000000 in
set_option maxRecDepth 100000 in
theorem sameLists_any (a : Option Addr) (n cap : Nat) (L : List (List Int)) (a' : Option Addr) (n' cap' : Nat) (M : List (List Int)) (w : World) (hl : Lz w a L) (hb : Lb L) (hn : L.length = n) (hl' : Lz w a' M) (hb' : Lb M) (hn' : M.length = n') (hm : n ≤ 9223372036854775807) :
  Calls Tryz.prog 8 #[.slice a n cap, .slice a' n' cap'] w fun en w' => (∃ b, en = .returned (.bool b) ∧ (b = true ↔ L = M)) ∧ Qt w w' := by
 have HL := hid_intro hl
 have HM := hid_intro hl'
 have HB := hid_intro hb
 have HB' := hid_intro hb'
 clear hl hl' hb hb'
 by_cases h1 : n = n'
 ·subst h1
  go_enter Tryz.func8, Tryz.ntmps8
  go_wp2
  go_loopw [5, 6] (fun si _ wr => ∃ i : Nat, i ≤ n ∧ si = .int .i64 i ∧ (∀ j, j < i → L.getD j [] = M.getD j []) ∧ Qt w wr) (fun si _ _ => n - (intOf si).toNat)
  case atStart => exact ⟨0, Nat.zero_le _, rfl, fun j hj => by omega, Qt.refl _⟩
  case round =>
   obtain ⟨i, hi, rfl, ha, hq⟩ := hrel
   have HA := hid_intro ha
   have HQ := hid_intro hq
   clear ha hq
   by_cases hlt : i < n
   ·obtain ⟨b1, off, ao, k, c, rfl, q2, q3, q4, q5⟩ := HL.out.row i (by omega)
    obtain ⟨b2, off2, ao2, k2, c2, rfl, r2, r3, r4, r5⟩ := HM.out.row i (by omega)
    have c0 := (HQ.out.cell _).trans q2
    have c1 := (HQ.out.cell _).trans r2
    have g1 : (i : Int) < (n : Int) := by omega
    have g0 : (0 : Int) ≤ (i : Int) := by omega
    by_cases he : L.getD i [] = M.getD i []
    ·have HC := hid_intro (fun (W : World) (hW : W.heap = wr.heap) => same_yes ao ao2 k k2 c c2 _ _ W (q3.heap (hW.trans HQ.out.heap)) (r3.heap (hW.trans HQ.out.heap)) he)
     have HX1 : Hid (∀ j, j < i + 1 → L.getD j [] = M.getD j []) := by
      intro j hj
      by_cases e : j = i
      ·subst e; exact he
      ·exact HA.out j (by omega)
     clear q2 q3 r2 r3 he
     go_wp2
     go_quiet ((go_at_call 13; exact Calls.quiet_of_same (HC.out _ rfl)))
     go_wp2
     go_roundw
     case rel => exact ⟨i + 1, by omega, by go_num, HX1.out, HQ.out.trans (Qt.drewN _ _)⟩
     case measure => simp [intOf]; omega
    ·have HC := hid_intro (fun (W : World) (hW : W.heap = wr.heap) => same_no ao ao2 k k2 c c2 _ _ W (q3.heap (hW.trans HQ.out.heap)) (r3.heap (hW.trans HQ.out.heap)) (HB.out _ (lget_mem (by omega))) (HB'.out _ (lget_mem (by omega))) he)
     have HX1 : Hid (¬ L = M) := fun e => he (by rw [e])
     clear q2 q3 r2 r3 he
     go_wp2
     go_quiet ((go_at_call 13; exact Calls.quiet_of_same (HC.out _ rfl)))
     go_wp2
     go_ret
     exact ⟨⟨false, rfl, by simp [HX1.out]⟩, HQ.out.trans (Qt.drewN _ _)⟩
   ·have hin : i = n := by omega
    subst hin
    have HT : Hid (L = M) := lget_ext (by omega) (fun j hj => HA.out j (by omega))
    go_wp2
    go_ret
    exact ⟨⟨true, rfl, by simp [HT.out]⟩, HQ.out⟩
 ·have HX1 : Hid (¬ L = M) := fun e => h1 (by rw [← hn, ← hn', e])
  have h1' : ¬ (n : Int) = (n' : Int) := by omega
  go_enter Tryz.func8, Tryz.ntmps8
  go_wp2
  go_ret
  exact ⟨⟨false, rfl, by simp [HX1.out]⟩, Qt.refl _⟩
theorem nget_ext {L M : List Int} (hl : L.length = M.length) (h : ∀ j, j < L.length → L.getD j 0 = M.getD j 0) : L = M := by
 refine List.ext_getElem hl fun j h1 h2 => ?_
 have := h j h1
 simpa [List.getD, List.getElem?_eq_getElem h1, List.getElem?_eq_getElem h2] using this
set_option maxHeartbeats 1000000 in
set_option maxRecDepth 100000 in
theorem sameInts_any (a : Option Addr) (n cap : Nat) (L : List Int) (a' : Option Addr) (n' cap' : Nat) (M : List Int) (w : World) (hl : Nt w a L) (hn : L.length = n) (hl' : Nt w a' M) (hn' : M.length = n') (hm : n ≤ 9223372036854775807) :
  Calls Tryz.prog 112 #[.slice a n cap, .slice a' n' cap'] w fun en w' => (∃ b, en = .returned (.bool b) ∧ (b = true ↔ L = M)) ∧ Qt w w' := by
 have HL := hid_intro hl
 have HM := hid_intro hl'
 clear hl hl'
 by_cases h1 : n = n'
 ·subst h1
  go_enter Tryz.func112, Tryz.ntmps112
  go_wp2
  go_loopw [5] (fun si wr => ∃ i : Nat, i ≤ n ∧ si = .int .i64 i ∧ (∀ j, j < i → L.getD j 0 = M.getD j 0) ∧ Qt w wr) (fun si _ => n - (intOf si).toNat)
  case atStart => exact ⟨0, Nat.zero_le _, rfl, fun j hj => by omega, Qt.refl _⟩
  case round =>
   obtain ⟨i, hi, rfl, ha, hq⟩ := hrel
   have HA := hid_intro ha
   have HQ := hid_intro hq
   clear ha hq
   by_cases hlt : i < n
   ·obtain ⟨b1, off, rfl, q2⟩ := HL.out.row i (by omega)
    obtain ⟨b2, off2, rfl, r2⟩ := HM.out.row i (by omega)
    have c0 := (HQ.out.cell _).trans q2
    have c1 := (HQ.out.cell _).trans r2
    have g1 : (i : Int) < (n : Int) := by omega
    have g0 : (0 : Int) ≤ (i : Int) := by omega
    have HX : Hid (L.getD i 0 = M.getD i 0 → ∀ j, j < i + 1 → L.getD j 0 = M.getD j 0) := by
     intro he j hj
     by_cases e : j = i
     ·subst e; exact he
     ·exact HA.out j (by omega)
    have HY : Hid (¬ L.getD i 0 = M.getD i 0 → ¬ L = M) := fun he e => he (by rw [e])
    clear q2 r2
    generalize L.getD i 0 = u at *
    generalize M.getD i 0 = v at *
    by_cases he : u = v
    ·have HX1 := hid_intro (HX.out he)
     have h2 : (u == v) = true := by simp [he]
     clear HX HY
     subst he
     go_wp2
     go_quiet (fail)
     go_wp2
     go_roundw
     case rel => exact ⟨i + 1, by omega, by go_num, HX1.out, HQ.out.trans (Qt.drewN _ _)⟩
     case measure => simp [intOf]; omega
    ·have HY1 := hid_intro (HY.out he)
     have h2 : (u == v) = false := by simp [he]
     clear HX HY
     go_wp2
     go_quiet (fail)
     go_wp2
     go_ret
     exact ⟨⟨false, rfl, by simp [HY1.out]⟩, HQ.out.trans (Qt.drewN _ _)⟩
   ·have hin : i = n := by omega
    subst hin
    have HT : Hid (L = M) := nget_ext (by omega) (fun j hj => HA.out j (by omega))
    go_wp2
    go_ret
    exact ⟨⟨true, rfl, by simp [HT.out]⟩, HQ.out⟩
 ·have HX1 : Hid (¬ L = M) := fun e => h1 (by rw [← hn, ← hn', e])
  have h1' : ¬ (n : Int) = (n' : Int) := by omega
  go_enter Tryz.func112, Tryz.ntmps112
  go_wp2
  go_ret
  exact ⟨⟨false, rfl, by simp [HX1.out]⟩, Qt.refl _⟩
set_option maxHeartbeats 400000 in
theorem num6_any (n : Int) (w : World) : Calls Tryz.prog 16 #[.int .i64 n] w fun en w' => en = .returned (.int .i64 n) ∧ w' = w := by
 go_enter Tryz.func16, Tryz.ntmps16
 go_wp2
 go_ret
 exact ⟨rfl, rfl⟩
theorem nt_of_row {w : World} {x : Addr} {len cap : Nat} {zs : List Int} (hl : len ≤ cap) (hz : zs.length = cap) (hc : ∀ i, i < zs.length → w.cell? (x.add i) = some (.int .i64 (zs.getD i 0))) : Nt w (some x) (zs.take len) := by
 refine ⟨fun i hi => ?_⟩
 rw [List.length_take] at hi
 have h0 := hc 0 (by omega)
 obtain ⟨b, off, spot⟩ := x
 have hs : spot = none := by simpa [Addr.add] using World.cell?_spot h0
 subst hs
 refine ⟨b, off, rfl, ?_⟩
 have := hc i (by omega)
 rw [Addr.add_lit] at this
 rw [this]
 simp [List.getD, show i < len by omega]
end Go.Proofs.YtmbbflfknldaoaaGreatDoor
