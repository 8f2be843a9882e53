import Derived.Test.YtmdljegaggjnhaaChM
import Derived.Test.YtmdljegaggjnhaaBrG
import Derived.Test.YtmdljegaggjnhaaBrS
import Derived.Deep.WholeRow
namespace Go.Proofs.Ytmdljegaggjnhaa
open Go.RowKit

/-! ### An array of BodySize bytes, as a value -/

def agB (zs : List Int) : Value := .agg (zs.map (Value.int .u8)).toArray
theorem info_arrB : ((Try.prog.info? 56).bind (fun i => i.zero)).map (fun z => z.cells) = some ((List.replicate 4092 (Value.int .u8 0)).toArray) := by kernel_rfl
theorem size_arrB : (Try.prog.info? 56).map (fun i => i.size) = some 4092 := by kernel_rfl
theorem arrB_parts : ∃ i z, Try.prog.info? 56 = some i ∧ i.zero = some z ∧ z.cells = ((List.replicate 4092 (0 : Int)).map (Value.int .u8)).toArray := by
  obtain ⟨z, h1, h2⟩ := Option.map_eq_some_iff.1 info_arrB
  obtain ⟨i, h3, h4⟩ := Option.bind_eq_some_iff.1 h1
  exact ⟨i, z, h3, h4, by rw [List.map_replicate]; exact h2⟩
theorem wpList_alloc_arr {w : World} {ops : Array Oper} {rest : List Oper} {o : Oper} {a : Act} {Q : Exit → Act → World → Prop} (hgd : o.guard = none) (ho : o.op = .alloc 56) (Z : List Int) (hZ : Z = List.replicate 4092 0)
    (h : ∀ w', Rt w' w.heap.size 56 Z → w.grownBy w' none → w'.heap.size = w.heap.size + 1 → wpList Try.prog ops Q rest (a.put o.dst (.pointer (some ⟨w.heap.size, 0, none⟩))) w') : wpList Try.prog ops Q (o :: rest) a w := by
  obtain ⟨i, z, h1, h2, h3⟩ := arrB_parts
  refine wpList_plain hgd fun K hK => ?_
  unfold Oper.wp
  have hr : (execOp a.eval o).run Try.prog w = .ok (.value (.pointer (some ⟨w.heap.size, 0, none⟩))) (w.alloc (.cells z.cells 56)) := by
    simp [execOp, ho, Instr.alloc, zeroValue, typeInfo, newVar, newRow, h1, h2]
  rw [hr, Oper.upon_value]
  refine hK _ _ (h _ ?_ (World.grownBy_alloc w _ none) (by simp))
  rw [h3, hZ]
  exact heap_alloc_new w _
theorem wpList_load_arr {w : World} {ops : Array Oper} {rest : List Oper} {o : Oper} {a : Act} {Q : Exit → Act → World → Prop} (hgd : o.guard = none) (p : Operand) (ho : o.op = .load 56 p) (g : Nat) (zs : List Int) (hp : a.eval p = .pointer (some ⟨g, 0, none⟩)) (hr : Rt w g 56 zs) (hl : zs.length = 4092)
    (h : wpList Try.prog ops Q rest (a.put o.dst (agB zs)) w) : wpList Try.prog ops Q (o :: rest) a w := by
  refine wpList_plain hgd fun K hK => ?_
  unfold Oper.wp
  have hv := run_loadVar_row (P := Try.prog) w g 56 56 _ (0, 0) _ hr Try.underlying56 rfl (by rw [size_arrB]; simp [hl])
  have hr : (execOp a.eval o).run Try.prog w = .ok (.value (agB zs)) w := by
    simp [execOp, ho, hp, Instr.loadAt, Instr.sureAddr, hv, agB, Result.andThen]
  rw [hr, Oper.upon_value]
  exact hK _ _ h
theorem wpList_store_arr {w : World} {ops : Array Oper} {rest : List Oper} {o : Oper} {a : Act} {Q : Exit → Act → World → Prop} (hgd : o.guard = none) (p x : Operand) (ho : o.op = .store 56 p x) (g : Nat) (cs zs : List Int) (hp : a.eval p = .pointer (some ⟨g, 0, none⟩)) (hx : a.eval x = agB zs) (hr : Rt w g 56 cs) (hl : cs.length = 4092) (hz : zs.length = 4092)
    (h : ∀ w', Rt w' g 56 zs → w.grownBy w' (some g) → w'.heap.size = w.heap.size → wpList Try.prog ops Q rest (a.put o.dst undef) w') : wpList Try.prog ops Q (o :: rest) a w := by
  refine wpList_plain hgd fun K hK => ?_
  unfold Oper.wp
  have hv := run_storeVar_row (P := Try.prog) w g 56 56 _ (zs.map (Value.int .u8)).toArray hr (by rw [size_arrB]; simp [hz]) (by simp [hl, hz]) (by simp [Value.oneCell'])
  have hr2 : (execOp a.eval o).run Try.prog w = .ok .skip (w.setRow g (zs.map (Value.int .u8)).toArray) := by
    simp [execOp, ho, hp, hx, Instr.storeAt, Instr.sureAddr, hv, agB, Result.andThen]
  rw [hr2, Oper.upon_skip]
  have hro : Rp w (w.setRow g (zs.map (Value.int .u8)).toArray) g 56 (zs.map (Value.int .u8)) := ⟨setRow_heap w g _ _ _ _ hr, fun k hk => setRow_other w g k _ hk, by simp [World.setRow], rfl, rfl, rfl⟩
  exact hK _ _ (h _ hro.row hro.grown hro.size)

/-! ### The judges -/

def pgI (x : Int) : Int := if x ≤ 512 ∨ 262144 < x then 0 else (x + 4085 - 1) / 4085
theorem pgI_nat (n : Nat) : pgI (n : Int) = ((pg n : Nat) : Int) := by
  unfold pgI pg
  by_cases h : n ≤ 512 ∨ 262144 < n
  · rw [if_pos (by omega), if_pos h]; rfl
  · rw [if_neg (by omega), if_neg h]; omega
set_option maxHeartbeats 400000 in
theorem pages_any (x : Int) (w : World) : Calls Try.prog 10 #[.int .i64 x] w fun en w' => en = .returned (.int .i64 (pgI x)) ∧ w' = w := by
  by_cases h1 : x ≤ 512
  · have e : Hid (pgI x = 0) := by show _ = _; unfold pgI; rw [if_pos (.inl h1)]
    go_enter Try.func10, Try.ntmps10
    go_wp2
    go_ret
    exact ⟨by rw [e.out]; rfl, rfl⟩
  · by_cases h2 : 262144 < x
    · have e : Hid (pgI x = 0) := by show _ = _; unfold pgI; rw [if_pos (.inr h2)]
      go_enter Try.func10, Try.ntmps10
      go_wp2
      go_ret
      exact ⟨by rw [e.out]; rfl, rfl⟩
    · have e : Hid (pgI x = (x + 4085 - 1) / 4085) := by show _ = _; unfold pgI; rw [if_neg (by omega)]
      go_enter Try.func10, Try.ntmps10
      go_wp2
      go_ret
      exact ⟨by rw [e.out]; rfl, rfl⟩
set_option maxHeartbeats 400000 in
theorem refPages_any (x : Int) (w : World) : Calls Try.prog 11 #[.int .i64 x] w fun en w' => en = .returned (.int .i64 (pgI x)) ∧ w' = w := by
  by_cases h1 : x ≤ 512
  · have e : Hid (pgI x = 0) := by show _ = _; unfold pgI; rw [if_pos (.inl h1)]
    go_enter Try.func11, Try.ntmps11
    go_wp2
    go_ret
    exact ⟨by rw [e.out]; rfl, rfl⟩
  · by_cases h2 : 262144 < x
    · have e : Hid (pgI x = 0) := by show _ = _; unfold pgI; rw [if_pos (.inr h2)]
      go_enter Try.func11, Try.ntmps11
      go_wp2
      go_ret
      exact ⟨by rw [e.out]; rfl, rfl⟩
    · have e : Hid (pgI x = (x - 1) / 4085 + 1) := by show _ = _; unfold pgI; rw [if_neg (by omega)]; omega
      go_enter Try.func11, Try.ntmps11
      go_wp2
      go_ret
      exact ⟨by rw [e.out]; rfl, rfl⟩

set_option maxHeartbeats 400000 in
theorem wrongNo_any (x : Int) (w : World) : Calls Try.prog 35 #[.int .i64 x] w fun en w' => en = .returned (.bool (!inR x)) ∧ w' = w := by
  by_cases h1 : x < 2
  · have e : Hid (inR x = false) := by show _ = _; simp [inR]; omega
    go_enter Try.func35, Try.ntmps35
    go_wp2
    go_ret
    exact ⟨by rw [e.out]; rfl, rfl⟩
  · by_cases h2 : 524287 ≤ x
    · have e : Hid (inR x = false) := by show _ = _; simp [inR]; omega
      go_enter Try.func35, Try.ntmps35
      go_wp2
      go_ret
      exact ⟨by rw [e.out]; rfl, rfl⟩
    · have e : Hid (inR x = true) := by show _ = _; simp [inR]; omega
      go_enter Try.func35, Try.ntmps35
      go_wp2
      go_ret
      exact ⟨by rw [e.out]; rfl, rfl⟩
set_option maxHeartbeats 400000 in
theorem wrongNext_any (x : Int) (w : World) : Calls Try.prog 29 #[.int .i64 x] w fun en w' => en = .returned (.bool (!nOk x)) ∧ w' = w := by
  by_cases h1 : x = 0
  · have e : Hid (nOk x = true) := by show _ = _; simp [nOk, h1]
    have h2 : (x == 0) = true := by simp [h1]
    have h3 : ¬ x ≠ 0 := by simp [h1]
    go_enter Try.func29, Try.ntmps29
    go_wp2
    go_ret
    exact ⟨by rw [e.out]; rfl, rfl⟩
  · have e : Hid (nOk x = inR x) := by show _ = _; simp [nOk, h1]
    have h2 : (x != 0) = true := by simp [h1]
    have h3 : (x == 0) = false := by simp [h1]
    go_enter Try.func29, Try.ntmps29
    go_wp2_with fail
    refine (wrongNo_any x _).mono ?_
    rintro en w1 ⟨rfl, rfl⟩
    go_wp2
    go_ret
    exact ⟨by rw [e.out]; rfl, rfl⟩
set_option maxHeartbeats 400000 in
theorem refKid_any (x : Int) (w : World) : Calls Try.prog 32 #[.int .i64 x] w fun en w' => en = .returned (.bool (nOk x)) ∧ w' = w := by
  by_cases h1 : x = 0
  · have e : Hid (nOk x = true) := by show _ = _; simp [nOk, h1]
    have h2 : (x == 0) = true := by simp [h1]
    go_enter Try.func32, Try.ntmps32
    go_wp2
    go_ret
    exact ⟨by rw [e.out]; rfl, rfl⟩
  · have h4 : (x == 0) = false := by simp [h1]
    by_cases h2 : 2 ≤ x
    · by_cases h3 : x ≤ 524286
      · have e : Hid (nOk x = true) := by show _ = _; simp [nOk, inR, h2, h3]
        go_enter Try.func32, Try.ntmps32
        go_wp2
        go_ret
        exact ⟨by rw [e.out]; rfl, rfl⟩
      · have e : Hid (nOk x = false) := by show _ = _; simp [nOk, inR, h1, h2, h3]
        go_enter Try.func32, Try.ntmps32
        go_wp2
        go_ret
        exact ⟨by rw [e.out]; rfl, rfl⟩
    · have e : Hid (nOk x = false) := by show _ = _; simp [nOk, inR, h1, h2]
      go_enter Try.func32, Try.ntmps32
      go_wp2
      go_ret
      exact ⟨by rw [e.out]; rfl, rfl⟩
set_option maxHeartbeats 400000 in
theorem wrongCount_any (x : Int) (n full : Nat) (w : World) : Calls Try.prog 30 #[.int .i64 x, .int .i64 n, .int .i64 full] w fun en w' => en = .returned (.bool (cnt x n full)) ∧ w' = w := by
  by_cases h1 : full < n
  · have e : Hid (cnt x n full = true) := by show _ = _; simp [cnt, h1]
    have h2 : (full : Int) < (n : Int) := by omega
    go_enter Try.func30, Try.ntmps30
    go_wp2
    go_ret
    exact ⟨by rw [e.out]; rfl, rfl⟩
  · have h2 : ¬ (full : Int) < (n : Int) := by omega
    by_cases h3 : x = 0
    · subst h3
      have e : Hid (cnt 0 n full = false) := by show _ = _; simp [cnt, h1]
      go_enter Try.func30, Try.ntmps30
      go_wp2
      go_ret
      exact ⟨by rw [e.out]; rfl, rfl⟩
    · have h6 : (x != 0) = true := by simp [h3]
      have h7 : (x == 0) = false := by simp [h3]
      by_cases h4 : n < full
      · have e : Hid (cnt x n full = true) := by show _ = _; simp [cnt, h3, h4]
        have h5 : (n : Int) < (full : Int) := by omega
        go_enter Try.func30, Try.ntmps30
        go_wp2
        go_ret
        exact ⟨by rw [e.out]; rfl, rfl⟩
      · have e : Hid (cnt x n full = false) := by show _ = _; simp [cnt, h1, h4]
        have h5 : ¬ (n : Int) < (full : Int) := by omega
        go_enter Try.func30, Try.ntmps30
        go_wp2
        go_ret
        exact ⟨by rw [e.out]; rfl, rfl⟩

/-! ### cut, copyOf, begun -/

set_option maxHeartbeats 400000 in
theorem cut_any (b off m cap p k : Nat) (w : World) (h : p + k ≤ cap) (hc : cap ≤ 9223372036854775807) :
    Calls Try.prog 27 #[.slice (some ⟨b, off, none⟩) m cap, .int .i64 p, .int .i64 k] w fun en w' => (∃ q, en = .returned (.slice (some ⟨b, q, none⟩) k k) ∧ (0 < k → q = off + p)) ∧ w' = w := by
  by_cases hk : k = 0
  · subst hk
    go_enter Try.func27, Try.ntmps27
    go_wp2
    all_goals
      go_ret
      exact ⟨⟨_, rfl, fun h => by omega⟩, rfl⟩
  · have hk2 : ¬ p + k = p := by omega
    go_enter Try.func27, Try.ntmps27
    go_wp2
    go_ret
    exact ⟨⟨off + p, by simp, fun _ => rfl⟩, rfl⟩

theorem cut_at (b off m cap p k : Nat) (P : Int) (w : World) (hP : P = (p : Int)) (h : p + k ≤ cap) (hc : cap ≤ 9223372036854775807) :
    Calls Try.prog 27 #[.slice (some ⟨b, off, none⟩) m cap, .int .i64 P, .int .i64 k] w fun en w' => (∃ q, en = .returned (.slice (some ⟨b, q, none⟩) k k) ∧ (0 < k → q = off + p)) ∧ w' = w := by
  subst hP
  exact cut_any b off m cap p k w h hc
theorem splice_whole {cs zs : List Int} (h : zs.length = cs.length) : splice cs 0 zs = zs := by
  unfold splice
  rw [List.take_zero, List.nil_append, Nat.zero_add, h, List.drop_length, List.append_nil]
set_option maxHeartbeats 1000000 in
theorem copyOf_any (ao : Option Addr) (n cap : Nat) (zs : List Int) (w : World) (hb : Byt w ao n cap zs) (hn : n ≤ 140737488351232) :
    Calls Try.prog 26 #[.slice ao n cap] w fun en w' => en = .returned (.slice (some ⟨w.heap.size, 0, none⟩) n n) ∧ Rw w' w.heap.size zs ∧ w.grownBy w' none := by
  obtain ⟨i0, hi, hz0, hz1, hz2⟩ := info_parts info_u8
  have hl := hb.len
  have HB := hid_intro hb
  clear hb
  go_enter Try.func26, Try.ntmps26
  go_wp2_with (at_make; refine wpList_make_full _ rfl _ _ 22 rfl w.heap.size 5 i0 (.int .u8 0) 1 Try.underlying22 hi hz0 hz1 _ _ _ _ n rfl rfl rfl rfl ?b2 ?b3 (Nat.le_refl _) ?_)
  case b2 => rw [hz2]; omega
  case b3 => unfold maxLen; omega
  intro w1 hown hg1
  rw [made] at hown
  have R1 := hid_intro (show Rt w1 w.heap.size 5 (List.replicate n 0) from Rw.of_owns hown)
  have B1 := hid_intro (HB.out.keptN hg1)
  have G1 := hid_intro hg1
  clear hown hg1
  go_wp2_with (refine wpList_copy_rt rfl _ _ rfl _ _ _ _ _ _ rfl rfl w.heap.size 0 5 (List.replicate n 0) zs R1.out B1.out (Nat.le_refl _) (fun _ => rfl) (by rw [List.length_replicate]; omega) ?_)
  intro w2 hr2 hg2 hs2
  rw [splice_whole (by rw [List.length_replicate]; exact hl)] at hr2
  have R2 := hid_intro hr2
  have G2 := hid_intro (grown_new G1.out hg2 (Nat.le_refl _))
  clear hr2 hg2
  go_wp2
  go_ret
  exact ⟨rfl, R2.out, G2.out⟩

/-- The body so far: a head, zeros behind it. -/
def hz (k x n : Nat) : List Int := hd k x n ++ List.replicate 4085 0
theorem hz_len (k x n : Nat) : (hz k x n).length = 4092 := by unfold hz; rw [List.length_append, hd_len, List.length_replicate]
theorem results_arr {fn : Func} {p : Tmp} (h : fn.results = #[.cell p 56]) (tmps : Array Value) (w : World) (g : Nat) (zs : List Int) (hp : tmps.getD p undef = .pointer (some ⟨g, 0, none⟩)) (hr : Rt w g 56 zs) (hl : zs.length = 4092) :
    (results fn tmps).run Try.prog w = .ok (agB zs) w :=
  results_cell_row h tmps w g 56 _ (0, 0) _ hp hr Try.underlying56 rfl (by rw [size_arrB]; simp [hl])
theorem put_h2 (ao : Option Addr) (c : Nat) (zs : List Int) (x : Nat) (w : World) (hb : Byt w ao 1 c zs) (hx : x < 4294967296) :
    Calls Try.prog 37 #[.slice ao 1 c, .int .u32 x] w fun e w' => e = .returned (.slice (some ⟨w.heap.size, 0, none⟩) 5 5) ∧ Byt w' (some ⟨w.heap.size, 0, none⟩) 5 5 (zs ++ lb 4 x) ∧ w.grownBy w' none := by
  refine (put_u32 ao 1 c zs x w hb (by omega) hx).mono ?_
  rintro e w' ⟨rfl, h1, h2, h3⟩
  exact ⟨rfl, Byt.of_owns h1, h2⟩
theorem put_h3 (ao : Option Addr) (c : Nat) (zs : List Int) (x : Nat) (w : World) (hb : Byt w ao 5 c zs) (hx : x < 65536) :
    Calls Try.prog 47 #[.slice ao 5 c, .int .u16 x] w fun e w' => e = .returned (.slice (some ⟨w.heap.size, 0, none⟩) 7 7) ∧ Byt w' (some ⟨w.heap.size, 0, none⟩) 7 7 (zs ++ lb 2 x) ∧ w.grownBy w' none := by
  refine (put_u16 ao 5 c zs x w hb (by omega) hx).mono ?_
  rintro e w' ⟨rfl, h1, h2, h3⟩
  exact ⟨rfl, Byt.of_owns h1, h2⟩
theorem hz_splice {Z : List Int} (hZ : Z = List.replicate 4092 0) (k x n : Nat) (hk : k < 256) : splice Z 0 (lb 1 k ++ lb 4 x ++ lb 2 n) = hz k x n := by
  have e1 : lb 1 k ++ lb 4 x ++ lb 2 n = hd k x n := by
    unfold hd
    rw [List.append_assoc]
    show ((k % 256 : Nat) : Int) :: _ = _
    rw [Nat.mod_eq_of_lt hk]
    rfl
  rw [e1, hZ]
  unfold splice hz
  rw [List.take_zero, List.nil_append, Nat.zero_add, hd_len, List.drop_replicate]
set_option maxHeartbeats 1000000 in
set_option maxRecDepth 100000 in
theorem begun_any (k x n : Nat) (w : World) (hk : k < 256) (hx : x < 4294967296) (hn : n < 65536) :
    Calls Try.prog 31 #[.int .u8 k, .int .i64 x, .int .i64 n] w fun en w' => en = .returned (agB (hz k x n)) ∧ w.grownBy w' none := by
  have hwx : IntKind.u32.wrap (x : Int) = (x : Int) := by simp [IntKind.wrap, IntKind.bits, IntKind.signed]; omega
  have hwn : IntKind.u16.wrap (n : Int) = (n : Int) := by simp [IntKind.wrap, IntKind.bits, IntKind.signed]; omega
  obtain ⟨Z, hZ⟩ : ∃ Z : List Int, Z = List.replicate 4092 0 := ⟨_, rfl⟩
  have hZl : Z.length = 4092 := by rw [hZ, List.length_replicate]
  have HZ := hid_intro hZ
  have HZ2 := hid_intro (hz_splice hZ k x n hk)
  have HZ3 := hid_intro (hz_len k x n)
  clear hZ
  go_enter Try.func31, Try.ntmps31
  go_wp2_with (refine wpList_alloc_arr rfl rfl Z HZ.out ?_)
  intro w1 hr1 hg1 hs1
  have R1 := hid_intro hr1
  have G1 := hid_intro hg1
  have hs1' := hr1.lt
  clear hr1 hg1 hs1
  go_wp2_with fail
  refine (put_u8_nil k _ hk).mono ?_
  rintro en w2 ⟨rfl, hb2, hg2, _⟩
  have R2 := hid_intro (R1.out.keptN hg2)
  have G2 := hid_intro (grown_trans G1.out hg2)
  clear hg2 R1 G1
  go_wp2_with fail
  refine (put_h2 _ _ _ x _ hb2 hx).mono ?_
  rintro en w3 ⟨rfl, hb3, hg3⟩
  have R3 := hid_intro (R2.out.keptN hg3)
  have G3 := hid_intro (grown_trans G2.out hg3)
  clear hg3 R2 G2 hb2
  go_wp2_with fail
  refine (put_h3 _ _ _ n _ hb3 hn).mono ?_
  rintro en w4 ⟨rfl, hb4, hg4⟩
  have R4 := hid_intro (R3.out.keptN hg4)
  have G4 := hid_intro (grown_trans G3.out hg4)
  clear hg4 R3 G3 hb3
  have B4 := hid_intro hb4
  clear hb4
  go_wp2_with (refine wpList_alloc_arr rfl rfl Z HZ.out ?_)
  intro w5 hr5 hg5 hs5
  have R5 := hid_intro hr5
  have R5' := hid_intro (R4.out.keptN hg5)
  have G5 := hid_intro (grown_trans G4.out hg5)
  have B5 := hid_intro (B4.out.keptN hg5)
  have HS4 := hid_intro G4.out.size
  have HLT := hid_intro R4.out.lt
  clear hr5 hg5 hs5 R4 G4 B4
  go_wp2_with fail
  refine (cut_any w4.heap.size 0 4092 4092 0 7 _ (by omega) (by omega)).mono ?_
  rintro en w6 ⟨⟨q, rfl, hq⟩, rfl⟩
  have hq := hq (by omega)
  subst hq
  go_wp2_with (refine wpList_copy_rt rfl _ _ rfl _ _ _ _ _ _ rfl rfl w4.heap.size 0 56 Z (lb 1 k ++ lb 4 x ++ lb 2 n) R5.out B5.out (Nat.le_refl _) (fun _ => rfl) (by omega) ?_)
  intro w7 hr7 hg7 hs7
  have hr7' : Rt w7 w4.heap.size 56 (hz k x n) := by rw [← HZ2.out]; exact hr7
  have R7 := hid_intro hr7'
  have R7' := hid_intro (R5'.out.kept hg7 (fun e => by have := Option.some.inj e; have := HLT.out; omega))
  have G7 := hid_intro (grown_new G5.out hg7 HS4.out)
  clear hr7 hr7' hg7 hs7 R5 R5' G5 B5
  go_wp2_with (refine wpList_load_arr rfl _ rfl w4.heap.size (hz k x n) rfl R7.out HZ3.out (wpList_store_arr rfl _ _ rfl w.heap.size Z (hz k x n) rfl rfl R7'.out hZl HZ3.out ?_))
  intro w8 hr8 hg8 hs8
  have G8 := hid_intro (grown_new G7.out hg8 (Nat.le_refl _))
  go_wp2
  refine bodyPost_ret (results_arr rfl _ _ w.heap.size (hz k x n) rfl hr8 HZ3.out) rfl ?_
  exact ⟨rfl, G8.out⟩
end Go.Proofs.Ytmdljegaggjnhaa
