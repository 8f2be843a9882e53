import Derived.Test.YtiljdhhfhjhhiaaDp5
import Derived.Test.YtiljdhhfhjhhiaaDkP
namespace Go.Proofs.Ytiljdhhfhjhhiaa
open Go.RowKit Go.MuLone

/-- Both disks went on (as Pp.both, the blocks named, the place's contents anew). -/
theorem Pp.both3 {w0 w w1 w2 w3 : World} {P B R : Nat} {F1 F2 F1' F2' : Nat → Prop} {v : Value} {zs zs' : List Int} {s s' : Ds} {row : Option Nat} (h : Pp w0 w P B R F1 F2 v zs s) (i1 : ∀ k, F1' k → Nf F1 w w1 k) (z1 : Dz w1 B F1' s') (k1 : Kp w w1 F1)
    (g2 : w1.grownBy w2 row) (hrow : ∀ g, row = some g → w0.heap.size ≤ g ∧ g ≠ P ∧ ¬ F1' g ∧ ¬ F2 g) (o2 : w2.ownsRow w0.heap.size 5 1 v zs'.length (zs'.map (Value.int .u8))) (i2 : ∀ k, F2' k → Nf F2 w2 w3 k) (z3 : Rz w3 R F2' s') (k3 : Kp w2 w3 F2) : Pp w0 w3 P B R F1' F2' v zs' s' := by
  have s1 := k1.size
  have s2 := g2.size
  have s0 := h.gr.size
  have hP1 : w1.heap[P]? = w.heap[P]? := k1.block P h.lt (fun e => (h.f1 P e).2.1 rfl)
  have hP2 : w2.heap[P]? = w1.heap[P]? := g2.block P (Nat.lt_of_lt_of_le h.lt s1) (fun e => (hrow P e.symm).2.1 rfl)
  have hP3 : w3.heap[P]? = w2.heap[P]? := k3.block P (by have := h.lt; omega) (fun e => (h.f2 P e).2.1 rfl)
  have hv : ∀ q, w.heap.size ≤ q → v.ownBlock ≠ some q := fun q hq e => by have := (h.own.lt q e).2; omega
  refine ⟨by rw [hP3, hP2, hP1]; exact h.bx, ?_, z3, owns_same o2 (fun g hg => k3.block g (o2.lt g hg).2 (fun e => (h.f2 g e).2.2 hg)), ?_, fun q hq => ?_, fun q hq => ?_, h.gp, h.vp⟩
  · have d2 := z1.kept g2 (fun k e hf => (hrow k e).2.2.1 hf)
    refine d2.kp k3 (fun q hq hf2 => ?_)
    rcases i1 q hq with e | e
    · exact (h.f1 q e).2.2.2 hf2
    · have := h.rz.low q hf2; omega
  · have g1 := Kp.new h.gr k1 (fun q e => (h.f1 q e).1)
    have ga : w0.grownBy w2 none := ⟨g2.os.trans g1.os, g2.tape.trans g1.tape, g2.output.trans g1.output, Nat.le_trans g1.size g2.size, fun q hq hn => (g2.block q (Nat.lt_of_lt_of_le hq g1.size) (fun e => by have := (hrow q e.symm).1; omega)).trans (g1.block q hq hn)⟩
    exact Kp.new ga k3 (fun q e => (h.f2 q e).1)
  · rcases i1 q hq with e | e
    · obtain ⟨a1, a2, a3, a4⟩ := h.f1 q e
      refine ⟨a1, a2, a3, fun x => (i2 q x).elim a4 (fun y => by have := h.dz.low q e; omega)⟩
    · exact ⟨by omega, fun e' => by have := h.lt; omega, hv q e.1, fun x => (i2 q x).elim (fun y => by have := h.rz.low q y; omega) (fun y => by omega)⟩
  · rcases i2 q hq with e | e
    · exact h.f2 q e
    · exact ⟨by omega, fun e' => by have := h.lt; omega, hv q (by omega)⟩

/-- The place stands while the program's disk, and then new blocks, change. -/
theorem Pp.ownK {w0 w w1 w2 : World} {P B R : Nat} {F1 F2 : Nat → Prop} {v : Value} {zs : List Int} {s : Ds} {row : Option Nat} (h : Pp w0 w P B R F1 F2 v zs s) (k1 : Kp w w1 F1) (g2 : w1.grownBy w2 row) (hrow : ∀ g, row = some g → v.ownBlock ≠ some g) : w2.ownsRow w0.heap.size 5 1 v zs.length (zs.map (Value.int .u8)) :=
  owns_same h.own (fun g hg => by
    have hl := (h.own.lt g hg).2
    have := k1.size
    rw [g2.block g (by omega) (fun e => hrow g e.symm hg), k1.block g hl (fun e => (h.f1 g e).2.2.1 hg)])

/-- Both disks went on, one behind the other; nothing but new blocks between. -/
theorem Pp.both4 {w0 w w1 w2 w3 : World} {P B R : Nat} {F1 F2 F1' F2' : Nat → Prop} {v : Value} {zs : List Int} {s s' : Ds} (h : Pp w0 w P B R F1 F2 v zs s) (i1 : ∀ k, F1' k → Nf F1 w w1 k) (z1 : Dz w1 B F1' s') (k1 : Kp w w1 F1)
    (g2 : w1.grownBy w2 none) (i2 : ∀ k, F2' k → Nf F2 w2 w3 k) (z3 : Rz w3 R F2' s') (k3 : Kp w2 w3 F2) : Pp w0 w3 P B R F1' F2' v zs s' :=
  h.both3 i1 z1 k1 g2 (fun g e => by cases e) (h.ownK k1 g2 (fun g e => by cases e)) i2 z3 k3

/-- Another place: the pair's cell holds it. -/
theorem Pp.put {w0 w w' : World} {P B R : Nat} {F1 F2 : Nat → Prop} {v v1 : Value} {zs zs1 : List Int} {s : Ds} (h : Pp w0 w P B R F1 F2 v zs s) (hg : w.grownBy w' v.ownBlock) (ho : w'.ownsRow w0.heap.size 5 1 v1 zs1.length (zs1.map (Value.int .u8))) (hv : ∀ k, v1.ownBlock = some k → v.ownBlock = some k ∨ w.heap.size ≤ k) : Pp w0 (w'.setCell ⟨P, 2, none⟩ v1) P B R F1 F2 v1 zs1 s := by
  have hs := hg.size
  have hPn : some P ≠ v.ownBlock := fun e => h.vp e.symm
  have hP : w'.heap[P]? = _ := (hg.block P h.lt hPn).trans h.bx
  have gq := grown_cell w' P 2 v1
  have hv1 : v1.ownBlock ≠ some P := fun e => (hv P e).elim h.vp (fun y => by have := h.lt; omega)
  have b1 : ∀ k, F1 k → v.ownBlock ≠ some k := fun k e => (h.f1 k e).2.2.1
  have b2 : ∀ k, F2 k → v.ownBlock ≠ some k := fun k e => (h.f2 k e).2.2
  refine ⟨?_, ?_, ?_, ?_, ?_, fun k e => ?_, fun k e => ?_, h.gp, hv1⟩
  · rw [heap_setCell_same w' P 2 _ _ v1 hP]; rfl
  · exact (h.dz.kept hg (fun k e hf => b1 k hf e)).kept gq (fun k e hf => by have := Option.some.inj e; subst this; exact (h.f1 _ hf).2.1 rfl)
  · exact (h.rz.kept hg (fun k e hf => b2 k hf e)).kept gq (fun k e hf => by have := Option.some.inj e; subst this; exact (h.f2 _ hf).2.1 rfl)
  · exact ho.kept gq (.inr hv1)
  · have g1 : w0.grownBy w' none := ⟨hg.os.trans h.gr.os, hg.tape.trans h.gr.tape, hg.output.trans h.gr.output, Nat.le_trans h.gr.size hg.size, fun q hq hn => (hg.block q (Nat.lt_of_lt_of_le hq h.gr.size) (fun e => by have := (h.own.lt q e.symm).1; omega)).trans (h.gr.block q hq hn)⟩
    have gp := h.gp
    exact ⟨g1.os, g1.tape, g1.output, by simpa using g1.size, fun q hq hn => (gq.block q (Nat.lt_of_lt_of_le hq g1.size) (fun e => by have := Option.some.inj e; omega)).trans (g1.block q hq hn)⟩
  · obtain ⟨a1, a2, a3, a4⟩ := h.f1 k e
    exact ⟨a1, a2, fun e' => (hv k e').elim a3 (fun y => by have := h.dz.low k e; omega), a4⟩
  · obtain ⟨a1, a2, a3⟩ := h.f2 k e
    exact ⟨a1, a2, fun e' => (hv k e').elim a3 (fun y => by have := h.rz.low k e; omega)⟩

/-! One contract a call. -/
def Ds.wa (s : Ds) (i : Int) (n : Nat) : Int := if s.refuse i n = 0 then s.ans else s.refuse i n
def Ds.wrt (s : Ds) (i : Int) (n : Nat) (z : List Int) : Ds := if s.refuse i n = 0 then s.put i.toNat z else s
def Ds.sa (s : Ds) : Int := if s.off = true then 123 else if s.left = 1 then 123 else 0
def Ds.sy (s : Ds) : Ds := if s.off = true then s else if s.left = 1 then s.spend else s.sync
def Ds.ra (s : Ds) (i a x : Int) : Int := if i < 0 ∨ (s.L.length : Int) ≤ i then 121 else if a < 0 ∨ 4096 ≤ a ∨ x < 1 ∨ 255 < x then 124 else 0
def Ds.rt (s : Ds) (i a x : Int) : Ds := if i < 0 ∨ (s.L.length : Int) ≤ i then s else if a < 0 ∨ 4096 ≤ a ∨ x < 1 ∨ 255 < x then s else s.rot i.toNat a.toNat x

theorem refuse_yes {s : Ds} {i : Int} {n : Nat} (h : s.refuse i n = 0) : 0 ≤ i ∧ n = 4096 := by
  unfold Ds.refuse at h
  split at h
  · cases h
  · split at h
    · cases h
    · split at h
      · cases h
      · rename_i a _ b
        exact ⟨by omega, Decidable.not_not.1 b⟩

theorem dz_write_any {w : World} {B : Nat} {F : Nat → Prop} {s : Ds} (h : Dz w B F s) (i : Int) (ao : Option Addr) (n c : Nat) (z : List Int) (hz : Byt w ao n c z) (ha : ∀ ad, ao = some ad → ¬ F ad.block) (bz : Bt z) (hd : s.done < 1099511627776) (hl : s.left < 9223372036854775808) :
    Calls Try.prog 18 #[.pointer (some ⟨B, 0, none⟩), .int .i64 i, .slice ao n c] w fun e w' => e = .returned (.int .i64 (s.wa i n)) ∧ ∃ F', (∀ k, F' k → Nf F w w' k) ∧ Dz w' B F' (s.wrt i n z) ∧ Kp w w' F := by
  by_cases hr : s.refuse i n = 0
  · obtain ⟨i0, rfl⟩ := refuse_yes hr
    obtain ⟨j, rfl⟩ := Int.eq_ofNat_of_zero_le i0
    refine (dz_write h j ao c z hz ha bz hr hd hl).mono ?_
    rintro e w' ⟨rfl, h1, h2⟩
    unfold Ds.wa Ds.wrt
    rw [if_pos hr, if_pos hr]
    exact ⟨rfl, _, fun k e => e, by simpa using h1, h2⟩
  · refine (dz_write_no h i ao n c hr).mono ?_
    rintro e w' ⟨rfl, h1, h2⟩
    unfold Ds.wa Ds.wrt
    rw [if_neg hr, if_neg hr]
    exact ⟨rfl, _, fun k e => .inl e, h1, h2⟩
theorem rz_write_any {w : World} {B : Nat} {F : Nat → Prop} {s : Ds} (h : Rz w B F s) (i : Int) (ao : Option Addr) (n c : Nat) (z : List Int) (hz : Byt w ao n c z) (ha : ∀ ad, ao = some ad → 0 < n → ¬ F ad.block) (bz : Bt z) (hd : s.done < 1099511627776) (hl : s.left < 9223372036854775808) :
    Calls Try.prog 53 #[.pointer (some ⟨B, 0, none⟩), .int .i64 i, .slice ao n c] w fun e w' => e = .returned (.int .i64 (s.wa i n)) ∧ ∃ F', (∀ k, F' k → Nf F w w' k) ∧ Rz w' B F' (s.wrt i n z) ∧ Kp w w' F := by
  by_cases hr : s.refuse i n = 0
  · obtain ⟨i0, rfl⟩ := refuse_yes hr
    obtain ⟨j, rfl⟩ := Int.eq_ofNat_of_zero_le i0
    refine (rz_write h j ao c z hz (fun ad e => ha ad e (by omega)) bz hr hd hl).mono ?_
    rintro e w' ⟨rfl, h1, h2⟩
    unfold Ds.wa Ds.wrt
    rw [if_pos hr, if_pos hr]
    exact ⟨rfl, _, fun k e => e, by simpa using h1, h2⟩
  · refine (rz_write_no h hd i ao n c hr).mono ?_
    rintro e w' ⟨rfl, rfl⟩
    unfold Ds.wa Ds.wrt
    rw [if_neg hr, if_neg hr]
    exact ⟨rfl, _, fun k e => .inl e, h, Kp.refl _ _⟩
theorem dz_sync_any {w : World} {B : Nat} {F : Nat → Prop} {s : Ds} (h : Dz w B F s) (hd : s.done < 1099511627776) (hl : s.left < 9223372036854775808) :
    Calls Try.prog 27 #[.pointer (some ⟨B, 0, none⟩)] w fun e w' => e = .returned (.int .i64 s.sa) ∧ ∃ F', (∀ k, F' k → Nf F w w' k) ∧ Dz w' B F' s.sy ∧ Kp w w' F := by
  unfold Ds.sa Ds.sy
  by_cases ho : s.off = true
  · rw [if_pos ho, if_pos ho]
    refine (dz_sync_off h ho).mono ?_
    rintro e w' ⟨rfl, h1, h2⟩
    exact ⟨rfl, _, fun k e => .inl e, h1, h2⟩
  · rw [if_neg ho, if_neg ho]
    have ho' : s.off = false := by simpa using ho
    by_cases h1 : s.left = 1
    · rw [if_pos h1, if_pos h1]
      refine (dz_sync_fail h ho' h1 hd).mono ?_
      rintro e w' ⟨rfl, h1, h2⟩
      exact ⟨rfl, _, fun k e => .inl e, h1, h2⟩
    · rw [if_neg h1, if_neg h1]
      refine (dz_sync h ho' h1 hd hl).mono ?_
      rintro e w' ⟨rfl, h1, h2⟩
      exact ⟨rfl, _, fun k e => e, h1, h2⟩
theorem rz_sync_any {w : World} {B : Nat} {F : Nat → Prop} {s : Ds} (h : Rz w B F s) (hd : s.done < 1099511627776) (hl : s.left < 9223372036854775808) :
    Calls Try.prog 37 #[.pointer (some ⟨B, 0, none⟩)] w fun e w' => e = .returned (.int .i64 s.sa) ∧ ∃ F', (∀ k, F' k → Nf F w w' k) ∧ Rz w' B F' s.sy ∧ Kp w w' F := by
  unfold Ds.sa Ds.sy
  by_cases ho : s.off = true
  · rw [if_pos ho, if_pos ho]
    refine (rz_sync_off h ho).mono ?_
    rintro e w' ⟨rfl, rfl⟩
    exact ⟨rfl, _, fun k e => .inl e, h, Kp.refl _ _⟩
  · rw [if_neg ho, if_neg ho]
    have ho' : s.off = false := by simpa using ho
    by_cases h1 : s.left = 1
    · rw [if_pos h1, if_pos h1]
      refine (rz_sync_fail h ho' h1 hd).mono ?_
      rintro e w' ⟨rfl, h1, h2⟩
      exact ⟨rfl, _, fun k e => .inl e, h1, h2⟩
    · rw [if_neg h1, if_neg h1]
      refine (rz_sync h ho' h1 hd hl).mono ?_
      rintro e w' ⟨rfl, h1, h2⟩
      exact ⟨rfl, _, fun k e => e, h1, h2⟩
theorem dz_rot_any {w : World} {B : Nat} {F : Nat → Prop} {s : Ds} (h : Dz w B F s) (hd : s.done < 1099511627776) (i a x : Int) :
    Calls Try.prog 40 #[.pointer (some ⟨B, 0, none⟩), .int .i64 i, .int .i64 a, .int .i64 x] w fun e w' => e = .returned (.int .i64 (s.ra i a x)) ∧ ∃ F', (∀ k, F' k → Nf F w w' k) ∧ Dz w' B F' (s.rt i a x) ∧ Kp w w' F := by
  unfold Ds.ra Ds.rt
  by_cases h1 : i < 0 ∨ (s.L.length : Int) ≤ i
  · rw [if_pos h1, if_pos h1]
    refine (dz_rot_no h i a x h1).mono ?_
    rintro e w' ⟨rfl, h1, h2⟩
    exact ⟨rfl, _, fun k e => .inl e, h1, h2⟩
  · rw [if_neg h1, if_neg h1]
    by_cases h2 : a < 0 ∨ 4096 ≤ a ∨ x < 1 ∨ 255 < x
    · rw [if_pos h2, if_pos h2]
      refine (dz_rot_arg h i a x (by omega) h2).mono ?_
      rintro e w' ⟨rfl, h1, h2⟩
      exact ⟨rfl, _, fun k e => .inl e, h1, h2⟩
    · rw [if_neg h2, if_neg h2]
      obtain ⟨j, rfl⟩ := Int.eq_ofNat_of_zero_le (show 0 ≤ i by omega)
      obtain ⟨b, rfl⟩ := Int.eq_ofNat_of_zero_le (show 0 ≤ a by omega)
      refine (dz_rot h hd j b x (by omega) (by omega) (by omega)).mono ?_
      rintro e w' ⟨rfl, h1, h2⟩
      exact ⟨rfl, _, fun k e => .inl e, by simpa using h1, h2⟩
theorem rz_rot_any {w : World} {B : Nat} {F : Nat → Prop} {s : Ds} (h : Rz w B F s) (hd : s.done < 1099511627776) (i a x : Int) :
    Calls Try.prog 41 #[.pointer (some ⟨B, 0, none⟩), .int .i64 i, .int .i64 a, .int .i64 x] w fun e w' => e = .returned (.int .i64 (s.ra i a x)) ∧ ∃ F', (∀ k, F' k → Nf F w w' k) ∧ Rz w' B F' (s.rt i a x) ∧ Kp w w' F := by
  unfold Ds.ra Ds.rt
  by_cases h1 : i < 0 ∨ (s.L.length : Int) ≤ i
  · rw [if_pos h1, if_pos h1]
    refine (rz_rot_no h i a x h1).mono ?_
    rintro e w' ⟨rfl, rfl⟩
    exact ⟨rfl, _, fun k e => .inl e, h, Kp.refl _ _⟩
  · rw [if_neg h1, if_neg h1]
    by_cases h2 : a < 0 ∨ 4096 ≤ a ∨ x < 1 ∨ 255 < x
    · rw [if_pos h2, if_pos h2]
      refine (rz_rot_arg h i a x (by omega) h2).mono ?_
      rintro e w' ⟨rfl, rfl⟩
      exact ⟨rfl, _, fun k e => .inl e, h, Kp.refl _ _⟩
    · rw [if_neg h2, if_neg h2]
      obtain ⟨j, rfl⟩ := Int.eq_ofNat_of_zero_le (show 0 ≤ i by omega)
      obtain ⟨b, rfl⟩ := Int.eq_ofNat_of_zero_le (show 0 ≤ a by omega)
      refine (rz_rot h hd j b x (by omega) (by omega) (by omega)).mono ?_
      rintro e w' ⟨rfl, h1, h2⟩
      exact ⟨rfl, _, fun k e => e, by simpa using h1, h2⟩

/-- 'append(out, ts...)', and where the new slice lies. -/
theorem wpList_append_bytA {w : World} {ops : Array Oper} {rest : List Oper} {o : Oper} {a : Act} {Q : Exit → Act → World → Prop} (hgd : o.guard = none) (s x : Operand)
    (ho : o.op = .call { callee := .builtin .append, args := #[s, x], argTypes := #[22, 22] })
    (base : Nat) (v : Value) (n : Nat) (zs : List Int) (hs : a.eval s = v) (hown : w.ownsRow base 5 1 v n (zs.map (Value.int .u8)))
    (ao : Option Addr) (m c : Nat) (ts : List Int) (hx : a.eval x = .slice ao m c) (hb : Byt w ao m c ts) (h63 : n + m ≤ 140737488355328) (hbase : base ≤ w.heap.size)
    (h : ∀ v' w', w'.ownsRow base 5 1 v' (n + m) ((zs ++ ts).map (Value.int .u8)) → w.grownBy w' v.ownBlock → (v'.ownBlock = v.ownBlock ∨ v'.ownBlock = some w.heap.size) → wpList Try.prog ops Q rest (a.put o.dst v') w') : wpList Try.prog ops Q (o :: rest) a w := by
  obtain ⟨i0, hi, hz0, hz1, hz2⟩ := info_parts info_u8
  cases ao with
  | none =>
    obtain ⟨rfl, rfl⟩ := hb.nil rfl
    have ht : ts = [] := List.length_eq_zero_iff.1 hb.len
    subst ht
    refine wpList_append_own_none hgd s x 22 ho base 5 i0 1 Try.underlying22 hi v n _ hs hown hx ?_
    exact h v w (by rw [List.append_nil]; exact hown) (World.grownBy.refl _ _) (.inl rfl)
  | some ad =>
    refine wpList_plain hgd fun K hK => ?_
    obtain ⟨v', w', hrun, r1, r2, r3, r4⟩ := run_append_own_at (P := Try.prog) w base 22 o.type 5 i0 (.int .u8 0) 1 1 Try.underlying22 hi hz0 hz1 hz2 rfl (by decide) v n _ hown ad m c (ts.map (Value.int .u8)) (by rw [List.length_map, hb.len, Nat.mul_one]) (hb.cells ad rfl) (ints_oneCell _ _) (by unfold maxLen; omega) (by omega) hbase
    unfold Oper.wp
    simp only [execOp, ho, resolve, invoke, builtin, Sem.run_bind, Sem.run_pure, Result.andThen_ok, List.map_toArray, List.map_cons, List.map_nil, hs, hx, hrun]
    exact hK _ _ (h v' w' (by rw [List.map_append]; exact r1) r2 r4)
end Go.Proofs.Ytiljdhhfhjhhiaa
