import Derived.Test.YtcjgmiilfjjbcaaGreatDoorSrE
namespace Go.Proofs.YtcjgmiilfjjbcaaGreatDoor
open Go.RowKit

set_option maxHeartbeats 2000000 in
set_option maxRecDepth 100000 in
theorem writeByte_any (B b : Nat) (bs : List Value) (c : Int) (w : World) (h : Bld w B b bs) (hlen : bs.length + 1 ≤ 140737488355328) (hBw : B ≤ w.heap.size) :
    Calls Tryz.prog 40 #[.pointer (some ⟨b, 0, none⟩), .int .u8 c] w fun e w' => e = .returned .nilIface ∧ Bld w' B b (bs ++ [.int .u8 c]) ∧ Below B w w' := by
  obtain ⟨i0, hi, hz0, hz1, hz2⟩ := info_parts info_u8
  have HC := hid_intro (copyCheck_any B b bs w h)
  clear h
  go_enter Tryz.func40, Tryz.ntmps40
  go_wp2_with fail
  refine HC.out.mono ?_
  rintro e w1 ⟨rfl, h1, hb1, _⟩
  obtain ⟨hB, v, hbk, hown, hne⟩ := h1
  have c0 : w1.cell? ⟨b, 0, none⟩ = some (.pointer (some ⟨b, 0, none⟩)) := by rw [Lib.cell_of_heap hbk]; rfl
  have c1 : w1.cell? ⟨b, 1, none⟩ = some v := by rw [Lib.cell_of_heap hbk]; rfl
  have hs1 := hb1.size
  go_wp2_with (at_builtin; refine wpList_append_own _ rfl _ _ 32 rfl B 5 i0 (.int .u8 0) 1 1 Tryz.underlying32 hi hz0 hz1 hz2 rfl (by decide) _ bs.length _ rfl (hown.alloc _) ⟨w1.heap.size, 0, none⟩ 1 1 [.int .u8 c] rfl rfl (cell_one20 _ _ _) (by intro u hu; simp at hu; subst hu; rfl) (by unfold maxLen; omega) (by omega) (by simp; omega) ?_)
  intro v' w2 hown' hgrow _
  have ga := World.grownBy_alloc w1 (.cells #[.int .u8 c] 5) none
  have hbk2 := heap_keptS hbk ga
  have hb2 : w2.heap[b]? = some (.cells #[.pointer (some ⟨b, 0, none⟩), v] 52 (0, 0)) := by
    rw [hgrow.block b (Array.getElem?_eq_some_iff.1 hbk2).1 (fun e => hne e.symm)]
    exact hbk2
  have d0 : w2.cell? ⟨b, 0, none⟩ = some (.pointer (some ⟨b, 0, none⟩)) := by rw [Lib.cell_of_heap hb2]; rfl
  have d1 : w2.cell? ⟨b, 1, none⟩ = some v := by rw [Lib.cell_of_heap hb2]; rfl
  have f1 : w2.frozen? ⟨b, 1, none⟩ = false := Lib.frozen_of_heap hb2 1
  obtain ⟨ao, cap, rfl⟩ := own_shape20 hown'
  go_wp2
  go_ret
  refine ⟨rfl, .inr ?_, ?_⟩
  · exact Lib.BuilderAt.put (T := 52) (e := 5) hB hb2 (bs' := bs ++ [.int .u8 c]) (by simpa using hown') (by decide)
  · have h3 := hb1.alloc (by omega) (.cells #[.int .u8 c] 5)
    exact (h3.grown hgrow (by have := h3.size; omega) (fun k hk => (hown.lt k hk).1)).setCell (p := ⟨b, 1, none⟩) hB _
theorem byte_one (t : List UInt8) (c : UInt8) : Lib.byteCells t ++ [.int .u8 (c.toNat : Nat)] = Lib.byteCells (t ++ [c]) := by rw [Lib.byteCells_append]; rfl
theorem bld_below {w w' : World} {B b : Nat} {bs : List Value} (h : Bld w B b bs) (hg : w.grownBy w' none) : Bld w' B b bs := h.keptN hg
set_option maxHeartbeats 2000000 in
set_option maxRecDepth 100000 in
theorem writeLine_any (B b g c n : Nat) (T : List UInt8) (ws : List (List UInt8)) (w : World) (h : Bld w B b (Lib.byteCells T)) (hw : Wsl w g 0 ws) (hn : ws.length = n) (hc : n ≤ c) (hg : g < w.heap.size) (hn2 : n ≤ 2000000) (hl : T.length + (lnw ws).length ≤ 140737488355328) (hBw : B ≤ w.heap.size) :
    Calls Tryz.prog 19 #[.pointer (some ⟨b, 0, none⟩), .slice (some ⟨g, 0, none⟩) n c] w fun e w' => e = .returned (.tuple #[]) ∧ Bld w' B b (Lib.byteCells (T ++ lnw ws)) ∧ Below B w w' := by
  have hjl : (Lib.join ws [32]).length + 1 = (lnw ws).length := by unfold lnw; simp
  have hmap : (ws.map tstr).map (·.data.toList) = ws := by
    rw [List.map_map]
    have : ((fun x : ByteArray => x.data.toList) ∘ tstr) = id := by funext x; exact tstr_data x
    rw [this, List.map_id]
  have HJ : Hid (Calls Tryz.prog 39 #[.slice (some ⟨g, 0, none⟩) n c, .string ⟨#[32]⟩] w fun e w' => e = .returned (.string (tstr (Lib.join ws [32]))) ∧ w.grownBy w' none) := by
    have hh := join_call g 0 c (ws.map tstr) ⟨#[32]⟩ w (fun j x hx => by
      rw [List.getElem?_map] at hx
      cases e : ws[j]? with
      | none => rw [e] at hx; cases hx
      | some T => rw [e] at hx; cases hx; exact hw j T e) hg (by rw [List.length_map]; omega) (by rw [List.length_map]; omega) (by rw [hmap]; show (Lib.join ws [32]).length ≤ _; omega)
    rw [List.length_map, hn, hmap] at hh
    refine hh.mono ?_
    rintro e w' ⟨rfl, hb⟩
    exact ⟨rfl, grown_below hb (Nat.le_refl _)⟩
  have HB := hid_intro h
  have HTL : Hid (T.length + ((Lib.join ws [32]).length + 1) ≤ 140737488355328) := by show _ ≤ _; omega
  have HF : Hid ((T ++ Lib.join ws [32]) ++ [10] = T ++ lnw ws) := by show _ = _; unfold lnw; rw [List.append_assoc]
  clear h hw hn hc hg hl hjl hmap
  generalize Lib.join ws [32] = jn at *
  go_enter Tryz.func19, Tryz.ntmps19
  go_wp2_with fail
  refine HJ.out.mono ?_
  rintro en w1 ⟨rfl, hg1⟩
  have hs1 := hg1.size
  have HB1 := hid_intro (HB.out.keptN hg1)
  have B1 := hid_intro (below_grownS hg1 hBw)
  clear hg1
  go_wp2_with fail
  refine (writeString_any B b (Lib.byteCells T) (tstr jn) w1 HB1.out (by rw [tstr_size, Lib.byteCells_length]; have := HTL.out; omega) (by omega)).mono ?_
  rintro en w2 ⟨rfl, hb2, hbw2, _⟩
  rw [str_cells, ← Lib.byteCells_append] at hb2
  have hs2 := hbw2.size
  have HB2 := hid_intro hb2
  have B2 := hid_intro (below_transS B1.out hbw2)
  clear hb2 hbw2
  go_wp2_with fail
  refine (writeByte_any B b (Lib.byteCells (T ++ jn)) 10 w2 HB2.out (by rw [Lib.byteCells_length, List.length_append]; have := HTL.out; omega) (by omega)).mono ?_
  rintro en w3 ⟨rfl, hb3, hbw3⟩
  have h10 := byte_one (T ++ jn) 10
  have HB3 : Hid (Bld w3 B b (Lib.byteCells (T ++ lnw ws))) := by
    show Bld _ _ _ _
    rw [← HF.out, ← h10]
    exact hb3
  have B3 := hid_intro (below_transS B2.out hbw3)
  clear hb3 hbw3 h10
  go_wp2
  go_end0
  exact ⟨rfl, HB3.out, B3.out⟩

/-! Print. -/
def prl : List UInt8 → List Opq → Except Int (List UInt8)
  | t, [] => if 1048576 < t.length then .error 234 else .ok t
  | t, o :: l => if 1048576 < t.length + lsz o then .error 234 else prl (t ++ lnw (stw o)) l
/-- A script, printed. -/
def prt (n : Int) (l : List Opq) : Except Int (List UInt8) := if jdg23 n l = 0 then prl (lnw [ttw, Lib.itoa n]) l else .error (jdg23 n l)
def PrP (w : World) (r : Except Int (List UInt8)) (en : Ending) (w' : World) : Prop := w.grownBy w' none ∧ ((∃ t, r = .ok t ∧ en = .returned (.tuple #[.string (tstr t), .int .i64 0])) ∨ ∃ e, r = .error e ∧ e ≠ 0 ∧ en = .returned (.tuple #[.string ⟨#[]⟩, .int .i64 e]))
def sml (ws : List (List UInt8)) : Nat := (ws.map fun x => x.length + 1).sum
theorem join_le (ws : List (List UInt8)) : (Lib.join ws [32]).length ≤ sml ws := by
  cases ws with
  | nil => simp [Lib.join_nil]
  | cons x r =>
    rw [Lib.join_cons, List.length_append]
    have : ∀ r : List (List UInt8), (Lib.joinTail [32] r).length = sml r := by
      intro r
      induction r with
      | nil => rfl
      | cons y r ih =>
        unfold Lib.joinTail sml at *
        simp only [List.map_cons, List.flatten_cons, List.length_append, List.sum_cons, ih]
        simp
        omega
    rw [this]
    unfold sml
    simp
theorem sml_app (a b : List (List UInt8)) : sml (a ++ b) = sml a + sml b := by unfold sml; simp
theorem hx_le (b : List Int) : (hx b).length ≤ 2 * b.length + 1 := by
  have : ∀ b : List Int, (hxs b).length = 2 * b.length := by
    intro b
    induction b with
    | nil => rfl
    | cons x b ih => rw [hxs]; simp [ih]; omega
  unfold hx
  split
  · simp
  · rw [this]; omega
theorem sml_bound {A : Type} (f : A → List UInt8) (k : Nat) : ∀ l : List A, (∀ x ∈ l, (f x).length + 1 ≤ k) → sml (l.map f) ≤ k * l.length
  | [], _ => by simp [sml]
  | x :: l, h => by
    have h1 := h x List.mem_cons_self
    have h2 := sml_bound f k l (fun y hy => h y (List.mem_cons_of_mem _ hy))
    unfold sml at *
    simp only [List.map_cons, List.sum_cons, List.length_cons, Nat.mul_add, Nat.mul_one]
    omega
theorem wlt_le (o : Opq) (c : UInt8) (hm : lsz o ≤ 1048576) (hN : ∀ n, nvl o c = some n → smn n = true) : sml (wlt o c) ≤ 2097154 := by
  unfold wlt
  cases h : nvl o c with
  | some n =>
    obtain ⟨h0, h1⟩ := smn_le (hN n h)
    have := itoa_len n (by omega) (by omega)
    simp [sml]; omega
  | none =>
    cases h2 : bvl o c with
    | none => simp [sml]
    | some b =>
      have hb := hx_le b
      have : b.length ≤ lsz o := by
        unfold bvl at h2
        unfold lsz
        split at h2
        · cases h2; omega
        · split at h2
          · cases h2; omega
          · split at h2
            · cases h2; omega
            · cases h2
      simp [sml]; omega
theorem flat_le (o : Opq) (hm : lsz o ≤ 1048576) : ∀ fs : List UInt8, (∀ c ∈ fs, ∀ n, nvl o c = some n → smn n = true) → sml (fs.flatMap (wlt o)) ≤ 2097154 * fs.length
  | [], _ => by simp [sml]
  | c :: fs, h => by
    have h1 := wlt_le o c hm (h c List.mem_cons_self)
    have h2 := flat_le o hm fs (fun y hy => h y (List.mem_cons_of_mem _ hy))
    rw [List.flatMap_cons, sml_app, List.length_cons, Nat.mul_add, Nat.mul_one]
    omega
theorem stw_le (o : Opq) (hm : lsz o ≤ 1048576) (hk : 0 ≤ o.k ∧ o.k < 23) (hN : ∀ c ∈ fds o.k, ∀ n, nvl o c = some n → smn n = true) (hF : ∀ p ∈ o.f, -9223372036854775808 ≤ p.2 ∧ p.2 ≤ 9223372036854775807) : (lnw (stw o)).length ≤ 50000000 ∧ (stw o).length ≤ 2000000 := by
  have hfl : (fds o.k).length ≤ 4 := by
    have : ∀ k : Fin 23, (stT.getD k.1 ([], [])).2.length ≤ 4 := by decide
    exact this ⟨o.k.toNat, by omega⟩
  have hwl : (wrd o.k).length ≤ 8 := by
    have : ∀ k : Fin 23, (stT.getD k.1 ([], [])).1.length ≤ 8 := by decide
    unfold wrd
    rw [if_pos hk]
    exact this ⟨o.k.toNat, by omega⟩
  have h1 := flat_le o hm (fds o.k) hN
  have h2 := sml_bound fwd 22 o.f (fun p hp => by
    obtain ⟨q0, q1⟩ := hF p hp
    have := itoa_len p.2 q0 q1
    unfold fwd
    split
    · simp
    · split
      · simp
      · simp; omega)
  have h3 := join_le (stw o)
  have hfm : o.f.length ≤ 1048576 := by unfold lsz at hm; omega
  have h4 : sml (stw o) = (wrd o.k).length + 1 + (sml ((fds o.k).flatMap (wlt o)) + sml (o.f.map fwd)) := by
    rw [← sml_app]
    unfold stw sml
    simp
  have h5 : (fds o.k).length * 2097154 ≤ 4 * 2097154 := Nat.mul_le_mul_right _ hfl
  refine ⟨by unfold lnw; simp; omega, ?_⟩
  have hle : (stw o).length ≤ 1 + ((fds o.k).length + o.f.length) := by
    have : ∀ fs : List UInt8, (fs.flatMap (wlt o)).length ≤ fs.length := by
      intro fs
      induction fs with
      | nil => simp
      | cons c fs ih =>
        rw [List.flatMap_cons, List.length_append, List.length_cons]
        have : (wlt o c).length ≤ 1 := by
          unfold wlt
          cases nvl o c with
          | some n => simp
          | none => cases bvl o c <;> simp
        omega
    have := this (fds o.k)
    rw [stw, List.length_cons, List.length_append, List.length_map]
    omega
  omega
theorem jdS_ok {o : Opq} (h : jdS o = 0) : (0 ≤ o.k ∧ o.k < 23) ∧ (∀ c ∈ fds o.k, ∀ n, nvl o c = some n → smn n = true) ∧ (∀ p ∈ o.f, -9223372036854775808 ≤ p.2 ∧ p.2 ≤ 9223372036854775807) := by
  unfold jdS at h
  split at h
  · cases h
  rename_i hw
  split at h
  · cases h
  split at h
  · cases h
  rename_i h2
  refine ⟨?_, ?_, ?_⟩
  · unfold wrd at hw
    by_cases hh : 0 ≤ o.k ∧ o.k < 23
    · exact hh
    · rw [if_neg hh] at hw; exact absurd rfl hw
  · have : ∀ fs : List UInt8, jd2 o fs = 0 → ∀ c ∈ fs, ∀ n, nvl o c = some n → smn n = true := by
      intro fs
      induction fs with
      | nil => intro _ c hc; cases hc
      | cons x fs ih =>
        intro hj c hc n hn
        rw [jd2] at hj
        rcases List.mem_cons.1 hc with rfl | hc
        · rw [hn] at hj
          simp only at hj
          by_cases hs : smn n = true
          · exact hs
          · rw [if_neg hs] at hj; cases hj
        · cases hx : nvl o x with
          | none => rw [hx] at hj; exact ih hj c hc n hn
          | some y =>
            rw [hx] at hj
            simp only at hj
            by_cases hs : smn y = true
            · rw [if_pos hs] at hj; exact ih hj c hc n hn
            · rw [if_neg hs] at hj; cases hj
    exact this _ (by simpa using h2)
  · have : ∀ l : List (Int × Int), jd3 l = 0 → ∀ p ∈ l, -9223372036854775808 ≤ p.2 ∧ p.2 ≤ 9223372036854775807 := by
      intro l
      induction l with
      | nil => intro _ p hp; cases hp
      | cons x l ih =>
        intro hj p hp
        rw [jd3] at hj
        by_cases h0 : jdF x = 0
        · rw [if_pos h0] at hj
          rcases List.mem_cons.1 hp with rfl | hp
          · unfold jdF at h0
            split at h0
            · split at h0
              · rename_i hz; rw [hz]; omega
              · cases h0
            · split at h0
              · split at h0
                · rename_i hs; have := smn_le hs; omega
                · cases h0
              · cases h0
          · exact ih hj p hp
        · rw [if_neg h0] at hj; exact absurd hj h0
    exact this _ h
theorem jdA_ok {l : List Opq} (h : jdA l = 0) : ∀ o ∈ l, jdS o = 0 := by
  induction l with
  | nil => intro o ho; cases ho
  | cons x l ih =>
    intro o ho
    rw [jdA] at h
    by_cases h0 : jdS x = 0
    · rw [if_pos h0] at h
      rcases List.mem_cons.1 ho with rfl | ho
      · exact h0
      · exact ih h o ho
    · rw [if_neg h0] at h; exact absurd h h0
end Go.Proofs.YtcjgmiilfjjbcaaGreatDoor
