import Derived.Test.YtdoclmmghdaaaaaGreatDoorSrL
namespace Go.Proofs.YtdoclmmghdaaaaaGreatDoor
open Go.RowKit

/-! Lines, pure. -/
theorem lns_nl {a b : List UInt8} (h : (10 : UInt8) ∉ a) : lns (a ++ 10 :: b) = a :: lns b := by
  rw [lns_cut _ (by simp)]
  unfold cua cub
  rw [cutC_app h]
theorem lns_last {a : List UInt8} (h : (10 : UInt8) ∉ a) (h0 : a ≠ []) : lns a = [a] := by
  rw [lns_cut _ h0]
  unfold cua cub
  rw [cutC_none.2 h]
  rfl
theorem lns_clean : ∀ (T : List UInt8), ∀ l ∈ lns T, (10 : UInt8) ∉ l
  | [], l, hl => by cases hl
  | c :: T, l, hl => by
    have ih := lns_clean T
    rw [lns_cons] at hl
    split at hl
    · rcases List.mem_cons.1 hl with rfl | hl
      · simp
      · exact ih l hl
    · rename_i hc
      cases hT : lns T with
      | nil =>
        rw [hT] at hl
        simp only [List.mem_cons, List.not_mem_nil, or_false] at hl
        subst hl
        simp only [List.mem_cons, List.not_mem_nil, or_false]
        exact fun e => hc e.symm
      | cons x xs =>
        rw [hT] at hl ih
        rcases List.mem_cons.1 hl with rfl | hl
        · have := ih x List.mem_cons_self
          simp only [List.mem_cons, not_or]
          exact ⟨fun e => hc e.symm, this⟩
        · exact ih l (List.mem_cons_of_mem _ hl)
/-- Lines, each with its newline. -/
def flt23 (ls : List (List UInt8)) : List UInt8 := ls.flatMap fun l => l ++ [10]
theorem flt_cons (l : List UInt8) (ls : List (List UInt8)) : flt23 (l :: ls) = l ++ 10 :: flt23 ls := by unfold flt23; rw [List.flatMap_cons]; simp
theorem flt_snoc (l : List UInt8) (ls : List (List UInt8)) : flt23 (ls ++ [l]) = flt23 ls ++ (l ++ [10]) := by unfold flt23; rw [List.flatMap_append]; simp
theorem lns_flt : ∀ (ls : List (List UInt8)) (D : List UInt8), (∀ l ∈ ls, (10 : UInt8) ∉ l) → lns (flt23 ls ++ D) = ls ++ lns D
  | [], D, _ => rfl
  | l :: ls, D, h => by
    rw [flt_cons, List.append_assoc, List.cons_append, lns_nl (h l List.mem_cons_self), lns_flt ls D (fun x hx => h x (List.mem_cons_of_mem _ hx))]
    rfl
theorem flt_len : ∀ T : List UInt8, (flt23 (lns T)).length ≤ T.length + 1
  | [] => by simp [lns_nil, flt23]
  | c :: T => by
    have ih := flt_len T
    rw [lns_cons]
    split
    · rw [flt_cons]; simp; omega
    · cases hT : lns T with
      | nil => simp [flt23]
      | cons x xs =>
        rw [hT, flt_cons] at ih
        simp only
        rw [flt_cons]
        simp at ih ⊢
        omega
theorem flt_take (ls : List (List UInt8)) (k : Nat) : (flt23 (ls.take k)).length ≤ (flt23 ls).length := by
  conv => rhs; rw [← List.take_append_drop k ls]
  unfold flt23
  rw [List.flatMap_append, List.length_append]
  omega
/-- Where a fault stands. -/
theorem pll_at : ∀ (ls : List (List UInt8)) (no : Nat) (s : Option Sq) (k : Nat) (e : Int), pll ls no s = .error (k, e) → (k = 0 ∧ e = 230) ∨ (no ≤ k ∧ k < no + ls.length)
  | [], no, none, k, e, h => by rw [pll] at h; cases h; exact .inl ⟨rfl, rfl⟩
  | [], no, some s, k, e, h => by rw [pll] at h; cases h
  | l :: ls, no, s, k, e, h => by
    rw [pll_cons] at h
    split at h
    · rcases pll_at ls (no + 1) s k e h with q | q
      · exact .inl q
      · exact .inr ⟨by omega, by simp; omega⟩
    · split at h
      · rcases pll_at ls (no + 1) _ k e h with q | q
        · exact .inl q
        · exact .inr ⟨by omega, by simp; omega⟩
      · cases h; exact .inr ⟨Nat.le_refl _, by simp⟩
/-- What comes behind it matters not. -/
theorem pll_same : ∀ (ls : List (List UInt8)) (no : Nat) (s : Option Sq) (k : Nat) (e : Int) (rest : List (List UInt8)), pll ls no s = .error (k, e) → no ≤ k → 1 ≤ no → pll (ls.take (k + 1 - no) ++ rest) no s = .error (k, e)
  | [], no, none, k, e, rest, h, hk, h1 => by rw [pll] at h; cases h; omega
  | [], no, some s, k, e, rest, h, hk, _ => by rw [pll] at h; cases h
  | l :: ls, no, s, k, e, rest, h, hk, h1 => by
    rw [show k + 1 - no = (k - no) + 1 by omega, List.take_succ_cons, List.cons_append, pll_cons]
    rw [pll_cons] at h
    split at h
    · rename_i hw
      rw [if_pos hw]
      rcases pll_at ls (no + 1) s k e h with ⟨q, _⟩ | q
      · omega
      · rw [show k - no = k + 1 - (no + 1) by omega]
        exact pll_same ls (no + 1) s k e rest h q.1 (by omega)
    · rename_i hw
      rw [if_neg hw]
      cases ht : tke s (wrds (cua 35 l)) with
      | ok s' =>
        rw [ht] at h
        simp only at h ⊢
        rcases pll_at ls (no + 1) _ k e h with ⟨q, _⟩ | q
        · omega
        · rw [show k - no = k + 1 - (no + 1) by omega]
          exact pll_same ls (no + 1) _ k e rest h q.1 (by omega)
      | error x => rw [ht] at h; simp only at h ⊢; exact h
/-- What stands ahead of it is read. -/
theorem pll_ahead : ∀ (ls : List (List UInt8)) (no : Nat) (s : Option Sq) (k : Nat) (e : Int), pll ls no s = .error (k, e) → no ≤ k → 1 ≤ no → (∃ x, pll (ls.take (k - no)) no s = .ok x) ∨ pll (ls.take (k - no)) no s = .error (0, 230)
  | [], no, none, k, e, h, hk, h1 => by rw [pll] at h; cases h; omega
  | [], no, some s, k, e, h, hk, _ => by rw [pll] at h; cases h
  | l :: ls, no, s, k, e, h, hk, h1 => by
    by_cases hkn : k = no
    · rw [hkn, Nat.sub_self, List.take_zero]
      cases s with
      | none => right; rfl
      | some x => left; exact ⟨x, rfl⟩
    · rw [pll_cons] at h
      rw [show k - no = (k - (no + 1)) + 1 by omega, List.take_succ_cons, pll_cons]
      split at h
      · rename_i hw
        rw [if_pos hw]
        exact pll_ahead ls (no + 1) s k e h (by omega) (by omega)
      · rename_i hw
        rw [if_neg hw]
        cases ht : tke s (wrds (cua 35 l)) with
        | ok s' =>
          rw [ht] at h
          simp only at h ⊢
          exact pll_ahead ls (no + 1) _ k e h (by omega) (by omega)
        | error x => rw [ht] at h; simp only at h; cases h; exact absurd rfl hkn
/-- P23.8, pure. -/
theorem psc_fault {T other : List UInt8} {k : Nat} {e : Int} (h : psc T = .error (k, e)) (hT : T.length ≤ 60000) (ho : other.length ≤ 60000) (hk : 1 ≤ k) :
    k ≤ (lns T).length ∧ psc (flt23 ((lns T).take k) ++ other) = .error (k, e) ∧ ((∃ x, psc (flt23 ((lns T).take (k - 1))) = .ok x) ∨ psc (flt23 ((lns T).take (k - 1))) = .error (0, 230)) ∧ (flt23 ((lns T).take k) ++ other).length ≤ 120001 ∧ (flt23 ((lns T).take (k - 1))).length ≤ 60001 := by
  unfold psc at h
  rw [if_neg (by omega)] at h
  have hl := flt_len T
  have l1 := flt_take (lns T) k
  have l2 := flt_take (lns T) (k - 1)
  have hcl : ∀ j, ∀ l ∈ (lns T).take j, (10 : UInt8) ∉ l := fun j l hm => lns_clean T l (List.mem_of_mem_take hm)
  refine ⟨?_, ?_, ?_, by rw [List.length_append]; omega, by omega⟩
  · rcases pll_at _ _ _ _ _ h with q | q <;> omega
  · unfold psc
    rw [if_neg (by rw [List.length_append]; omega), lns_flt _ _ (hcl k)]
    have := pll_same (lns T) 1 none k e (lns other) h hk (by omega)
    rwa [show k + 1 - 1 = k by omega] at this
  · have e0 : lns (flt23 ((lns T).take (k - 1))) = (lns T).take (k - 1) := by
      have := lns_flt ((lns T).take (k - 1)) [] (hcl (k - 1))
      rwa [List.append_nil, lns_nil, List.append_nil] at this
    unfold psc
    rw [if_neg (by omega), e0]
    exact pll_ahead (lns T) 1 none k e h hk (by omega)
set_option maxHeartbeats 8000000 in
set_option maxRecDepth 100000 in
theorem lines_any (T : List UInt8) (w : World) (hT : T.length ≤ 60000) : Calls Tryz.prog 14 #[.string (tstr T)] w fun en w' => ∃ a c, en = .returned (.slice a (lns T).length c) ∧ w'.ownsRow w.heap.size 9 1 (.slice a (lns T).length c) (lns T).length (wv (lns T)) ∧ w.grownBy w' none := by
  obtain ⟨ip, hip, hp0, hp1, hp2⟩ := info_parts info_strS
  have hz := tstr_size T
  have HEX : Hid (∀ i k, (tstr T).extract i k = tstr ((T.drop i).take (k - i))) := fun i k => ext_mid T i k
  have HED : Hid (∀ k, (tstr T).extract k (tstr T).size = tstr (T.drop k)) := fun k => ext_drop T k
  have HAT : Hid (∀ i (h : i < (tstr T).size) (h2 : i < T.length), (tstr T)[i]'h = T[i]'h2) := fun i h h2 => by
    have := getD_data (tstr T) i h
    rw [tstr_data] at this
    rw [← this, List.getD, List.getElem?_eq_getElem h2]
    rfl
  generalize hs : tstr T = s at *
  clear hs
  have hsz : (s.size : Int) ≤ 60000 := by omega
  have HZ := hid_intro hz
  clear hz
  go_enter Tryz.func14, Tryz.ntmps14
  go_wp2
  go_loopw [3, 4, 5] (fun s3 s4 s5 wr => ∃ (fr i N : Nat) (ls : List (List UInt8)), fr ≤ i ∧ i ≤ s.size ∧ s4 = .int .i64 (fr : Nat) ∧ s5 = .int .i64 (i : Nat) ∧ w.grownBy wr none ∧ wr.ownsRow w.heap.size 9 1 s3 N (wv ls) ∧ ls.length = N ∧ N ≤ i ∧ lns T = ls ++ lns (T.drop fr) ∧ (10 : UInt8) ∉ (T.drop fr).take (i - fr)) (fun _ _ s5 _ => s.size - (intOf s5).toNat)
  case atStart => exact ⟨0, 0, 0, [], Nat.le_refl _, Nat.zero_le _, rfl, rfl, World.grownBy.refl _ _, ⟨rfl, .inl ⟨rfl, rfl⟩⟩, rfl, Nat.le_refl _, rfl, by simp⟩
  case round =>
    obtain ⟨fr, i, N, ls, hfi, his, rfl, rfl, hg, ho, hN, hNi, hl, hn⟩ := hrel
    have HG := hid_intro hg
    have HO := hid_intro ho
    have HL := hid_intro hl
    have HN := hid_intro hn
    have HNN := hid_intro hN
    obtain ⟨sa, sc, hs3⟩ := own_shape20 ho
    subst hs3
    clear hg ho hl hn hN
    by_cases hi : i < s.size
    · have e1 : (i : Int) < (s.size : Int) := by omega
      have e2 : (0 : Int) ≤ (i : Int) := by omega
      have hil : i < T.length := by have := HZ.out; omega
      have hat := HAT.out i hi hil
      have hwr : IntKind.i64.wrap ((i : Int) + 1) = (i : Int) + 1 := wrap_small _ (by omega) (by omega)
      have htk : (T.drop fr).take (i + 1 - fr) = (T.drop fr).take (i - fr) ++ [T[i]'hil] := by
        rw [show i + 1 - fr = (i - fr) + 1 by omega, List.take_add_one, List.getElem?_drop, show fr + (i - fr) = i by omega, List.getElem?_eq_getElem hil]
        rfl
      have HTK := hid_intro htk
      by_cases hc : s[i]'hi = 10
      · have hc2 : (((s[i]'hi).toNat : Int) == 10) = true := by rw [hc]; rfl
        have hdd : T.drop fr = (T.drop fr).take (i - fr) ++ 10 :: T.drop (i + 1) := by
          have h1 : (T.drop fr).drop (i - fr) = 10 :: T.drop (i + 1) := by
            rw [List.drop_drop, show fr + (i - fr) = i by omega, List.drop_eq_getElem_cons hil, ← hat, hc]
          conv => lhs; rw [← List.take_append_drop (i - fr) (T.drop fr), h1]
        have HL2 : Hid (lns T = (ls ++ [(T.drop fr).take (i - fr)]) ++ lns (T.drop (i + 1))) := by
          show _ = _
          have := lns_nl (b := T.drop (i + 1)) HN.out
          rw [← hdd] at this
          rw [HL.out, this]
          simp
        have hex := HEX.out fr i
        have HVS := hid_intro (wv_snoc ls ((T.drop fr).take (i - fr)))
        have f1 : (fr : Int) ≤ (i : Int) := by omega
        have f2 : (0 : Int) ≤ (fr : Int) := by omega
        have f3 : (i : Int) ≤ (s.size : Int) := by omega
        have hsg := HG.out.size
        clear hdd htk hat hc
        have HEQ := hid_intro hex
        clear hex
        generalize (T.drop fr).take (i - fr) = ln at *
        go_wp2_with (at_builtin; refine wpList_append_own _ rfl _ _ 40 rfl w.heap.size 9 ip (.string ⟨#[]⟩) 1 16 Tryz.underlying40 hip hp0 hp1 hp2 rfl (by decide) _ N _ rfl (HO.out.alloc _) ⟨wr.heap.size, 0, none⟩ 1 1 [.string (s.extract fr i)] rfl rfl (cell_one20 _ _ _) (by intro u hu; simp at hu; subst hu; rfl) (by unfold maxLen; omega) (by omega) (by simp; omega) ?_)
        intro v8 w8 ho8 hg8 _
        rw [HEQ.out] at ho8
        obtain ⟨qa, qc, hv8⟩ := own_shape20 ho8
        subst hv8
        have O8 := hid_intro ho8
        have G8 := hid_intro (grown_app20 HG.out HO.out (Nat.le_refl _) hg8)
        clear ho8 hg8
        go_wp2
        go_roundw
        case rel => exact ⟨i + 1, i + 1, N + 1, ls ++ [ln], Nat.le_refl _, by omega, by go_num, by go_num, G8.out, by rw [HVS.out]; exact O8.out, by rw [List.length_append, HNN.out]; rfl, by omega, HL2.out, by simp⟩
        case measure => simp [intOf]; omega
      · have hc2 : (((s[i]'hi).toNat : Int) == 10) = false := by
          rw [beq_eq_false_iff_ne]
          intro h
          apply hc
          apply UInt8.toNat_inj.1
          have : (s[i]'hi).toNat = 10 := by omega
          rw [this]
          rfl
        have HN2 : Hid ((10 : UInt8) ∉ (T.drop fr).take (i + 1 - fr)) := by
          show _ ∉ _
          rw [HTK.out, List.mem_append]
          rintro (h | h)
          · exact HN.out h
          · simp only [List.mem_cons, List.not_mem_nil, or_false] at h
            exact hc (hat.trans h.symm)
        clear htk hat hc
        go_wp2
        go_roundw
        case rel => exact ⟨fr, i + 1, N, ls, by omega, by omega, rfl, by go_num, HG.out, HO.out, HNN.out, by omega, HL.out, HN2.out⟩
        case measure => simp [intOf]; omega
    · obtain rfl : i = s.size := by omega
      have hfull : (T.drop fr).take (s.size - fr) = T.drop fr := List.take_of_length_le (by have := HZ.out; rw [List.length_drop]; omega)
      have hn2 := HN.out
      rw [hfull] at hn2
      by_cases hf : fr < s.size
      · have f1 : (fr : Int) < (s.size : Int) := by omega
        have f2 : (0 : Int) ≤ (fr : Int) := by omega
        have HL2 : Hid (lns T = ls ++ [T.drop fr]) := by
          show _ = _
          rw [HL.out, lns_last hn2 (fun e => by have h1 := congrArg List.length e; rw [List.length_drop] at h1; have h2 := HZ.out; simp at h1; omega)]
        have hed := HED.out fr
        have HVS := hid_intro (wv_snoc ls (T.drop fr))
        have hsg := HG.out.size
        clear hfull hn2
        have HEQ := hid_intro hed
        clear hed
        generalize T.drop fr = ln at *
        go_wp2_with (at_builtin; refine wpList_append_own _ rfl _ _ 40 rfl w.heap.size 9 ip (.string ⟨#[]⟩) 1 16 Tryz.underlying40 hip hp0 hp1 hp2 rfl (by decide) _ N _ rfl (HO.out.alloc _) ⟨wr.heap.size, 0, none⟩ 1 1 [.string (s.extract fr s.size)] rfl rfl (cell_one20 _ _ _) (by intro u hu; simp at hu; subst hu; rfl) (by unfold maxLen; omega) (by omega) (by simp; omega) ?_)
        intro v8 w8 ho8 hg8 _
        rw [HEQ.out] at ho8
        obtain ⟨qa, qc, hv8⟩ := own_shape20 ho8
        subst hv8
        have O8 := hid_intro ho8
        have G8 := hid_intro (grown_app20 HG.out HO.out (Nat.le_refl _) hg8)
        have HE : Hid ((ls ++ [ln]).length = N + 1) := by show _ = _; rw [List.length_append, HNN.out]; rfl
        clear ho8 hg8
        go_wp2
        go_ret
        refine ⟨qa, qc, ?_, ?_, G8.out⟩
        · rw [HL2.out, HE.out]; rfl
        · rw [HL2.out, HE.out, HVS.out]; exact O8.out
      · have hd0 : T.drop fr = [] := List.drop_of_length_le (by have := HZ.out; omega)
        have HL2 : Hid (lns T = ls) := by show _ = _; rw [HL.out, hd0, lns_nil, List.append_nil]
        have f1 : ¬ (fr : Int) < (s.size : Int) := by omega
        clear hfull hn2 hd0
        go_wp2
        go_ret
        refine ⟨sa, sc, ?_, ?_, HG.out⟩
        · rw [HL2.out, HNN.out]; rfl
        · rw [HL2.out, HNN.out]; exact HO.out
end Go.Proofs.YtdoclmmghdaaaaaGreatDoor
