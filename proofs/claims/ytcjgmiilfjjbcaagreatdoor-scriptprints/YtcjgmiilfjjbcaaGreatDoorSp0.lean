import Derived.Test.YtcjgmiilfjjbcaaGreatDoorGrpU
namespace Go.Proofs.YtcjgmiilfjjbcaaGreatDoor
open Go.RowKit

/-! The document's Print, pure. -/
theorem lnw_eq (w : List UInt8) (ws : List (List UInt8)) : lnw (w :: ws) = w ++ (ws.flatMap fun x => 32 :: x) ++ [10] := by
  unfold lnw
  rw [Lib.join_cons]
  congr 2
/-- The text of a letter's field. -/
def lfd (o : Opq) (c : UInt8) : List UInt8 :=
  if c = 65 then 32 :: Lib.itoa o.a else if c = 66 then 32 :: Lib.itoa o.b else if c = 67 then 32 :: Lib.itoa o.c
  else if c = 75 then 32 :: hx o.key else if c = 86 then 32 :: hx o.val else if c = 72 then 32 :: hx o.hi else o.f.flatMap fun p => 32 :: fwd p
/-- The document's line. -/
def lin (o : Opq) : List UInt8 := wrd o.k ++ (fds o.k).flatMap (lfd o) ++ [10]
theorem lfd_wlt {o : Opq} {c : UInt8} (h : c ∈ lt6) : (wlt o c).flatMap (fun x => 32 :: x) = lfd o c := by
  unfold lt6 at h
  simp only [List.mem_cons, List.not_mem_nil, or_false] at h
  rcases h with rfl | rfl | rfl | rfl | rfl | rfl <;> simp [wlt, nvl, bvl, lfd]
theorem flat_lfd {o : Opq} : ∀ fs : List UInt8, (∀ c ∈ fs, c ∈ lt6) → (fs.flatMap (wlt o)).flatMap (fun x => 32 :: x) = fs.flatMap (lfd o)
  | [], _ => rfl
  | c :: fs, h => by
    rw [List.flatMap_cons, List.flatMap_append, List.flatMap_cons, lfd_wlt (h c List.mem_cons_self), flat_lfd fs fun x hx => h x (List.mem_cons_of_mem _ hx)]
theorem lin_lnw {o : Opq} (hj : jdS o = 0) : lin o = lnw (stw o) := by
  have h := jdp hj
  have k0 := h.k0
  have k1 := h.k1
  obtain ⟨i, hi⟩ : ∃ i : Nat, o.k = i := ⟨o.k.toNat, by omega⟩
  have hfd : fds o.k = (stT.getD i ([], [])).2 := by unfold fds; rw [hi, Int.toNat_natCast]
  unfold stw lin
  rw [lnw_eq, List.flatMap_append]
  congr 2
  by_cases h16 : i = 16
  · have ef : fds o.k = [70] := by rw [hfd, h16]; rfl
    rw [ef]
    show [70].flatMap (lfd o) = ([70].flatMap (wlt o)).flatMap (fun x => 32 :: x) ++ _
    rw [List.flatMap_map]
    simp [wlt, nvl, bvl, lfd]
  · have hf : o.f = [] := (isz_of (o := o)).2.2.2.2.2.2 (h.z 70 (by decide) (by rw [hfd]; exact (fds_no ⟨i, by omega⟩ h16).2))
    rw [hf, List.map_nil, List.flatMap_nil, List.append_nil, flat_lfd _ (by rw [hfd]; exact fds_lt6 ⟨i, by omega⟩ h16)]
theorem hx_ge (b : List Int) : 2 * b.length ≤ (hx b).length := by
  unfold hx
  split
  · rename_i h; rw [h]; simp
  · rw [hxs_len]; exact Nat.le_refl _
theorem fwd_pos (p : Int × Int) : 1 ≤ (fwd p).length := by
  have := (fwd_clean p).1
  cases h : fwd p with
  | nil => exact absurd h this
  | cons a b => simp
theorem fat_ge : ∀ l : List (Int × Int), 2 * l.length ≤ (l.flatMap fun p => 32 :: fwd p).length
  | [] => by simp
  | p :: l => by
    have := fat_ge l
    have := fwd_pos p
    rw [List.flatMap_cons, List.length_append, List.length_cons, List.length_cons]
    omega
/-- How long a list of bytes is in hex. -/
def hln (b : List Int) : Nat := max 1 (2 * b.length)
theorem hx_hln (b : List Int) : (hx b).length = hln b := by
  unfold hx hln
  split
  · rename_i h; rw [h]; rfl
  · rename_i h
    rw [hxs_len]
    cases b with
    | nil => exact absurd rfl h
    | cons a c => simp; omega
/-- A line is as long as its lists. -/
theorem lin_ge {o : Opq} (hj : jdS o = 0) : lsz o ≤ (lin o).length ∧ hln o.key + hln o.val + hln o.hi ≤ (lin o).length + 3 ∧ o.f.length ≤ (lin o).length := by
  have h := jdp hj
  obtain ⟨z1, z2, z3, z4, z5, z6, z7⟩ := isz_of (o := o)
  have y4 := fun e => z4 (h.z 75 (by decide) e)
  have y5 := fun e => z5 (h.z 86 (by decide) e)
  have y6 := fun e => z6 (h.z 72 (by decide) e)
  have y7 := fun e => z7 (h.z 70 (by decide) e)
  have k0 := h.k0
  have k1 := h.k1
  clear z1 z2 z3 z4 z5 z6 z7 h hj
  have a4 := hx_hln o.key
  have a5 := hx_hln o.val
  have a6 := hx_hln o.hi
  have a7 := fat_ge o.f
  have b4 := hx_ge o.key
  have b5 := hx_ge o.val
  have b6 := hx_ge o.hi
  have n0 : hln [] = 1 := rfl
  obtain ⟨k, a, b, c, key, val, hi, f⟩ := o
  simp only at *
  unfold lsz lin
  simp only
  have hk : k = 1 ∨ k = 2 ∨ k = 3 ∨ k = 4 ∨ k = 5 ∨ k = 6 ∨ k = 7 ∨ k = 8 ∨ k = 9 ∨ k = 10 ∨ k = 11 ∨ k = 12 ∨ k = 13 ∨ k = 14 ∨ k = 15 ∨ k = 16 ∨ k = 17 ∨ k = 18 ∨ k = 19 ∨ k = 20 ∨ k = 21 ∨ k = 22 := by omega
  rcases hk with rfl | rfl | rfl | rfl | rfl | rfl | rfl | rfl | rfl | rfl | rfl | rfl | rfl | rfl | rfl | rfl | rfl | rfl | rfl | rfl | rfl | rfl <;>
    ( (try have y4 := y4 rfl); (try have y5 := y5 rfl); (try have y6 := y6 rfl); (try have y7 := y7 rfl)
      subst_vars
      simp [fds, stT, lfd, wrd] at *
      omega)
theorem prl_tot : ∀ (l : List Opq) (t : List UInt8), (∀ o ∈ l, jdS o = 0) → prl t l = if 1048576 < (t ++ l.flatMap lin).length then .error 234 else .ok (t ++ l.flatMap lin)
  | [], t, _ => by rw [prl, List.flatMap_nil, List.append_nil]
  | o :: l, t, h => by
    have hj := h o List.mem_cons_self
    have ih := prl_tot l (t ++ lin o) (fun x hx => h x (List.mem_cons_of_mem _ hx))
    have hg := (lin_ge hj).1
    rw [prl, ← lin_lnw hj, ih, List.flatMap_cons, ← List.append_assoc]
    split
    · rw [if_pos (by rw [List.length_append, List.length_append]; omega)]
    · rfl
/-- What is left of a step if the fields outside fs are taken away. -/
def kpq (o : Opq) (fs : List UInt8) : Opq := ⟨o.k, if 65 ∈ fs then o.a else 0, if 66 ∈ fs then o.b else 0, if 67 ∈ fs then o.c else 0, if 75 ∈ fs then o.key else [], if 86 ∈ fs then o.val else [], if 72 ∈ fs then o.hi else [], if 70 ∈ fs then o.f else []⟩
theorem kpq_nil (o : Opq) : kpq o [] = Opq.zero o.k := rfl
theorem jd1_iff (o : Opq) (fs : List UInt8) : jd1 o fs ltr = 0 ↔ kpq o fs = o := by
  constructor
  · intro h
    have hz := jd1_all h
    obtain ⟨z1, z2, z3, z4, z5, z6, z7⟩ := isz_of (o := o)
    have key : ∀ c ∈ ltr, c ∉ fs → isz o c = true := fun c hc hn => hz c hc (by simpa using hn)
    have e1 : (if 65 ∈ fs then o.a else 0) = o.a := by split; rfl; rename_i hh; exact (z1 (key 65 (by decide) hh)).symm
    have e2 : (if 66 ∈ fs then o.b else 0) = o.b := by split; rfl; rename_i hh; exact (z2 (key 66 (by decide) hh)).symm
    have e3 : (if 67 ∈ fs then o.c else 0) = o.c := by split; rfl; rename_i hh; exact (z3 (key 67 (by decide) hh)).symm
    have e4 : (if 75 ∈ fs then o.key else []) = o.key := by split; rfl; rename_i hh; exact (z4 (key 75 (by decide) hh)).symm
    have e5 : (if 86 ∈ fs then o.val else []) = o.val := by split; rfl; rename_i hh; exact (z5 (key 86 (by decide) hh)).symm
    have e6 : (if 72 ∈ fs then o.hi else []) = o.hi := by split; rfl; rename_i hh; exact (z6 (key 72 (by decide) hh)).symm
    have e7 : (if 70 ∈ fs then o.f else []) = o.f := by split; rfl; rename_i hh; exact (z7 (key 70 (by decide) hh)).symm
    unfold kpq
    rw [e1, e2, e3, e4, e5, e6, e7]
  · intro h
    refine jd1_zero fun c hc hn => ?_
    have hn' : c ∉ fs := by simpa using hn
    have e1 := congrArg Opq.a h
    have e2 := congrArg Opq.b h
    have e3 := congrArg Opq.c h
    have e4 := congrArg Opq.key h
    have e5 := congrArg Opq.val h
    have e6 := congrArg Opq.hi h
    have e7 := congrArg Opq.f h
    simp only [kpq] at e1 e2 e3 e4 e5 e6 e7
    unfold ltr at hc
    simp only [List.mem_cons, List.not_mem_nil, or_false] at hc
    rcases hc with rfl | rfl | rfl | rfl | rfl | rfl | rfl
    · rw [if_neg hn'] at e1; simp [isz, ← e1]
    · rw [if_neg hn'] at e2; simp [isz, ← e2]
    · rw [if_neg hn'] at e3; simp [isz, ← e3]
    · rw [if_neg hn'] at e4; simp [isz, ← e4]
    · rw [if_neg hn'] at e5; simp [isz, ← e5]
    · rw [if_neg hn'] at e6; simp [isz, ← e6]
    · rw [if_neg hn'] at e7; simp [isz, ← e7]
/-- The document's fault. -/
def dfl (o : Opq) : Int := if o.k < 1 ∨ 22 < o.k then 231 else if jd1 o (fds o.k) ltr ≠ 0 then 244 else if smn o.a = true ∧ smn o.b = true ∧ smn o.c = true then jd3 o.f else 232
theorem smn_zero : smn 0 = true := by decide
theorem wrd_nil (k : Int) : wrd k = [] ↔ (k < 1 ∨ 22 < k) := by
  constructor
  · intro h
    by_cases hk : 1 ≤ k ∧ k ≤ 22
    · exfalso
      obtain ⟨i, hi⟩ : ∃ i : Nat, k = i := ⟨k.toNat, by omega⟩
      have : ∀ i : Fin 23, i.val ≠ 0 → wrd (i.val : Int) ≠ [] := by decide
      rw [hi] at h
      exact this ⟨i, by omega⟩ (by simp only; omega) h
    · omega
  · intro h
    unfold wrd
    split
    · have : k = 0 := by omega
      rw [this]; rfl
    · rfl
theorem jd2_iff {o : Opq} {fs : List UInt8} (hk : kpq o fs = o) : jd2 o fs = 0 ↔ (smn o.a = true ∧ smn o.b = true ∧ smn o.c = true) := by
  constructor
  · intro h
    have : ∀ fs : List UInt8, jd2 o fs = 0 → ∀ c ∈ fs, ∀ n, nvl o c = some n → smn n = true := by
      intro fs
      induction fs with
      | nil => intro _ c hc; cases hc
      | cons x fs ih =>
        intro hj c hc n hn
        rw [jd2] at hj
        rcases List.mem_cons.1 hc with rfl | hc
        · rw [hn] at hj
          simp only at hj
          by_cases hs : smn n = true
          · exact hs
          · rw [if_neg hs] at hj; cases hj
        · cases hx : nvl o x with
          | none => rw [hx] at hj; exact ih hj c hc n hn
          | some y =>
            rw [hx] at hj
            simp only at hj
            by_cases hs : smn y = true
            · rw [if_pos hs] at hj; exact ih hj c hc n hn
            · rw [if_neg hs] at hj; cases hj
    have h2 := this fs h
    have e1 := congrArg Opq.a hk
    have e2 := congrArg Opq.b hk
    have e3 := congrArg Opq.c hk
    simp only [kpq] at e1 e2 e3
    refine ⟨?_, ?_, ?_⟩
    · by_cases hm : 65 ∈ fs
      · exact h2 65 hm _ rfl
      · rw [if_neg hm] at e1; rw [← e1]; exact smn_zero
    · by_cases hm : 66 ∈ fs
      · exact h2 66 hm _ rfl
      · rw [if_neg hm] at e2; rw [← e2]; exact smn_zero
    · by_cases hm : 67 ∈ fs
      · exact h2 67 hm _ rfl
      · rw [if_neg hm] at e3; rw [← e3]; exact smn_zero
  · rintro ⟨h1, h2, h3⟩
    exact jd2_zero h1 h2 h3 fs
/-- The two faults are one. -/
theorem dfl_jdS (o : Opq) : dfl o = jdS o := by
  unfold dfl jdS
  by_cases h1 : wrd o.k = []
  · rw [if_pos h1, if_pos ((wrd_nil _).1 h1)]
  · rw [if_neg h1, if_neg (fun h => h1 ((wrd_nil _).2 h))]
    by_cases e2 : jd1 o (fds o.k) ltr = 0
    · have h2 := (jd1_iff o (fds o.k)).1 e2
      have n1 : ¬ jd1 o (fds o.k) ltr ≠ 0 := fun h => h e2
      simp only [if_neg n1]
      by_cases h3 : smn o.a = true ∧ smn o.b = true ∧ smn o.c = true
      · rw [if_pos h3, if_neg (fun h => h ((jd2_iff h2).2 h3))]
      · rw [if_neg h3, if_pos (fun h => h3 ((jd2_iff h2).1 h))]
    · rw [if_pos e2, if_pos e2]
/-- The document's Print, as its loop goes. -/
def dpl : List Opq → List UInt8 → Bool → Except Int (List UInt8)
  | [], t, many => if many = true then .error 234 else .ok t
  | o :: l, t, many => if dfl o ≠ 0 then .error (dfl o) else if many = true then dpl l t many else dpl l (t ++ lin o) (decide (1048576 < t.length + (lin o).length))
theorem dpl_many : ∀ (l : List Opq) (t : List UInt8), dpl l t true = if jdA l = 0 then .error 234 else .error (jdA l)
  | [], t => by rw [dpl, if_pos rfl, jdA]; rfl
  | o :: l, t => by
    rw [dpl, jdA, dfl_jdS, dpl_many l t, if_pos rfl]
    by_cases h : jdS o = 0
    · rw [if_neg (fun e => e h), if_pos h]
    · rw [if_pos h, if_neg h, if_neg h]
theorem dpl_few : ∀ (l : List Opq) (t : List UInt8), t.length ≤ 1048576 → dpl l t false = if jdA l = 0 then (if 1048576 < (t ++ l.flatMap lin).length then .error 234 else .ok (t ++ l.flatMap lin)) else .error (jdA l)
  | [], t, h => by rw [dpl, jdA, if_neg (by decide), List.flatMap_nil, List.append_nil, if_pos rfl, if_neg (by omega)]
  | o :: l, t, h => by
    rw [dpl, jdA, dfl_jdS, if_neg (show ¬ (false = true) by decide)]
    by_cases hj : jdS o = 0
    · rw [if_neg (fun e => e hj), if_pos hj, List.flatMap_cons, ← List.append_assoc]
      by_cases hm : 1048576 < t.length + (lin o).length
      · rw [decide_eq_true hm, dpl_many]
        by_cases hA : jdA l = 0
        · rw [if_pos hA, if_pos hA, if_pos (by rw [List.length_append, List.length_append]; omega)]
        · rw [if_neg hA, if_neg hA]
      · rw [decide_eq_false hm]
        exact dpl_few l (t ++ lin o) (by rw [List.length_append]; omega)
    · rw [if_pos hj, if_neg hj, if_neg hj]
/-- The document's Print. -/
theorem dpr_prt (n : Int) (l : List Opq) : prt n l = if smn n = true then (if 2000 < l.length then .error 234 else dpl l (lnw [ttw, Lib.itoa n]) false) else .error 232 := by
  have hln : (lnw [ttw, Lib.itoa n]).length ≤ 1048576 ∨ ¬ smn n = true := by
    by_cases hs : smn n = true
    · left
      have hb := smn_le hs
      have := itoa_len n (by omega) (by omega)
      rw [lnw_eq]
      simp [ttw]
      omega
    · right; exact hs
  unfold prt jdg23
  by_cases hs : smn n = true
  · rw [if_pos hs]
    rcases hln with hln | hln
    · rw [if_pos hs]
      by_cases h2 : 2000 < l.length
      · rw [if_pos h2, if_pos h2]; rfl
      · rw [if_neg h2, if_neg h2, dpl_few l _ hln]
        by_cases hA : jdA l = 0
        · rw [if_pos hA, if_pos hA, prl_tot l _ (jdA_ok hA)]
        · rw [if_neg hA, if_neg hA]
    · exact absurd hs hln
  · rw [if_neg hs, if_neg hs]; rfl
end Go.Proofs.YtcjgmiilfjjbcaaGreatDoor
