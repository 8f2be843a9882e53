import Derived.Test.YtpoflmcmlnghhaaNv5
namespace Go.Proofs.Ytpoflmcmlnghhaa
open Go.RowKit Go.Maps

/-! ### what holds of a life -/
structure Lt (p : Po) (ls : Fin 4 → List Int) : Prop where
  ok : Ok p
  ris : Ris p.l
  nd : (ls 0).Nodup
  mine : ∀ m ∈ ls 0, 2 ≤ m ∧ m < p.c ∧ hasI p.l m = false
  len : (ls 2).length = (ls 1).length
  nf : (ls 1).Nodup
  mem : ∀ x, x ∈ (ls 1).zip (ls 2) ↔ x ∈ p.l
  pq : Pq p.q (ls 3)
theorem us_mem {p : Po} {x : Int} (h : x ∈ us p) : ∃ v, (x, v) ∈ p.l ∧ ∀ y ∈ p.q, v ≤ y.1 := by
  obtain ⟨y, hy, rfl, hq⟩ := mem_us.1 h
  exact ⟨y.2, hy, hq⟩
theorem ups_get (c : Int) {n i : Nat} (h : i < n) : (ups c n).getD i 0 = c + i := by
  simp [ups, List.getD, h]
theorem mem_ups (c : Int) (n : Nat) (x : Int) : x ∈ ups c n ↔ ∃ i : Nat, i < n ∧ x = c + i := by
  simp only [ups, List.mem_map, List.mem_range]
  exact ⟨fun ⟨i, h, e⟩ => ⟨i, h, e.symm⟩, fun ⟨i, h, e⟩ => ⟨i, h, e.symm⟩⟩
theorem ups_ris (c : Int) (n : Nat) : RisZ (ups c n) := by
  unfold RisZ ups
  rw [List.pairwise_map]
  exact List.pairwise_lt_range.imp fun {a b} h => by omega
theorem Lt.usl {p : Po} {ls : Fin 4 → List Int} (h : Lt p ls) {x : Int} (hx : x ∈ us p) : 2 ≤ x ∧ x < p.c ∧ hasI p.l x = true := by
  obtain ⟨v, hv, _⟩ := us_mem hx
  have := h.ok.l _ hv
  exact ⟨this.1, this.2, (hasI_iff _ _).2 ⟨_, hv, rfl⟩⟩
theorem Lt.tris {p : Po} {ls : Fin 4 → List Int} (h : Lt p ls) (n : Nat) : RisZ (tkn p n) := by
  unfold tkn RisZ
  rw [List.pairwise_append]
  refine ⟨(us_ris h.ris).sublist (List.take_sublist _ _), ups_ris _ _, fun a ha b hb => ?_⟩
  have h1 := h.usl (List.mem_of_mem_take ha)
  obtain ⟨i, _, rfl⟩ := (mem_ups _ _ _).1 hb
  omega
theorem tkG_lo {p : Po} {n i : Nat} (hi : i < n) (hu : i < (us p).length) : (tkn p n).getD i 0 = (us p).getD i 0 := by
  have e : i < ((us p).take n).length := by rw [List.length_take]; omega
  unfold tkn
  rw [List.getD_eq_getElem?_getD, List.getElem?_append_left e, List.getElem?_take_of_lt hi, List.getD_eq_getElem?_getD]
theorem tkG_hi {p : Po} {n i : Nat} (hi : i < n) (hu : (us p).length ≤ i) : (tkn p n).getD i 0 = p.c + ((i - (us p).length : Nat) : Int) := by
  have e : ((us p).take n).length = (us p).length := by rw [List.length_take]; omega
  unfold tkn
  rw [List.getD_eq_getElem?_getD, List.getElem?_append_right (by omega), e, ← List.getD_eq_getElem?_getD, ups_get _ (by omega)]
theorem ris_nodup {l : List Int} (h : RisZ l) : l.Nodup := h.imp fun {a b} hab => by omega
/-- What is next is not among what has been. -/
theorem next_new {l : List Int} (h : l.Nodup) {i : Nat} (hi : i < l.length) : l.getD i 0 ∉ l.take i := by
  have hd : (l.take (i + 1)).Nodup := h.sublist (List.take_sublist _ _)
  rw [take_snoc hi, List.nodup_append] at hd
  intro hm
  exact hd.2.2 _ hm _ (by simp) rfl
theorem Lt.gone {p : Po} {ls : Fin 4 → List Int} (h : Lt p ls) (n : Nat) : mayP p (gv ((ls 0).take n)) = true ∧ RisZ (gv ((ls 0).take n)) ∧ (∀ x ∈ gv ((ls 0).take n), x ∈ ls 0) := by
  obtain ⟨h1, h2, _⟩ := gv_ok ((ls 0).take n) (h.nd.sublist (List.take_sublist _ _))
  have h3 : ∀ x ∈ gv ((ls 0).take n), x ∈ ls 0 := fun x hx => List.mem_of_mem_take ((h2 x).1 hx)
  refine ⟨?_, h1, h3⟩
  unfold mayP noF
  rw [Bool.and_eq_true, List.all_eq_true, rp_iff]
  refine ⟨fun x hx => by rw [(h.mine x (h3 x hx)).2.2]; rfl, h1, fun x hx => ?_⟩
  have := h.mine x (h3 x hx)
  omega

/-! ### its numbers are given out, one after another -/
structure Lp (p : Po) (ls : Fin 4 → List Int) (T : List Int) (i : Nat) (ls' : Fin 4 → List Int) : Prop where
  m : ls' 0 = ls 0 ++ T.take i
  p3 : ls' 3 = ls 3
  len : (ls' 2).length = (ls' 1).length
  nf : (ls' 1).Nodup
  mem : ∀ x, x ∈ (ls' 1).zip (ls' 2) ↔ x ∈ p.l ∧ x.1 ∉ T.take i
theorem Lp.start {p : Po} {ls : Fin 4 → List Int} (h : Lt p ls) (T : List Int) : Lp p ls T 0 ls :=
  ⟨by simp, rfl, h.len, h.nf, fun x => by rw [h.mem]; simp⟩
theorem cut_at {l : List Int} {j : Nat} (h : j < l.length) : l = l.take j ++ l.getD j 0 :: l.drop (j + 1) := by
  have e : l.getD j 0 = l[j] := by simp [List.getD, List.getElem?_eq_getElem h]
  rw [e, ← List.drop_eq_getElem_cons h, List.take_append_drop]
theorem zip_cut {A B : List Int} {j : Nat} (hl : B.length = A.length) (hj : j < A.length) (hn : A.Nodup) (x : Int × Int) :
    x ∈ (A.take j ++ A.drop (j + 1)).zip (B.take j ++ B.drop (j + 1)) ↔ x ∈ A.zip B ∧ x.1 ≠ A.getD j 0 := by
  have e1 : (A.take j).length = (B.take j).length := by simp; omega
  have hA := cut_at hj
  have hB := cut_at (l := B) (j := j) (by omega)
  have e2 : A.zip B = (A.take j).zip (B.take j) ++ (A.getD j 0, B.getD j 0) :: (A.drop (j + 1)).zip (B.drop (j + 1)) := by
    conv => lhs; rw [hA, hB]
    rw [List.zip_append e1]
    rfl
  rw [List.zip_append e1, e2]
  rw [hA, List.nodup_append, List.nodup_cons] at hn
  simp only [List.mem_append, List.mem_cons]
  constructor
  · rintro (h | h)
    · refine ⟨.inl h, fun e => ?_⟩
      exact hn.2.2 _ (List.of_mem_zip h).1 _ (by simp) e
    · refine ⟨.inr (.inr h), fun e => ?_⟩
      exact hn.2.1.1 (by rw [← e]; exact (List.of_mem_zip h).1)
  · rintro ⟨h | rfl | h, e⟩
    · exact .inl h
    · exact (e rfl).elim
    · exact .inr h
theorem zip_at {A B : List Int} (hl : B.length = A.length) {x v : Int} (h : (x, v) ∈ A.zip B) (hn : A.Nodup) : ∃ j, j < A.length ∧ A.getD j 0 = x ∧ B.getD j 0 = v ∧ ∀ i, i < j → A.getD i 0 ≠ x := by
  obtain ⟨j, hj, e⟩ := List.mem_iff_getElem.1 h
  rw [List.length_zip] at hj
  rw [List.getElem_zip] at e
  injection e with e1 e2
  have hjA : j < A.length := by omega
  have hjB : j < B.length := by omega
  have a1 : A.getD j 0 = x := by simp [List.getD, List.getElem?_eq_getElem hjA, e1]
  refine ⟨j, hjA, a1, by simp [List.getD, List.getElem?_eq_getElem hjB, e2], fun i hi e3 => ?_⟩
  have h1 : A.getD j 0 ∉ A.take j := next_new hn hjA
  rw [a1, ← e3] at h1
  exact h1 (by
    rw [← zget_take (L := A) hi]
    exact nget_mem (by rw [List.length_take]; omega))
theorem Lp.fresh {p : Po} {ls ls' : Fin 4 → List Int} {n i : Nat} (h : Lt p ls) (k : Lp p ls (tkn p n) i ls') (hi : i < n) : (tkn p n).getD i 0 ∉ ls' 0 ∧ 2 ≤ (tkn p n).getD i 0 := by
  have hT := ris_nodup (h.tris n)
  have hc := h.ok.c2
  rw [k.m, List.mem_append]
  by_cases hu : i < (us p).length
  · have h1 := h.usl (nget_mem hu)
    rw [← tkG_lo hi hu] at h1
    refine ⟨?_, h1.1⟩
    rintro (hm | hm)
    · have := (h.mine _ hm).2.2
      rw [h1.2.2] at this
      cases this
    · exact next_new hT (by rw [tkn_len]; exact hi) hm
  · have e := tkG_hi hi (show (us p).length ≤ i by omega)
    refine ⟨?_, by omega⟩
    rintro (hm | hm)
    · have := (h.mine _ hm).2.1
      omega
    · exact next_new hT (by rw [tkn_len]; exact hi) hm
theorem Lp.free {p : Po} {ls ls' : Fin 4 → List Int} {n i : Nat} (h : Lt p ls) (k : Lp p ls (tkn p n) i ls') (hi : i < n) (hu : i < (us p).length) :
    ∃ j, j < (ls' 1).length ∧ (ls' 1).getD j 0 = (tkn p n).getD i 0 ∧ (∀ m, m < j → (ls' 1).getD m 0 ≠ (tkn p n).getD i 0) ∧ pnd (ls' 3) ((ls' 2).getD j 0) = false ∧ Lp p ls (tkn p n) (i + 1) (tkF ls' j ((tkn p n).getD i 0)) := by
  have hT := ris_nodup (h.tris n)
  have hlt : i < (tkn p n).length := by rw [tkn_len]; exact hi
  have hnew := next_new hT hlt
  obtain ⟨v, hv, hq⟩ := us_mem (nget_mem hu)
  rw [← tkG_lo hi hu] at hv
  obtain ⟨j, hj, a1, a2, a3⟩ := zip_at k.len ((k.mem _).2 ⟨hv, hnew⟩) k.nf
  refine ⟨j, hj, a1, a3, ?_, ?_⟩
  · rw [a2, k.p3]
    unfold pnd
    rw [List.any_eq_false]
    intro y hy
    obtain ⟨z, hz, rfl⟩ := (h.pq.has y).1 hy
    have := hq z hz
    simp; omega
  · have hsnoc := take_snoc hlt
    refine ⟨?_, ?_, ?_, ?_, fun x => ?_⟩
    · show ls' 0 ++ [_] = _
      rw [k.m, hsnoc, List.append_assoc]
    · exact k.p3
    · show ((ls' 2).take j ++ (ls' 2).drop (j + 1)).length = ((ls' 1).take j ++ (ls' 1).drop (j + 1)).length
      have := k.len
      simp; omega
    · show ((ls' 1).take j ++ (ls' 1).drop (j + 1)).Nodup
      refine k.nf.sublist ?_
      conv => rhs; rw [cut_at hj]
      exact (List.Sublist.refl _).append (List.sublist_cons_self _ _)
    · show x ∈ ((ls' 1).take j ++ (ls' 1).drop (j + 1)).zip ((ls' 2).take j ++ (ls' 2).drop (j + 1)) ↔ _
      rw [zip_cut k.len hj k.nf, k.mem, a1, hsnoc, List.mem_append, List.mem_singleton, not_or, and_assoc]
theorem Lp.new {p : Po} {ls ls' : Fin 4 → List Int} {n i : Nat} (h : Lt p ls) (k : Lp p ls (tkn p n) i ls') (hi : i < n) (hu : (us p).length ≤ i) :
    (tkn p n).getD i 0 ∉ ls' 1 ∧ p.c ≤ (tkn p n).getD i 0 ∧ Lp p ls (tkn p n) (i + 1) (tkN ls' ((tkn p n).getD i 0)) := by
  have hlt : i < (tkn p n).length := by rw [tkn_len]; exact hi
  have e := tkG_hi hi hu
  have hsnoc := take_snoc hlt
  refine ⟨fun hm => ?_, by omega, ?_, k.p3, k.len, k.nf, fun x => ?_⟩
  · obtain ⟨j, hj, e1⟩ := List.mem_iff_getElem.1 hm
    have hj2 : j < (ls' 2).length := by rw [k.len]; exact hj
    have hz : ((ls' 1)[j], (ls' 2)[j]) ∈ (ls' 1).zip (ls' 2) := by
      rw [← List.getElem_zip (h := by rw [List.length_zip]; omega)]
      exact List.getElem_mem _
    have := (h.ok.l _ ((k.mem _).1 hz).1).2
    simp only [e1] at this
    omega
  · show ls' 0 ++ [_] = _
    rw [k.m, hsnoc, List.append_assoc]
  · show x ∈ (ls' 1).zip (ls' 2) ↔ _
    rw [k.mem, hsnoc, List.mem_append, List.mem_singleton, not_or]
    refine ⟨fun hx => ⟨hx.1, hx.2, fun ex => ?_⟩, fun hx => ⟨hx.1, hx.2.1⟩⟩
    have := (h.ok.l _ hx.1).2
    omega
end Go.Proofs.Ytpoflmcmlnghhaa
