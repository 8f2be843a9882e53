import Derived.Test.YtiljdhhfhjhhiaaDkW
namespace Go.Proofs.Ytiljdhhfhjhhiaa
open Go.RowKit Go.MuLone

/-! ### What lasts behind a Sync -/

def Ds.view (s : Ds) : List (List Int) := s.Q.foldl (fun L q => landL L q.1 q.2 4096) s.L

theorem landL_at (L : List (List Int)) (i : Nat) (z : List Int) (hz : z.length = 4096) (hL : ∀ y ∈ L, y.length = 4096) (j : Nat) :
    (landL L i z 4096)[j]? = if j = i then some z else if j < L.length then L[j]? else if j < i + 1 then some zp else none := by
  have hM : ∀ y ∈ L ++ List.replicate (i + 1 - L.length) zp, y.length = 4096 := by
    intro y hy
    rcases List.mem_append.1 hy with h | h
    · exact hL y h
    · rw [List.eq_of_mem_replicate h]; exact zp_len
  have hlen : (L ++ List.replicate (i + 1 - L.length) zp).length = L.length + (i + 1 - L.length) := by rw [List.length_append, List.length_replicate]
  have hd : ((L ++ List.replicate (i + 1 - L.length) zp).getD i []).drop 4096 = [] := by
    have hi : i < (L ++ List.replicate (i + 1 - L.length) zp).length := by omega
    rw [List.getD, List.getElem?_eq_getElem hi, Option.getD_some]
    exact List.drop_of_length_le (Nat.le_of_eq (hM _ (List.getElem_mem hi)))
  unfold landL
  rw [hd, List.append_nil, List.take_of_length_le (Nat.le_of_eq hz), List.getElem?_set]
  by_cases e : i = j
  · subst e
    rw [if_pos rfl, if_pos (by omega), if_pos rfl]
  · rw [if_neg e, if_neg (fun x => e x.symm), List.getElem?_append]
    by_cases h : j < L.length
    · rw [if_pos h, if_pos h]
    · rw [if_neg h, if_neg h, List.getElem?_replicate]
      by_cases h2 : j < i + 1
      · rw [if_pos h2, if_pos (by omega)]
      · rw [if_neg h2, if_neg (by omega)]
theorem landL_all (L : List (List Int)) (i : Nat) (z : List Int) (hz : z.length = 4096) (hL : ∀ y ∈ L, y.length = 4096) : ∀ y ∈ landL L i z 4096, y.length = 4096 := by
  intro y hy
  obtain ⟨j, hj⟩ := List.mem_iff_getElem?.1 hy
  rw [landL_at L i z hz hL] at hj
  by_cases e : j = i
  · rw [if_pos e] at hj; rw [← Option.some.inj hj]; exact hz
  · rw [if_neg e] at hj
    by_cases h : j < L.length
    · rw [if_pos h] at hj; exact hL y (List.mem_of_getElem? hj)
    · rw [if_neg h] at hj
      by_cases h2 : j < i + 1
      · rw [if_pos h2] at hj; rw [← Option.some.inj hj]; exact zp_len
      · rw [if_neg h2] at hj; cases hj

def vw (L : List (List Int)) (Q : List (Nat × List Int)) : List (List Int) := Q.foldl (fun L q => landL L q.1 q.2 4096) L
theorem vw_snoc (L : List (List Int)) (Q : List (Nat × List Int)) (q : Nat × List Int) : vw L (Q ++ [q]) = landL (vw L Q) q.1 q.2 4096 := by simp [vw, List.foldl_append]
theorem vw_all (L : List (List Int)) (Q : List (Nat × List Int)) (hL : ∀ y ∈ L, y.length = 4096) (hQ : ∀ q ∈ Q, q.2.length = 4096) : ∀ y ∈ vw L Q, y.length = 4096 := by
  induction Q generalizing L with
  | nil => exact hL
  | cons q Q ih => exact ih (landL L q.1 q.2 4096) (landL_all L q.1 q.2 (hQ q (List.mem_cons_self ..)) hL) (fun x hx => hQ x (List.mem_cons_of_mem _ hx))
theorem vw_len (L : List (List Int)) (Q : List (Nat × List Int)) : (vw L Q).length = Q.foldl (fun n q => max n (q.1 + 1)) L.length := by
  induction Q generalizing L with
  | nil => rfl
  | cons q Q ih => simp only [vw, List.foldl_cons] at ih ⊢; rw [ih, landL_len]
theorem Ds.view_len (s : Ds) : s.view.length = s.pages := vw_len s.L s.Q
/-- Each page of the view: what was written last, or what lasts. -/
theorem vw_at (L : List (List Int)) (Q : List (Nat × List Int)) (hL : ∀ y ∈ L, y.length = 4096) (hQ : ∀ q ∈ Q, q.2.length = 4096) (j : Nat) (hj : j < (vw L Q).length) :
    (vw L Q)[j]? = some (((Q.reverse.find? fun q => q.1 == j).map (·.2)).getD (L.getD j zp)) := by
  have main : ∀ R : List (Nat × List Int), (∀ q ∈ R, q.2.length = 4096) → j < (vw L R.reverse).length → (vw L R.reverse)[j]? = some (((R.find? fun q => q.1 == j).map (·.2)).getD (L.getD j zp)) := by
    intro R
    induction R with
    | nil =>
      intro _ h
      change j < L.length at h
      change L[j]? = _
      simp [List.getD, List.getElem?_eq_getElem h]
    | cons q R ih =>
      intro hR h
      rw [List.reverse_cons] at h ⊢
      rw [vw_snoc] at h ⊢
      have hV := vw_all L R.reverse hL (fun x hx => hR x (List.mem_cons_of_mem _ (List.mem_reverse.1 hx)))
      rw [landL_at _ _ _ (hR q (List.mem_cons_self ..)) hV]
      rw [landL_len] at h
      rw [List.find?_cons]
      by_cases e : j = q.1
      · rw [if_pos e]
        have : (q.1 == j) = true := by simp [e]
        rw [this]; rfl
      · rw [if_neg e]
        have : (q.1 == j) = false := by simp; omega
        rw [this]
        by_cases h2 : j < (vw L R.reverse).length
        · rw [if_pos h2]
          exact ih (fun x hx => hR x (List.mem_cons_of_mem _ hx)) h2
        · rw [if_neg h2, if_pos (by omega)]
          have hn : R.find? (fun q => q.1 == j) = none := by
            rw [List.find?_eq_none]
            intro x hx hxj
            have hxj' : x.1 = j := by simpa using hxj
            rw [vw_len] at h2
            have : ∀ (A : List (Nat × List Int)) (n : Nat), x ∈ A → x.1 + 1 ≤ A.foldl (fun n q => max n (q.1 + 1)) n := by
              intro A
              induction A with
              | nil => intro n hx; cases hx
              | cons a A ih2 =>
                intro n hx
                rw [List.foldl_cons]
                rcases List.mem_cons.1 hx with rfl | hx
                · have : ∀ (B : List (Nat × List Int)) (m : Nat), m ≤ B.foldl (fun n q => max n (q.1 + 1)) m := by
                    intro B
                    induction B with
                    | nil => intro m; exact Nat.le_refl _
                    | cons b B ih3 => intro m; rw [List.foldl_cons]; exact Nat.le_trans (Nat.le_max_left _ _) (ih3 _)
                  exact Nat.le_trans (Nat.le_max_right _ _) (this A _)
                · exact ih2 _ hx
            have := this R.reverse L.length (List.mem_reverse.2 hx)
            omega
          rw [hn]
          have hLj : L.length ≤ j := by
            rw [vw_len] at h2
            have : ∀ (B : List (Nat × List Int)) (m : Nat), m ≤ B.foldl (fun n q => max n (q.1 + 1)) m := by
              intro B
              induction B with
              | nil => intro m; exact Nat.le_refl _
              | cons b B ih3 => intro m; rw [List.foldl_cons]; exact Nat.le_trans (Nat.le_max_left _ _) (ih3 _)
            have := this R.reverse L.length
            omega
          simp [List.getD, List.getElem?_eq_none hLj]
  have := main Q.reverse (fun q hq => hQ q (List.mem_reverse.1 hq)) (by rw [List.reverse_reverse]; exact hj)
  rwa [List.reverse_reverse] at this

theorem Dz.lens {w : World} {B : Nat} {F : Nat → Prop} {s : Ds} (h : Dz w B F s) : (∀ y ∈ s.L, y.length = 4096 ∧ Bt y) ∧ (∀ q ∈ s.Q, q.2.length = 4096 ∧ Bt q.2) := by
  obtain ⟨d, hk, rfl⟩ := h
  constructor
  · intro y hy
    obtain ⟨x, hx, rfl⟩ := List.mem_map.1 hy
    exact ⟨(hk.dm.bp x hx).len, (hk.dm.bp x hx).bt⟩
  · intro q hq
    obtain ⟨x, hx, rfl⟩ := List.mem_map.1 hq
    exact ⟨(hk.dm.pp x hx).1.len, (hk.dm.pp x hx).1.bt⟩
theorem Dz.gap {w : World} {B : Nat} {F : Nat → Prop} {s : Ds} (h : Dz w B F s) (i : Nat) (h1 : s.L.length ≤ i) (h2 : i < s.pages) : ∃ q ∈ s.Q, q.1 = i := by
  obtain ⟨d, hk, rfl⟩ := h
  rw [← hk.pages] at h2
  obtain ⟨p, hp, e⟩ := hk.gap i (by simpa [Dd.abs] using h1) h2
  exact ⟨_, List.mem_map.2 ⟨p, hp, rfl⟩, e⟩
theorem Dz.page_view {w : World} {B : Nat} {F : Nat → Prop} {s : Ds} (h : Dz w B F s) (j : Nat) (hj : j < s.pages) : s.view[j]? = some (s.page j) := by
  obtain ⟨hL, hQ⟩ := h.lens
  have := vw_at s.L s.Q (fun y hy => (hL y hy).1) (fun q hq => (hQ q hq).1) j (by rw [vw_len]; exact hj)
  rw [show s.view = vw s.L s.Q from rfl, this]
  unfold Ds.page
  by_cases hl : j < s.L.length
  · simp [List.getD, List.getElem?_eq_getElem hl]
  · obtain ⟨q, hq, e⟩ := h.gap j (by omega) hj
    cases hf : s.Q.reverse.find? fun q => q.1 == j with
    | some p => rfl
    | none =>
      rw [List.find?_eq_none] at hf
      exact absurd (by simp [e] : (q.1 == j) = true) (by simpa using hf q (List.mem_reverse.2 hq))
theorem Dw.page_view {w0 w : World} {B : Nat} {O : Nat → Prop} {s : Ds} (h : Dw w0 w B O s) (j : Nat) (hj : j < s.pages) : s.view[j]? = some (s.page j) := by
  obtain ⟨F, h1, -⟩ := h
  exact h1.page_view j hj

theorem view_put (s : Ds) (i : Nat) (z : List Int) : (s.put i z).view = landL s.view i z 4096 := by
  unfold Ds.view Ds.put Ds.spend
  simp [List.foldl_append]
theorem view_sync (s : Ds) : s.sync.view = s.view := rfl
theorem view_read (s : Ds) : s.read.view = s.view := rfl
/-- A page of a book of pages. -/
theorem landL_fp (bk : List Int) (i : Nat) (x : Int) (hi : i ≤ bk.length) : landL (bk.map fp) i (fp x) 4096 = (if i = bk.length then bk ++ [x] else bk.set i x).map fp := by
  apply List.ext_getElem?
  intro j
  rw [landL_at _ _ _ (fp_len x) (fun y hy => by obtain ⟨a, _, rfl⟩ := List.mem_map.1 hy; exact fp_len a), List.length_map, List.getElem?_map, List.getElem?_map]
  by_cases e : i = bk.length
  · subst e
    rw [if_pos rfl, List.getElem?_append]
    by_cases h : j = bk.length
    · subst h; simp
    · rw [if_neg h]
      by_cases h2 : j < bk.length
      · rw [if_pos h2, if_pos h2]
      · rw [if_neg h2, if_neg h2, if_neg (by omega), List.getElem?_eq_none (by simp; omega)]; rfl
  · rw [if_neg e, List.getElem?_set]
    by_cases h : j = i
    · subst h; rw [if_pos rfl, if_pos rfl, if_pos (by omega)]; rfl
    · rw [if_neg h, if_neg (show ¬ i = j from fun x => h x.symm)]
      by_cases h2 : j < bk.length
      · rw [if_pos h2]
      · rw [if_neg h2, if_neg (by omega), List.getElem?_eq_none (by omega)]; rfl
end Go.Proofs.Ytiljdhhfhjhhiaa
