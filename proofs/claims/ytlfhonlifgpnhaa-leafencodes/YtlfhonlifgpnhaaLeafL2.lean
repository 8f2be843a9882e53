import Derived.Test.YtlfhonlifgpnhaaLeafL
namespace Go.Proofs.Ytlfhonlifgpnhaa

theorem up_le {L : List It} (h : Up L) (i : Nat) : ∀ j, i ≤ j → j < L.length → cmpZ (L.getD i it0).key (L.getD j it0).key ≤ 0
  | 0, hi, _ => by
    obtain rfl : i = 0 := by omega
    rw [cmp_self]; omega
  | j + 1, hi, hj => by
    by_cases e : i = j + 1
    · subst e; rw [cmp_self]; omega
    · have h1 := up_le h i j (by omega) (by omega)
      have h2 := h j (by omega)
      exact (cmp_trans h1 (by omega)).1

/-- Of keys that rise the first and the last one tell what all have in common. -/
theorem pre_ends {L : List It} (h : Up L) (hL : L ≠ []) : pre L = com (L.getD 0 it0).key (L.getD (L.length - 1) it0).key := by
  cases L with
  | nil => exact absurd rfl hL
  | cons x T =>
    show comAll x.key x.key.length (T.map It.key) = com x.key _
    have hlast : (x :: T).getD ((x :: T).length - 1) it0 ∈ x :: T := by
      have : (x :: T).length - 1 < (x :: T).length := by simp
      simp only [List.getD, List.getElem?_eq_getElem this, Option.getD_some]
      exact List.getElem_mem this
    refine Nat.le_antisymm ?_ ?_
    · rcases List.mem_cons.1 hlast with e | e
      · rw [e, com_self]; exact comAll_le _ _ _
      · exact comAll_each _ _ _ _ (List.mem_map_of_mem e)
    · refine comAll_max _ _ _ _ (com_le1 _ _) fun s hs => ?_
      obtain ⟨y, hy, rfl⟩ := List.mem_map.1 hs
      obtain ⟨k, hk, rfl⟩ := List.getElem_of_mem hy
      have e1 : (x :: T).getD (k + 1) it0 = T[k] := by simp [List.getD, List.getElem?_eq_getElem hk]
      have a1 := up_le h 0 (k + 1) (by omega) (by simp; omega)
      have a2 := up_le h (k + 1) ((x :: T).length - 1) (by simp; omega) (by simp)
      rw [e1] at a1 a2
      have := com_mid a1 a2
      simp only [List.getD_cons_zero] at this a1
      rw [this]
      exact Nat.min_le_left _ _

theorem cells_split (p : Nat) : ∀ (L : List It) (i : Nat), i < L.length → ∃ rest, cells p L = cells p (L.take i) ++ (cb p (L.getD i it0) ++ rest)
  | x :: L, 0, _ => ⟨cells p L, by simp [cells]⟩
  | x :: L, i + 1, h => by
    obtain ⟨rest, e⟩ := cells_split p L i (by simpa using h)
    refine ⟨rest, ?_⟩
    simp only [cells, List.take_succ_cons, List.getD_cons_succ]
    rw [e, List.append_assoc]
theorem slots_split (p : Nat) : ∀ (L : List It) (a i : Nat), i < L.length → ∃ rest, slots p a L = slots p a (L.take i) ++ (lb 2 (a + (cells p (L.take i)).length) ++ rest)
  | x :: L, a, 0, _ => ⟨slots p (a + (cb p x).length) L, by simp [slots, cells]⟩
  | x :: L, a, i + 1, h => by
    obtain ⟨rest, e⟩ := slots_split p L (a + (cb p x).length) i (by simpa using h)
    refine ⟨rest, ?_⟩
    simp only [slots, cells, List.take_succ_cons]
    rw [e, List.append_assoc, List.length_append, Nat.add_assoc]

theorem drop_app {zs X Y : List Int} {p : Nat} (h : zs = X ++ Y) (hp : X.length = p) : zs.drop p = Y := by rw [h, ← hp, List.drop_left]

theorem laid_head (L : List It) : ∃ Y, body L = lb 1 1 ++ (lb 2 L.length ++ ((vform (pre L) ++ (L.headD it0).key.take (pre L)) ++ Y)) := by
  refine ⟨slots (pre L) ((headB L).length + 2 * L.length) L ++ (cells (pre L) L ++ List.replicate (4092 - (used L).length) 0), ?_⟩
  unfold body used
  generalize (headB L).length = z
  unfold headB
  simp only [List.append_assoc]
theorem laid_zero_at (L : List It) : (body L).getD 0 0 = 1 := by
  obtain ⟨Y, e⟩ := laid_head L
  rw [e]; rfl
theorem laid_n (L : List It) (h : L.length < 65536) : le 2 ((body L).drop 1) = L.length := by
  obtain ⟨Y, e⟩ := laid_head L
  rw [drop_app e (lb_len 1 1), le_lb]
  exact Nat.mod_eq_of_lt (by omega)
theorem laid_pre (L : List It) (k : Nat) (hk : (vform (pre L) ++ (L.headD it0).key.take (pre L)).length = k) : ((body L).drop 3).take k = vform (pre L) ++ (L.headD it0).key.take (pre L) := by
  obtain ⟨Y, e⟩ := laid_head L
  have e2 : body L = (lb 1 1 ++ lb 2 L.length) ++ ((vform (pre L) ++ (L.headD it0).key.take (pre L)) ++ Y) := by rw [e]; simp only [List.append_assoc]
  rw [drop_app e2 (by rw [List.length_append, lb_len, lb_len]), List.take_left' hk]
theorem laid_slot (L : List It) (i : Nat) (hi : i < L.length) (h : cst L + (cells (pre L) (L.take i)).length < 65536) : le 2 ((body L).drop ((headB L).length + 2 * i)) = cst L + (cells (pre L) (L.take i)).length := by
  obtain ⟨rest, e⟩ := slots_split (pre L) L (cst L) i hi
  have hs := slots_len (pre L) (L.take i) (cst L)
  rw [List.length_take] at hs
  have e2 : body L = (headB L ++ slots (pre L) (cst L) (L.take i)) ++ (lb 2 (cst L + (cells (pre L) (L.take i)).length) ++ (rest ++ (cells (pre L) L ++ List.replicate (4092 - (used L).length) 0))) := by
    have e3 : body L = headB L ++ (slots (pre L) (cst L) L ++ (cells (pre L) L ++ List.replicate (4092 - (used L).length) 0)) := by
      unfold body
      rw [show used L = headB L ++ (slots (pre L) (cst L) L ++ cells (pre L) L) from rfl]
      simp only [List.append_assoc]
    rw [e3, e]
    simp only [List.append_assoc]
  rw [drop_app e2 (by rw [List.length_append, hs]; omega), le_lb]
  exact Nat.mod_eq_of_lt (by omega)
theorem laid_cell (L : List It) (i : Nat) (hi : i < L.length) : ((body L).drop (cst L + (cells (pre L) (L.take i)).length)).take (cb (pre L) (L.getD i it0)).length = cb (pre L) (L.getD i it0) := by
  obtain ⟨rest, e⟩ := cells_split (pre L) L i hi
  have e2 : body L = (headB L ++ (slots (pre L) (cst L) L ++ cells (pre L) (L.take i))) ++ (cb (pre L) (L.getD i it0) ++ (rest ++ List.replicate (4092 - (used L).length) 0)) := by
    have e3 : body L = headB L ++ (slots (pre L) (cst L) L ++ (cells (pre L) L ++ List.replicate (4092 - (used L).length) 0)) := by
      unfold body
      rw [show used L = headB L ++ (slots (pre L) (cst L) L ++ cells (pre L) L) from rfl]
      simp only [List.append_assoc]
    rw [e3, e]
    simp only [List.append_assoc]
  have hX : (headB L ++ (slots (pre L) (cst L) L ++ cells (pre L) (L.take i))).length = cst L + (cells (pre L) (L.take i)).length := by
    rw [List.length_append, List.length_append, slots_len]; unfold cst; omega
  rw [drop_app e2 hX, List.take_left]
theorem laid_end {L : List It} (h : wrong L = 0) : (body L).drop (size L) = List.replicate (4092 - size L) 0 := by
  have hu := used_len h
  have e : body L = used L ++ List.replicate (4092 - size L) 0 := by unfold body; rw [hu]
  exact drop_app e hu
theorem cst_all {L : List It} (h : wrong L = 0) : cst L + (cells (pre L) L).length = size L := by
  have h1 := used_len h
  unfold used at h1
  rw [List.length_append, List.length_append, slots_len] at h1
  unfold cst
  omega
end Go.Proofs.Ytlfhonlifgpnhaa
