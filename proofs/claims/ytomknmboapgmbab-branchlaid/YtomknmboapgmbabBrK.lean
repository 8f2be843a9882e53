import Derived.Test.YtomknmboapgmbabBranchFewerW
import Derived.Test.YtomknmboapgmbabBrS
namespace Go.Proofs.Ytomknmboapgmbab
open Go.RowKit

/-! ### The same bytes ahead of each -/

theorem com_app (h : List Int) : ∀ (a b : List Int), com (h ++ a) (h ++ b) = h.length + com a b := by
  intro a b
  induction h with
  | nil => simp
  | cons x h ih => rw [List.cons_append, List.cons_append, com_cons, if_pos rfl, ih, List.length_cons]; omega
theorem comAll_app (h f : List Int) : ∀ (L : List (List Int)) (n : Nat), comAll (h ++ f) (h.length + n) (L.map (h ++ ·)) = h.length + comAll f n L
  | [], n => rfl
  | s :: L, n => by
    rw [List.map_cons, comAll_cons, comAll_cons, com_app, Nat.add_min_add_left, comAll_app h f L]
theorem bpre_app (h : List Int) (L : List (List Int)) (hL : L ≠ []) : bpre (L.map (h ++ ·)) = h.length + bpre L := by
  cases L with
  | nil => exact absurd rfl hL
  | cons z L =>
    show comAll (h ++ z) (h ++ z).length (L.map (h ++ ·)) = h.length + comAll z z.length L
    rw [List.length_append, comAll_app]
theorem bsums_app (h : List Int) (p : Nat) : ∀ L : List (List Int), bsums (h.length + p) (L.map (h ++ ·)) = bsums p L
  | [] => rfl
  | s :: L => by
    rw [List.map_cons, bsums, bsums, bsums_app h p L]
    unfold bcl
    rw [List.length_append, Nat.add_sub_add_left]
theorem bsize_app (h : List Int) (L : List (List Int)) (hL : L ≠ []) : bsize (L.map (h ++ ·)) + vl (bpre L) = bsize L + h.length + vl (bpre L + h.length) := by
  unfold bsize
  rw [bpre_app h L hL, bsums_app, Nat.add_comm h.length (bpre L)]
  omega

theorem comAll_bpre {L : List (List Int)} (h : 0 < L.length) : comAll (L.getD 0 []) (L.getD 0 []).length L = bpre L := by
  cases L with
  | nil => simp at h
  | cons z L =>
    show comAll z z.length (z :: L) = comAll z z.length L
    rw [comAll_cons, com_self, Nat.min_self]

theorem bsize_cap {L : List (List Int)} (h : ∀ x ∈ L, x.length ≤ 4096) (hn : L.length ≤ 2000) : bsize L ≤ 10000000 := by
  have h1 := bsums_le (bpre L) 4096 L h
  have h2 := vl_le (bpre L)
  have h3 : bpre L ≤ 4096 := by
    cases L with
    | nil => exact Nat.zero_le _
    | cons x L => exact Nat.le_trans (bpre_each x List.mem_cons_self).1 (h x List.mem_cons_self)
  have h4 : L.length * (4096 + 20) ≤ 2000 * 4116 := Nat.mul_le_mul_right _ hn
  unfold bsize
  omega
theorem comAll_snoc5 (f : List Int) (n : Nat) (L : List (List Int)) (s : List Int) : comAll f n (L ++ [s]) = min (comAll f n L) (com f s) := by
  unfold comAll
  rw [List.foldl_append]
  rfl
theorem com_stop {f x : List Int} {p j : Nat} (hp : p ≤ f.length) (h1 : j ≤ p) (h2 : j ≤ x.length) (h : ∀ m, m < j → x.getD m 0 = f.getD m 0) (he : j = p ∨ j = x.length ∨ x.getD j 0 ≠ f.getD j 0) : min p (com f x) = j := by
  have ht : f.take j = x.take j := by
    refine List.ext_getElem (by rw [List.length_take, List.length_take]; omega) fun m a b => ?_
    rw [List.length_take] at a b
    have := h m (by omega)
    rw [List.getElem_take, List.getElem_take]
    simpa [List.getD, List.getElem?_eq_getElem (show m < f.length by omega), List.getElem?_eq_getElem (show m < x.length by omega)] using this.symm
  have hc : j ≤ com f x := com_of_take _ _ _ (by omega) h2 ht
  have c1 := com_le1 f x
  have c2 := com_le2 f x
  rcases he with rfl | rfl | he
  · omega
  · omega
  · by_cases hj : com f x = j
    · omega
    · exfalso
      have hpx := com_prefix f x (com f x) (Nat.le_refl _)
      refine he ?_
      have e := congrArg (fun l => l.getD j 0) hpx
      simp only [List.getD, List.getElem?_take, if_pos (show j < com f x by omega)] at e
      simp only [List.getD]
      exact e.symm

set_option maxHeartbeats 1000000 in
set_option maxRecDepth 100000 in
/-- coppicelaw5.vlen. -/
theorem vlen5_any (x : Nat) (w : World) (hx : x < 1000000) :
    Calls Try.prog 13 #[.int .i64 x] w fun e w' => e = .returned (.int .i64 ((vform x).length : Nat)) ∧ w' = w := by
  have hvl := vform_le x
  go_enter Try.func13, Try.ntmps13
  go_wp2
  go_loopw [0, 3] (fun sx sn wr => ∃ (f y c : Nat), 1 ≤ f ∧ y < 2 * 128 ^ (f - 1) ∧ sx = .int .i64 y ∧ y < 1000000 ∧ sn = .int .i64 c ∧ c + (lf f y).length = (vform x).length + 1 ∧ wr = w) (fun sx _ _ => (intOf sx).toNat)
  case atStart => exact ⟨10, x, 1, by omega, by simp; omega, rfl, hx, rfl, Nat.add_comm _ _, rfl⟩
  case round =>
    obtain ⟨f, y, c, hf1, hy, rfl, hy64, rfl, hc, rfl⟩ := hrel
    obtain ⟨f', rfl⟩ : ∃ f', f = f' + 1 := ⟨f - 1, by omega⟩
    have HC : Hid (c + (lf (f' + 1) y).length = (vform x).length + 1) := hc
    have hcb : c ≤ 11 := by omega
    have HY : Hid (y < 2 * 128 ^ (f' + 1 - 1)) := hy
    clear hc hy
    by_cases hlt : y < 128
    · have hfin : c = (vform x).length := by have := HC.out; rw [lf_small f' y hlt] at this; simp at this; omega
      have HF : Hid (c = (vform x).length) := hfin
      clear hfin
      go_wp2
      go_ret
      rw [← HF.out]
      exact ⟨rfl, rfl⟩
    · have h1 := HC.out
      have hy := HY.out
      rw [lf_big f' y hlt, List.length_cons] at h1
      have hf' : 1 ≤ f' := by
        rcases Nat.eq_zero_or_pos f' with h | h
        · subst h; simp at hy; omega
        · exact h
      have hy2 : y / 128 < 2 * 128 ^ (f' - 1) := by
        rw [Nat.add_sub_cancel, show f' = (f' - 1) + 1 by omega, Nat.pow_succ] at hy
        omega
      have HC2 : Hid ((c + 1) + (lf f' (y / 128)).length = (vform x).length + 1) := by show _ = _; omega
      have HY2 : Hid (y / 128 < 2 * 128 ^ (f' - 1)) := hy2
      clear h1 hy hy2 HC HY
      go_wp2
      go_roundw
      case rel => exact ⟨f', y / 128, c + 1, hf', HY2.out, by go_num, by omega, by go_num, HC2.out, by trivial⟩
      case measure => simp [intOf]; omega
end Go.Proofs.Ytomknmboapgmbab
