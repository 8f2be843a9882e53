import Derived.Test.YtcdkkhbkicejiaaGreatDoorQ13
import Derived.Laws.CopyOwn
namespace Go.Proofs.YtcdkkhbkicejiaaGreatDoor
theorem cells_snoc (p : Nat) : ∀ (L : List It) (i : Nat), i < L.length → cells p (L.take (i + 1)) = cells p (L.take i) ++ cb p (L.getD i it0)
 | x :: L, 0, _ => by simp [cells]
 | x :: L, i + 1, h => by
  have := cells_snoc p L i (by simpa using h)
  simp only [List.take_succ_cons, cells, List.getD_cons_succ]
  rw [this, List.append_assoc]
theorem slots_snoc (p : Nat) : ∀ (L : List It) (a i : Nat), i < L.length → slots p a (L.take (i + 1)) = slots p a (L.take i) ++ lb 2 (a + (cells p (L.take i)).length)
 | x :: L, a, 0, _ => by simp [slots, cells]
 | x :: L, a, i + 1, h => by
  have := slots_snoc p L (a + (cb p x).length) i (by simpa using h)
  simp only [List.take_succ_cons, slots, cells]
  rw [this, List.append_assoc, List.length_append, Nat.add_assoc]
theorem splice_mid {X Y Z V : List Int} {p : Nat} (hp : X.length = p) (hV : Y.length = V.length) : splice (X ++ (Y ++ Z)) p V = X ++ (V ++ Z) := by
 subst hp
 unfold splice
 rw [List.take_left, ← hV, ← List.append_assoc X Y Z, ← List.length_append, List.drop_left]
def cst (L : List It) : Nat := (headB L).length + 2 * L.length
def laid (L : List It) (i : Nat) : List Int :=
 headB L ++ (slots (pre L) (cst L) (L.take i) ++ (List.replicate (2 * (L.length - i)) 0 ++ (cells (pre L) (L.take i) ++ List.replicate (4092 - (cst L + (cells (pre L) (L.take i)).length)) 0)))
theorem cells_mono (p : Nat) : ∀ (L : List It) (i : Nat), (cells p (L.take i)).length ≤ (cells p L).length
 | [], i => by simp [cells]
 | x :: L, 0 => by simp [cells]
 | x :: L, i + 1 => by
  have := cells_mono p L i
  simp only [List.take_succ_cons, cells, List.length_append]
  omega
theorem laid_zero (L : List It) (h : cst L ≤ 4092) : splice (List.replicate 4092 0) 0 (headB L) = laid L 0 := by
 have h' : (headB L).length + 2 * L.length ≤ 4092 := h
 unfold laid splice
 simp only [List.take_zero, List.nil_append, slots, cells, List.length_nil, Nat.add_zero, Nat.sub_zero, Nat.zero_add, List.drop_replicate, List.replicate_append_replicate]
 congr 2
 unfold cst
 omega
theorem laid_all (L : List It) : laid L L.length = body L := by
 unfold laid body used
 rw [List.take_length, Nat.sub_self, Nat.mul_zero, List.replicate_zero, List.nil_append]
 have e : 4092 - (cst L + (cells (pre L) L).length) = 4092 - (headB L ++ (slots (pre L) ((headB L).length + 2 * L.length) L ++ cells (pre L) L)).length := by
  rw [List.length_append, List.length_append, slots_len]; unfold cst; omega
 rw [e]
 unfold cst
 simp only [List.append_assoc]
theorem laid_step (L : List It) (i : Nat) (hi : i < L.length) (h : cst L + (cells (pre L) (L.take i)).length + (cb (pre L) (L.getD i it0)).length ≤ 4092) :
  splice (splice (laid L i) ((headB L).length + 2 * i) (lb 2 (cst L + (cells (pre L) (L.take i)).length))) (cst L + (cells (pre L) (L.take i)).length) (cb (pre L) (L.getD i it0)) = laid L (i + 1) := by
 have hs := slots_len (pre L) (L.take i) (cst L)
 rw [List.length_take] at hs
 have e1 : splice (laid L i) ((headB L).length + 2 * i) (lb 2 (cst L + (cells (pre L) (L.take i)).length)) =
   (headB L ++ slots (pre L) (cst L) (L.take (i + 1))) ++ (List.replicate (2 * (L.length - (i + 1))) 0 ++ (cells (pre L) (L.take i) ++ List.replicate (4092 - (cst L + (cells (pre L) (L.take i)).length)) 0)) := by
  unfold laid
  rw [show 2 * (L.length - i) = 2 + 2 * (L.length - (i + 1)) by omega, ← List.replicate_append_replicate, List.append_assoc (List.replicate 2 0), ← List.append_assoc (headB L), splice_mid (by rw [List.length_append, hs]; omega) (by rw [lb_len, List.length_replicate]), slots_snoc _ _ _ _ hi]
  simp only [List.append_assoc]
 rw [e1]
 have hs1 := slots_len (pre L) (L.take (i + 1)) (cst L)
 rw [List.length_take] at hs1
 have hX : ((headB L ++ slots (pre L) (cst L) (L.take (i + 1))) ++ (List.replicate (2 * (L.length - (i + 1))) 0 ++ cells (pre L) (L.take i))).length = cst L + (cells (pre L) (L.take i)).length := by
  simp only [List.length_append, hs1, List.length_replicate]
  unfold cst; omega
 rw [show (headB L ++ slots (pre L) (cst L) (L.take (i + 1))) ++ (List.replicate (2 * (L.length - (i + 1))) 0 ++ (cells (pre L) (L.take i) ++ List.replicate (4092 - (cst L + (cells (pre L) (L.take i)).length)) 0)) =
  ((headB L ++ slots (pre L) (cst L) (L.take (i + 1))) ++ (List.replicate (2 * (L.length - (i + 1))) 0 ++ cells (pre L) (L.take i))) ++ (List.replicate (cb (pre L) (L.getD i it0)).length 0 ++ List.replicate (4092 - (cst L + (cells (pre L) (L.take (i + 1))).length)) 0) by
   rw [List.replicate_append_replicate, cells_snoc _ _ _ hi, List.length_append]
   simp only [List.append_assoc]
   rw [show (cb (pre L) (L.getD i it0)).length + (4092 - (cst L + ((cells (pre L) (L.take i)).length + (cb (pre L) (L.getD i it0)).length))) = 4092 - (cst L + (cells (pre L) (L.take i)).length) by omega]]
 rw [splice_mid hX (by simp)]
 unfold laid
 rw [cells_snoc _ _ _ hi]
 simp only [List.append_assoc]
theorem laid_len (L : List It) (i : Nat) (hi : i ≤ L.length) (h : cst L + (cells (pre L) (L.take i)).length ≤ 4092) : (laid L i).length = 4092 := by
 unfold laid
 simp only [List.length_append, slots_len, List.length_replicate, List.length_take]
 have : cst L = (headB L).length + 2 * L.length := rfl
 omega
theorem cst_le {L : List It} (h : wrong L = 0) (h2 : size L ≤ 4092) (i : Nat) : cst L + (cells (pre L) (L.take i)).length ≤ 4092 := by
 have h1 := used_len h
 have h3 := cells_mono (pre L) L i
 unfold used at h1
 rw [List.length_append, List.length_append, slots_len] at h1
 unfold cst
 omega
end Go.Proofs.YtcdkkhbkicejiaaGreatDoor
