import Derived.Test.YtnfelndfpmnkmaaGreatDoorQ8
import Derived.Test.YtnfelndfpmnkmaaGreatDoorQ3
namespace Go.Proofs.YtnfelndfpmnkmaaGreatDoor
structure It where
 key : List Int
 val : List Int
 size : Int
 first : Int
def it0 : It := ⟨[], [], 0, 0⟩
def pre : List It → Nat
 | [] => 0
 | x :: L => comAll x.key x.key.length (L.map It.key)
def lg (s : Int) : Nat := if s < 0 then 0 else if 262144 < s then 262144 else s.toNat
def tg (s : Int) : Nat := if 512 < lg s then 2 * lg s + 1 else 2 * lg s
def tl (s : Int) : Nat := if 512 < lg s then 4 else lg s
def vl (n : Nat) : Nat := (vform n).length
def cl (p : Nat) (x : It) : Nat := vl (x.key.length - p) + (x.key.length - p) + vl (tg x.size) + tl x.size
def sums (p : Nat) : List It → Nat
 | [] => 0
 | x :: L => 2 + cl p x + sums p L
def size (L : List It) : Nat := 3 + vl (pre L) + pre L + sums (pre L) L
def ws (x : It) : Bool := !(decide (1 ≤ x.key.length) && decide (x.key.length ≤ 255)) || decide (x.size < 0) || decide (262144 < x.size)
def cb (p : Nat) (x : It) : List Int := vform (x.key.length - p) ++ (x.key.drop p ++ (vform (tg x.size) ++ (if 512 < x.size then lb 4 x.first.toNat else x.val)))
def slots (p a : Nat) : List It → List Int
 | [] => []
 | x :: L => lb 2 a ++ slots p (a + (cb p x).length) L
def cells (p : Nat) : List It → List Int
 | [] => []
 | x :: L => cb p x ++ cells p L
def headB (L : List It) : List Int := lb 1 1 ++ (lb 2 L.length ++ (vform (pre L) ++ (L.headD it0).key.take (pre L)))
def used (L : List It) : List Int := headB L ++ (slots (pre L) ((headB L).length + 2 * L.length) L ++ cells (pre L) L)
def body (L : List It) : List Int := used L ++ List.replicate (4092 - (used L).length) 0
theorem com_prefix : ∀ (a b : List Int) (n : Nat), n ≤ com a b → a.take n = b.take n
 | _, _, 0, _ => by simp
 | [], b, n + 1, h => by rw [com_nil] at h; omega
 | a :: as, [], n + 1, h => by rw [com_nil2] at h; omega
 | a :: as, b :: bs, n + 1, h => by
  rw [com_cons] at h
  by_cases e : a = b
  ·rw [if_pos e] at h
   rw [List.take_succ_cons, List.take_succ_cons, e, com_prefix as bs n (by omega)]
  ·rw [if_neg e] at h; omega
theorem comAll_each (f : List Int) : ∀ (l : List (List Int)) (n : Nat), ∀ s ∈ l, comAll f n l ≤ com f s
 | [], _, s, h => by cases h
 | t :: l, n, s, h => by
  rw [comAll_cons]
  rcases List.mem_cons.1 h with rfl | h
  ·exact Nat.le_trans (comAll_le f l _) (Nat.min_le_right _ _)
  ·exact comAll_each f l _ s h
theorem com_of_take : ∀ (a b : List Int) (n : Nat), n ≤ a.length → n ≤ b.length → a.take n = b.take n → n ≤ com a b
 | _, _, 0, _, _, _ => Nat.zero_le _
 | [], _, n + 1, h, _, _ => by simp at h
 | _ :: _, [], n + 1, _, h, _ => by simp at h
 | a :: as, b :: bs, n + 1, h1, h2, h => by
  rw [List.take_succ_cons, List.take_succ_cons] at h
  injection h with e1 e2
  rw [com_cons, if_pos e1]
  have := com_of_take as bs n (by simpa using h1) (by simpa using h2) e2
  omega
theorem vl_le (n : Nat) : vl n ≤ 10 := vform_le n
theorem vl_pos (n : Nat) : 1 ≤ vl n := lf_pos 10 n (by omega)
end Go.Proofs.YtnfelndfpmnkmaaGreatDoor
namespace Go.Proofs.YtnfelndfpmnkmaaGreatDoor
def i64 (x : Nat) : Int := if x < 9223372036854775808 then (x : Int) else (x : Int) - 18446744073709551616
def sV (zs : List Int) (s : Nat × Int) : Nat × (Nat × Int) :=
 if s.2 = 0 then (if (rv (zs.drop s.1)).2.2 = 0 then ((rv (zs.drop s.1)).1, (s.1 + (rv (zs.drop s.1)).2.1, 0)) else (0, (s.1, (rv (zs.drop s.1)).2.2))) else (0, s)
def sB (zs : List Int) (s : Nat × Int) (m : Int) : List Int × (Nat × Int) :=
 if s.2 = 0 then (if m < 0 ∨ (zs.length : Int) - s.1 < m then ([], (s.1, 10)) else ((zs.drop s.1).take m.toNat, (s.1 + m.toNat, 0))) else ([], s)
def sN (zs : List Int) (s : Nat × Int) (k : Nat) : Nat × (Nat × Int) :=
 if s.2 = 0 then (if zs.length < s.1 + k then (0, (s.1, 10)) else (le k (zs.drop s.1), (s.1 + k, 0))) else (0, s)
def sKey (zs P : List Int) (s : Nat × Int) : List Int × (Nat × Int) :=
 (P ++ (sB zs (sV zs s).2 (i64 (sV zs s).1)).1, (sB zs (sV zs s).2 (i64 (sV zs s).1)).2)
theorem sV_at {zs t : List Int} {p x : Nat} (h : zs.drop p = vform x ++ t) (hx : x < 18446744073709551616) : sV zs (p, 0) = (x, (p + vl x, 0)) := by
 unfold sV
 simp only [if_pos, h, rv_vform x t hx]
 rfl
theorem sB_at {zs y t : List Int} {p : Nat} (h : zs.drop p = y ++ t) (hp : p ≤ zs.length) (m : Int) (hm : m = (y.length : Int)) : sB zs (p, 0) m = (y, (p + y.length, 0)) := by
 have hl := congrArg List.length h
 simp only [List.length_drop, List.length_append] at hl
 subst hm
 unfold sB
 rw [if_pos rfl, if_neg (by simp only; omega)]
 simp [h]
theorem sN_at {zs t : List Int} {p k x : Nat} (h : zs.drop p = lb k x ++ t) (hp : p ≤ zs.length) : sN zs (p, 0) k = (x % 256 ^ k, (p + k, 0)) := by
 have hl := congrArg List.length h
 simp only [List.length_drop, List.length_append, lb_len] at hl
 unfold sN
 rw [if_pos rfl, if_neg (by simp only; omega)]
 simp [h, le_lb]
theorem drop_on {zs y t : List Int} {p : Nat} (h : zs.drop p = y ++ t) : zs.drop (p + y.length) = t := by
 rw [← List.drop_drop, h, List.drop_left]
theorem place_on {zs y t : List Int} {p : Nat} (h : zs.drop p = y ++ t) (hp : p ≤ zs.length) : p + y.length ≤ zs.length := by
 have hl := congrArg List.length h
 simp only [List.length_drop, List.length_append] at hl
 omega
theorem i64_small {x : Nat} (h : x < 9223372036854775808) : i64 x = (x : Int) := by unfold i64; rw [if_pos h]
end Go.Proofs.YtnfelndfpmnkmaaGreatDoor
