import Derived.Test.YtmbbflfknldaoaaGreatDoorQ3
import Derived.Test.YtmbbflfknldaoaaGreatDoorQ1
namespace Go.Proofs.YtmbbflfknldaoaaGreatDoor
structure It where
 key : List Int
 val : List Int
 size : Int
 first : Int
def it0 : It := ⟨[], [], 0, 0⟩
def pre : List It → Nat
 | [] => 0
 | x :: L => comAll x.key x.key.length (L.map It.key)
def lg (s : Int) : Nat := if s < 0 then 0 else if 262144 < s then 262144 else s.toNat
def tg (s : Int) : Nat := if 512 < lg s then 2 * lg s + 1 else 2 * lg s
def tl (s : Int) : Nat := if 512 < lg s then 4 else lg s
def vl (n : Nat) : Nat := (vform n).length
def cl (p : Nat) (x : It) : Nat := vl (x.key.length - p) + (x.key.length - p) + vl (tg x.size) + tl x.size
def sums (p : Nat) : List It → Nat
 | [] => 0
 | x :: L => 2 + cl p x + sums p L
def size (L : List It) : Nat := 3 + vl (pre L) + pre L + sums (pre L) L
def cb (p : Nat) (x : It) : List Int := vform (x.key.length - p) ++ (x.key.drop p ++ (vform (tg x.size) ++ (if 512 < x.size then lb 4 x.first.toNat else x.val)))
def slots (p a : Nat) : List It → List Int
 | [] => []
 | x :: L => lb 2 a ++ slots p (a + (cb p x).length) L
def cells (p : Nat) : List It → List Int
 | [] => []
 | x :: L => cb p x ++ cells p L
def headB (L : List It) : List Int := lb 1 1 ++ (lb 2 L.length ++ (vform (pre L) ++ (L.headD it0).key.take (pre L)))
def used (L : List It) : List Int := headB L ++ (slots (pre L) ((headB L).length + 2 * L.length) L ++ cells (pre L) L)
def body (L : List It) : List Int := used L ++ List.replicate (4092 - (used L).length) 0
end Go.Proofs.YtmbbflfknldaoaaGreatDoor
namespace Go.Proofs.YtmbbflfknldaoaaGreatDoor
def i64 (x : Nat) : Int := if x < 9223372036854775808 then (x : Int) else (x : Int) - 18446744073709551616
def sB (zs : List Int) (s : Nat × Int) (m : Int) : List Int × (Nat × Int) :=
 if s.2 = 0 then (if m < 0 ∨ (zs.length : Int) - s.1 < m then ([], (s.1, 10)) else ((zs.drop s.1).take m.toNat, (s.1 + m.toNat, 0))) else ([], s)
def inR (x : Int) : Bool := decide (2 ≤ x) && decide (x ≤ 524286)
def nOk (x : Int) : Bool := decide (x = 0) || inR x
def cnt (x : Int) (n full : Nat) : Bool := decide (full < n) || (decide (x ≠ 0) && decide (n < full))
def eD (x : Int) (n : Nat) : Int := if nOk x = false then 51 else if (decide (n = 0) || cnt x n 4085) = true then 62 else 0
def ris (xs : List Int) : Bool := (List.range (xs.length - 1)).all fun i => decide (xs.getD i 0 < xs.getD (i + 1) 0)
def badL (x : Int) (xs : List Int) : Bool := cnt x xs.length 1021 || (!(xs.all inR) || !(ris xs))
def eL (x : Int) (xs : List Int) : Int := if nOk x = false then 51 else if badL x xs = true then 63 else 0
theorem inR_iff {x : Int} : inR x = true ↔ 2 ≤ x ∧ x ≤ 524286 := by simp [inR]
theorem nOk_nat {x : Int} (h : nOk x = true) : ∃ k : Nat, x = (k : Int) ∧ k ≤ 524286 := by
 simp only [nOk, Bool.or_eq_true, decide_eq_true_eq, inR_iff] at h
 exact ⟨x.toNat, by omega, by omega⟩
theorem eD_zero {x : Int} {n : Nat} (h : eD x n = 0) : nOk x = true ∧ 0 < n ∧ n ≤ 4085 ∧ (decide (n = 0) || cnt x n 4085) = false := by
 unfold eD at h
 split at h
 ·exact absurd h (by decide)
 ·split at h
  ·exact absurd h (by decide)
  ·rename_i h1 h2
   have h3 : (decide (n = 0) || cnt x n 4085) = false := by simpa using h2
   refine ⟨by simpa using h1, ?_, ?_, h3⟩
   ·simp only [Bool.or_eq_false_iff, decide_eq_false_iff_not] at h3; omega
   ·simp only [Bool.or_eq_false_iff, decide_eq_false_iff_not, cnt] at h3; omega
theorem eL_zero {x : Int} {xs : List Int} (h : eL x xs = 0) : nOk x = true ∧ xs.length ≤ 1021 ∧ xs.all inR = true ∧ badL x xs = false := by
 unfold eL at h
 split at h
 ·exact absurd h (by decide)
 ·split at h
  ·exact absurd h (by decide)
  ·rename_i h1 h2
   have h3 : badL x xs = false := by simpa using h2
   have h4 := h3
   simp only [badL, cnt, Bool.or_eq_false_iff, decide_eq_false_iff_not, Bool.not_eq_false'] at h4
   exact ⟨by simpa using h1, by omega, h4.2.1, h3⟩
def hd (k x n : Nat) : List Int := (k : Int) :: (lb 4 x ++ lb 2 n)
theorem hd_len (k x n : Nat) : (hd k x n).length = 7 := by simp [hd, lb_len]
def dB (x : Nat) (zs : List Int) : List Int := hd 3 x zs.length ++ (zs ++ List.replicate (4085 - zs.length) 0)
def fl (xs : List Int) : List Int := (xs.map (fun v => lb 4 v.toNat)).flatten
def lB (x : Nat) (xs : List Int) : List Int := hd 4 x xs.length ++ (fl xs ++ List.replicate (4085 - 4 * xs.length) 0)
theorem fl_nil : fl [] = [] := rfl
theorem fl_cons (v : Int) (xs : List Int) : fl (v :: xs) = lb 4 v.toNat ++ fl xs := by simp [fl]
theorem fl_app (xs ys : List Int) : fl (xs ++ ys) = fl xs ++ fl ys := by simp [fl]
theorem fl_len : ∀ xs : List Int, (fl xs).length = 4 * xs.length
 | [] => rfl
 | v :: xs => by rw [fl_cons, List.length_append, lb_len, fl_len xs, List.length_cons]; omega
theorem dB_len {x : Nat} {zs : List Int} (h : zs.length ≤ 4085) : (dB x zs).length = 4092 := by
 unfold dB; rw [List.length_append, List.length_append, hd_len, List.length_replicate]; omega
theorem lB_len {x : Nat} {xs : List Int} (h : xs.length ≤ 1021) : (lB x xs).length = 4092 := by
 unfold lB; rw [List.length_append, List.length_append, hd_len, List.length_replicate, fl_len]; omega
def rN (bs : List Int) : Nat := le 4 (bs.drop 1)
def rC (bs : List Int) : Nat := le 2 (bs.drop 5)
def rD (bs : List Int) : List Int := if rC bs ≤ 4085 then (bs.drop 7).take (rC bs) else []
def rL (bs : List Int) (m : Nat) : List Int := (List.range m).map fun i => ((le 4 (bs.drop (7 + 4 * i)) : Nat) : Int)
def dD (bs : List Int) : Bool := decide (bs.length = 4092) && (decide (eD (rN bs) (rD bs).length = 0) && decide (dB (rN bs) (rD bs) = bs))
def dL (bs : List Int) : Bool := decide (bs.length = 4092) && (decide (rC bs ≤ 1021) && (decide (eL (rN bs) (rL bs (rC bs)) = 0) && decide (lB (rN bs) (rL bs (rC bs)) = bs)))
theorem hd_drop1 (k x n : Nat) (t : List Int) : (hd k x n ++ t).drop 1 = lb 4 x ++ (lb 2 n ++ t) := by simp [hd]
theorem hd_drop5 (k x n : Nat) (t : List Int) : (hd k x n ++ t).drop 5 = lb 2 n ++ t := by
 rw [show (5 : Nat) = 1 + 4 from rfl, ← List.drop_drop, hd_drop1, List.drop_left' (lb_len 4 x)]
theorem hd_drop7 (k x n : Nat) (t : List Int) : (hd k x n ++ t).drop 7 = t := List.drop_left' (hd_len k x n)
theorem rN_hd {k x n : Nat} {t : List Int} (hx : x < 4294967296) : rN (hd k x n ++ t) = x := by
 unfold rN; rw [hd_drop1, le_lb]; exact Nat.mod_eq_of_lt (by omega)
theorem rC_hd {k x n : Nat} {t : List Int} (hn : n < 65536) : rC (hd k x n ++ t) = n := by
 unfold rC; rw [hd_drop5, le_lb]; exact Nat.mod_eq_of_lt (by omega)
theorem rD_dB {x : Nat} {zs : List Int} (h : zs.length ≤ 4085) : rD (dB x zs) = zs := by
 unfold rD
 have e : rC (dB x zs) = zs.length := rC_hd (by omega)
 rw [e, if_pos h]
 unfold dB
 rw [hd_drop7, List.take_left]
theorem rL_len (bs : List Int) (m : Nat) : (rL bs m).length = m := by simp [rL]
theorem rL_snoc (bs : List Int) (m : Nat) : rL bs (m + 1) = rL bs m ++ [((le 4 (bs.drop (7 + 4 * m)) : Nat) : Int)] := by
 simp [rL, List.range_succ]
theorem dD_dB {x : Nat} {zs : List Int} (h : eD x zs.length = 0) : dD (dB x zs) = true ∧ rN (dB x zs) = x ∧ rD (dB x zs) = zs := by
 obtain ⟨h1, h2, h3, _⟩ := eD_zero h
 obtain ⟨k, hk, hk2⟩ := nOk_nat h1
 have e1 : rN (dB x zs) = x := rN_hd (by omega)
 have e2 := rD_dB (x := x) h3
 refine ⟨?_, e1, e2⟩
 unfold dD
 rw [e1, e2]
 simp [dB_len h3, h]
theorem dD_parts {bs : List Int} (h : dD bs = true) : bs.length = 4092 ∧ eD (rN bs) (rD bs).length = 0 ∧ dB (rN bs) (rD bs) = bs := by
 simp only [dD, Bool.and_eq_true, decide_eq_true_eq] at h
 exact ⟨h.1, h.2.1, h.2.2⟩
theorem dL_parts {bs : List Int} (h : dL bs = true) : bs.length = 4092 ∧ rC bs ≤ 1021 ∧ eL (rN bs) (rL bs (rC bs)) = 0 ∧ lB (rN bs) (rL bs (rC bs)) = bs := by
 simp only [dL, Bool.and_eq_true, decide_eq_true_eq] at h
 exact ⟨h.1, h.2.1, h.2.2.1, h.2.2.2⟩
theorem hd_bt {k x n : Nat} (hk : k ≤ 255) : Bt (hd k x n) := Bt.cons ⟨by omega, by omega⟩ (Bt.app (lb_bt 4 x) (lb_bt 2 n))
theorem rep_bt (n : Nat) : Bt (List.replicate n (0 : Int)) := fun z hz => by have := (List.mem_replicate.1 hz).2; omega
theorem fl_bt : ∀ xs : List Int, Bt (fl xs)
 | [] => Bt.nil
 | v :: xs => by rw [fl_cons]; exact Bt.app (lb_bt 4 _) (fl_bt xs)
theorem dB_bt {x : Nat} {zs : List Int} (h : Bt zs) : Bt (dB x zs) := Bt.app (hd_bt (by omega)) (Bt.app h (rep_bt _))
theorem lB_bt (x : Nat) (xs : List Int) : Bt (lB x xs) := Bt.app (hd_bt (by omega)) (Bt.app (fl_bt xs) (rep_bt _))
theorem rN_lt {bs : List Int} (h : Bt bs) : rN bs < 4294967296 := le_lt 4 _ (h.drop 1)
theorem rC_lt {bs : List Int} (h : Bt bs) : rC bs < 65536 := le_lt 2 _ (h.drop 5)
theorem dL_short {bs : List Int} (h : ¬ rC bs ≤ 1021) : lB (rN bs) (rL bs 1021) ≠ bs := by
 intro e
 have h1 : rC (lB (rN bs) (rL bs 1021)) = (rL bs 1021).length := rC_hd (by rw [rL_len]; omega)
 rw [e, rL_len] at h1
 omega
def pg (n : Nat) : Nat := if n ≤ 512 ∨ 262144 < n then 0 else (n + 4084) / 4085
def pc (zs : List Int) (i : Nat) : List Int := (zs.drop (4085 * i)).take 4085
def pcs (zs : List Int) (m : Nat) : List (List Int) := (List.range m).map (pc zs)
theorem pcs_len (zs : List Int) (m : Nat) : (pcs zs m).length = m := by simp [pcs]
theorem pcs_get (zs : List Int) (m i : Nat) (h : i < m) : (pcs zs m).getD i [] = pc zs i := by simp [pcs, List.getD, h]
theorem pcs_snoc (zs : List Int) (m : Nat) : pcs zs (m + 1) = pcs zs m ++ [pc zs m] := by simp [pcs, List.range_succ]
theorem pc_len (zs : List Int) (i : Nat) : (pc zs i).length = min 4085 (zs.length - 4085 * i) := by simp [pc]
theorem pg_in {n : Nat} {i : Nat} (h : i < pg n) : 512 < n ∧ n ≤ 262144 ∧ 4085 * i < n := by
 unfold pg at h
 split at h
 ·omega
 ·omega
theorem pg_le (n : Nat) : pg n ≤ 65 := by unfold pg; split <;> omega
theorem pc_bt {zs : List Int} (h : Bt zs) (i : Nat) : Bt (pc zs i) := (h.drop _).take _
end Go.Proofs.YtmbbflfknldaoaaGreatDoor
