import Derived.Test.YtoakngmagoilnaaQ4
import Derived.Laws.CopyOwn
namespace Go.Proofs.Ytoakngmagoilnaa
structure Kd where
 no : Int
 keys : Int
def kd0 : Kd := ⟨0, 0⟩
structure Sk where
 sep : List Int
 kid : Kd
def sk0 : Sk := ⟨[], kd0⟩
def bpre : List (List Int) → Nat
 | [] => 0
 | x :: L => comAll x x.length L
def bcl (p : Nat) (s : List Int) : Nat := vl (s.length - p) + (s.length - p) + 8
def bsums (p : Nat) : List (List Int) → Nat
 | [] => 0
 | x :: L => 2 + bcl p x + bsums p L
def bsize (L : List (List Int)) : Nat := 12 + vl (bpre L) + bpre L + bsums (bpre L) L
def wk (k : Kd) : Bool := decide (k.no < 2) || decide (524287 ≤ k.no) || decide (k.keys < 1) || decide (4294967295 < k.keys)
def wsep (s : List Int) : Bool := !(decide (1 ≤ s.length) && decide (s.length ≤ 255))
def bUp (L : List (List Int)) : Prop := ∀ i, i < L.length - 1 → cmpZ (L.getD i []) (L.getD (i + 1) []) < 0
def bups (L : List (List Int)) : Bool := (List.range (L.length - 1)).all fun i => decide (cmpZ (L.getD i []) (L.getD (i + 1) []) < 0)
theorem bups_iff (L : List (List Int)) : bups L = true ↔ bUp L := by
 unfold bups bUp
 simp
def bwrong (lv : Int) (L : List (List Int)) (K : List Kd) : Int :=
 if lv < 1 ∨ 15 < lv ∨ K.length ≠ L.length + 1 then 50 else if K.any wk then 51 else if L.any wsep then 41 else if bups L then (if 4092 < bsize L then 42 else 0) else 30
def seps (M : List Sk) : List (List Int) := M.map Sk.sep
def kids (k : Kd) (M : List Sk) : List Kd := k :: M.map Sk.kid
def kb (k : Kd) : List Int := lb 4 k.no.toNat ++ lb 4 k.keys.toNat
def bcb (p : Nat) (x : Sk) : List Int := vform (x.sep.length - p) ++ (x.sep.drop p ++ kb x.kid)
def bslots (p a : Nat) : List Sk → List Int
 | [] => []
 | x :: L => lb 2 a ++ bslots p (a + (bcb p x).length) L
def bcells (p : Nat) : List Sk → List Int
 | [] => []
 | x :: L => bcb p x ++ bcells p L
def bhead (lv : Int) (M : List Sk) : List Int := lb 1 2 ++ (lb 1 lv.toNat ++ (lb 2 (M.length + 1) ++ (vform (bpre (seps M)) ++ (M.headD sk0).sep.take (bpre (seps M)))))
def bkst (lv : Int) (M : List Sk) : Nat := (bhead lv M).length + 2 * M.length
def bused (lv : Int) (k : Kd) (M : List Sk) : List Int := bhead lv M ++ (bslots (bpre (seps M)) (bkst lv M + 8) M ++ (kb k ++ bcells (bpre (seps M)) M))
def bbody (lv : Int) (k : Kd) (M : List Sk) : List Int := bused lv k M ++ List.replicate (4092 - (bused lv k M).length) 0
def BGood (zs : List Int) (lv : Int) (k : Kd) (M : List Sk) : Prop := bwrong lv (seps M) (kids k M) = 0 ∧ bbody lv k M = zs
theorem kb_len (k : Kd) : (kb k).length = 8 := by unfold kb; rw [List.length_append, lb_len, lb_len]
theorem bpre_each {L : List (List Int)} : ∀ x ∈ L, bpre L ≤ x.length ∧ x.take (bpre L) = (L.headD []).take (bpre L) := by
 cases L with
 | nil => intro x h; cases h
 | cons y L =>
  intro x h
  have hp : bpre (y :: L) = comAll y y.length L := rfl
  rcases List.mem_cons.1 h with rfl | h
  ·exact ⟨by rw [hp]; exact comAll_le _ _ _, rfl⟩
  ·have h1 : bpre (y :: L) ≤ com y x := by rw [hp]; exact comAll_each _ _ _ _ h
   exact ⟨Nat.le_trans h1 (com_le2 _ _), (com_prefix _ _ _ h1).symm⟩
theorem seps_mem {M : List Sk} {x : Sk} (h : x ∈ M) : x.sep ∈ seps M := List.mem_map_of_mem h
theorem bpre_mono {L M : List (List Int)} (h : ∀ x ∈ M, x ∈ L) (hM : M ≠ []) : bpre L ≤ bpre M := by
 cases M with
 | nil => exact absurd rfl hM
 | cons y M =>
  show bpre L ≤ comAll y y.length M
  have hy := bpre_each y (h y List.mem_cons_self)
  refine comAll_max _ _ _ _ hy.1 fun x hs => ?_
  have hx := bpre_each x (h x (List.mem_cons_of_mem _ hs))
  exact com_of_take _ _ _ hy.1 hx.1 (hy.2.trans hx.2.symm)
theorem bcl_le (p : Nat) (x : List Int) : bcl p x ≤ x.length + 18 := by
 have h1 := vl_le (x.length - p)
 unfold bcl
 omega
theorem bsums_le (p K : Nat) : ∀ L : List (List Int), (∀ x ∈ L, x.length ≤ K) → bsums p L ≤ L.length * (K + 20)
 | [], _ => by simp [bsums]
 | x :: L, h => by
  have h1 := bcl_le p x
  have h2 := h x List.mem_cons_self
  have h3 := bsums_le p K L (fun y hy => h y (List.mem_cons_of_mem _ hy))
  rw [bsums, List.length_cons, Nat.add_mul]
  omega
theorem bsums_snoc (p : Nat) : ∀ (L : List (List Int)) (i : Nat), i < L.length → bsums p (L.take (i + 1)) = bsums p (L.take i) + (2 + bcl p (L.getD i []))
 | x :: L, 0, _ => by simp [bsums]
 | x :: L, i + 1, h => by
  have := bsums_snoc p L i (by simpa using h)
  simp only [List.take_succ_cons, bsums, List.getD_cons_succ]
  omega
structure Fit (lv : Int) (L : List (List Int)) (K : List Kd) : Prop where
 l1 : 1 ≤ lv
 l2 : lv ≤ 15
 len : K.length = L.length + 1
 kid : ∀ k ∈ K, wk k = false
 sep : ∀ s ∈ L, wsep s = false
 up : bUp L
 size : bsize L ≤ 4092
theorem bwrong_fit {lv : Int} {L : List (List Int)} {K : List Kd} : bwrong lv L K = 0 ↔ Fit lv L K := by
 constructor
 ·intro h
  unfold bwrong at h
  split at h
  ·omega
  ·rename_i h0
   split at h
   ·omega
   ·rename_i h1
    split at h
    ·omega
    ·rename_i h2
     split at h
     ·rename_i h3
      split at h
      ·omega
      ·rename_i h4
       exact ⟨by omega, by omega, by omega, fun x hx => by simpa using fun e => h1 (List.any_eq_true.2 ⟨x, hx, e⟩), fun x hx => by simpa using fun e => h2 (List.any_eq_true.2 ⟨x, hx, e⟩), (bups_iff L).1 h3, by omega⟩
     ·omega
 ·intro h
  have h1 : K.any wk = false := by
   rw [List.any_eq_false]; intro x hx; rw [h.kid x hx]; simp
  have h2 : L.any wsep = false := by
   rw [List.any_eq_false]; intro x hx; rw [h.sep x hx]; simp
  have a1 := h.l1
  have a2 := h.l2
  have a3 := h.len
  unfold bwrong
  rw [if_neg (by omega), h1, h2, (bups_iff L).2 h.up]
  simp [h.size]
theorem bcb_len (p : Nat) (x : Sk) : (bcb p x).length = bcl p x.sep := by
 unfold bcb bcl vl
 rw [List.length_append, List.length_append, kb_len, List.length_drop]
 omega
theorem bslots_len (p : Nat) : ∀ (L : List Sk) (a : Nat), (bslots p a L).length = 2 * L.length
 | [], _ => rfl
 | x :: L, a => by rw [bslots, List.length_append, lb_len, bslots_len p L, List.length_cons]; omega
theorem bcells_len (p : Nat) : ∀ M : List Sk, (bcells p M).length + 2 * M.length = bsums p (seps M)
 | [] => rfl
 | x :: M => by
  have := bcells_len p M
  rw [bcells, List.length_append, bcb_len, List.length_cons]
  show _ = 2 + bcl p x.sep + bsums p (seps M)
  omega
theorem bhead_len (lv : Int) (M : List Sk) : (bhead lv M).length = 4 + vl (bpre (seps M)) + bpre (seps M) := by
 have : bpre (seps M) ≤ (M.headD sk0).sep.length := by
  cases M with
  | nil => exact Nat.zero_le _
  | cons x L => exact (bpre_each x.sep (seps_mem (M := x :: L) List.mem_cons_self)).1
 unfold bhead vl
 simp only [List.length_append, lb_len, List.length_take]
 omega
theorem bused_len (lv : Int) (k : Kd) (M : List Sk) : (bused lv k M).length = bsize (seps M) := by
 have := bcells_len (bpre (seps M)) M
 unfold bused bsize
 rw [List.length_append, List.length_append, List.length_append, bslots_len, bhead_len, kb_len]
 omega
theorem bbody_len {lv : Int} {k : Kd} {M : List Sk} (h2 : bsize (seps M) ≤ 4092) : (bbody lv k M).length = 4092 := by
 unfold bbody
 rw [List.length_append, List.length_replicate, bused_len]
 omega
end Go.Proofs.Ytoakngmagoilnaa
namespace Go.Proofs.Ytoakngmagoilnaa
theorem lfl_step (k n : Nat) : (lf (k + 1) n).length = if n < 128 then 1 else 1 + (lf k (n / 128)).length := by
 rw [lf]
 split
 ·rfl
 ·rw [List.length_cons, Nat.add_comm]
theorem lfl_mono : ∀ (k a b : Nat), a ≤ b → (lf k a).length ≤ (lf k b).length
 | 0, a, b, _ => by simp [lf]
 | k + 1, a, b, h => by
  rw [lfl_step, lfl_step]
  have := lfl_mono k (a / 128) (b / 128) (by omega)
  split
  ·split <;> omega
  ·rw [if_neg (by omega)]; omega
theorem lfl_two : ∀ (k m : Nat), (lf k (2 * m + 1)).length ≤ (lf k m).length + 1
 | 0, m => by simp [lf]
 | k + 1, m => by
  rw [lfl_step, lfl_step]
  have h1 := lfl_two k (m / 128)
  have h2 := lfl_mono k ((2 * m + 1) / 128) (2 * (m / 128) + 1) (by omega)
  split
  ·split <;> omega
  ·split
   ·rename_i h3 h4
    have e : (2 * m + 1) / 128 = 1 := by omega
    rw [e]
    have : (lf k 1).length ≤ 1 := by
     cases k with
     | zero => simp [lf]
     | succ k => rw [lfl_step, if_pos (by omega)]; exact Nat.le_refl _
    omega
   ·omega
theorem lfl_le : ∀ (k d : Nat), 1 ≤ d → (lf k d).length ≤ d
 | 0, d, _ => by simp [lf]
 | k + 1, d, h => by
  rw [lfl_step]
  split
  ·exact h
  ·have := lfl_le k (d / 128) (by omega)
   omega
theorem vl_up {a b : Nat} (h : a ≤ b) : vl a ≤ vl b := lfl_mono 10 a b h
theorem vl_own {d : Nat} (h : 1 ≤ d) : vl d ≤ d := lfl_le 10 d h
theorem vl_add (p d : Nat) : vl (p + d) ≤ vl p + vl d := by
 have h1 := vl_pos p
 have h2 := vl_pos d
 rcases Nat.le_total p d with h | h
 ·have a := lfl_mono 10 (p + d) (2 * d + 1) (by omega)
  have b := lfl_two 10 d
  unfold vl vform at *
  omega
 ·have a := lfl_mono 10 (p + d) (2 * p + 1) (by omega)
  have b := lfl_two 10 p
  unfold vl vform at *
  omega
theorem cl_less' {p q : Nat} {x : It} (h : p ≤ q) (hq : q ≤ x.key.length) : cl q x + (q - p) ≤ cl p x := by
 have := vl_up (a := x.key.length - q) (b := x.key.length - p) (by omega)
 unfold cl; omega
theorem sums_less' {p q : Nat} (hpq : p ≤ q) : ∀ {M L : List It}, M.Sublist L → (∀ x ∈ M, q ≤ x.key.length) →
  sums q M + M.length * (q - p) + 4 * (L.length - M.length) ≤ sums p L
 | _, _, .slnil, _ => by simp [sums]
 | M, x :: L, .cons _ h, hM => by
  have := sums_less' hpq h hM
  have h2 := cl_pos p x
  have h3 := h.length_le
  rw [sums, List.length_cons]
  omega
 | x :: M, _ :: L, .cons_cons _ h, hM => by
  have := sums_less' hpq h (fun y hy => hM y (List.mem_cons_of_mem _ hy))
  have h2 := cl_less' hpq (hM x List.mem_cons_self)
  have h3 := h.length_le
  rw [sums, sums, List.length_cons, List.length_cons, Nat.add_mul, Nat.add_sub_add_right]
  omega
theorem pre_one (x : It) : pre [x] = x.key.length := rfl
theorem size_sub {M L : List It} (h : M.Sublist L) (hl : M.length < L.length) : size M < size L := by
 by_cases hM : M = []
 ·subst hM
  have h1 := sums_less' (p := pre L) (q := pre L) (Nat.le_refl _) (M := []) (List.nil_sublist L) (fun x hx => by cases hx)
  have h2 := vl_pos (pre L)
  have e : size [] = 4 := rfl
  rw [e]
  unfold size
  simp [sums] at h1 hl
  omega
 ·have hpq := pre_mono (fun x hx => h.subset hx) hM
  by_cases h1 : M.length = 1
  ·obtain ⟨x, rfl⟩ := List.length_eq_one_iff.1 h1
   have hq := pre_one x
   rw [hq] at hpq
   have a := sums_less' (p := pre L) (q := pre L) (Nat.le_refl _) h (fun y hy => by
    rw [List.mem_singleton] at hy; subst hy; exact hpq)
   have b := vl_add (pre L) (x.key.length - pre L)
   have c := vl_pos (x.key.length - pre L)
   have e : vl 0 = 1 := vl_small (by omega)
   rw [show pre L + (x.key.length - pre L) = x.key.length by omega] at b
   unfold size
   rw [hq]
   simp only [sums, cl, Nat.sub_self, e] at a ⊢
   simp only [List.length_cons, List.length_nil] at hl a
   omega
  ·have h2 : 2 ≤ M.length := by
    have := List.length_pos_iff.2 hM
    omega
   have a := sums_less' hpq h (fun x hx => (pre_each x hx).1)
   have b := vl_add (pre L) (pre M - pre L)
   rw [show pre L + (pre M - pre L) = pre M by omega] at b
   have c : 2 * (pre M - pre L) ≤ M.length * (pre M - pre L) := Nat.mul_le_mul_right _ h2
   unfold size
   by_cases hd : pre M - pre L = 0
   ·have e : pre M = pre L := by omega
    rw [e] at a ⊢
    omega
   ·have d := vl_own (d := pre M - pre L) (by omega)
    omega
theorem bcl_less' {p q : Nat} {x : List Int} (h : p ≤ q) (hq : q ≤ x.length) : bcl q x + (q - p) ≤ bcl p x := by
 have := vl_up (a := x.length - q) (b := x.length - p) (by omega)
 unfold bcl; omega
theorem bsums_less' {p q : Nat} (hpq : p ≤ q) : ∀ {M L : List (List Int)}, M.Sublist L → (∀ x ∈ M, q ≤ x.length) →
  bsums q M + M.length * (q - p) + 11 * (L.length - M.length) ≤ bsums p L
 | _, _, .slnil, _ => by simp [bsums]
 | M, x :: L, .cons _ h, hM => by
  have := bsums_less' hpq h hM
  have h2 := vl_pos (x.length - p)
  have h3 := h.length_le
  rw [bsums, List.length_cons]
  unfold bcl
  omega
 | x :: M, _ :: L, .cons_cons _ h, hM => by
  have := bsums_less' hpq h (fun y hy => hM y (List.mem_cons_of_mem _ hy))
  have h2 := bcl_less' hpq (hM x List.mem_cons_self)
  have h3 := h.length_le
  rw [bsums, bsums, List.length_cons, List.length_cons, Nat.add_mul, Nat.add_sub_add_right]
  omega
theorem bpre_one (x : List Int) : bpre [x] = x.length := rfl
theorem bsize_sub {M L : List (List Int)} (h : M.Sublist L) (hl : M.length < L.length) : bsize M < bsize L := by
 by_cases hM : M = []
 ·subst hM
  have h1 := bsums_less' (p := bpre L) (q := bpre L) (Nat.le_refl _) (M := []) (List.nil_sublist L) (fun x hx => by cases hx)
  have h2 := vl_pos (bpre L)
  have e : bsize [] = 13 := rfl
  rw [e]
  unfold bsize
  simp [bsums] at h1 hl
  omega
 ·have hpq := bpre_mono (fun x hx => h.subset hx) hM
  by_cases h1 : M.length = 1
  ·obtain ⟨x, rfl⟩ := List.length_eq_one_iff.1 h1
   have hq := bpre_one x
   rw [hq] at hpq
   have a := bsums_less' (p := bpre L) (q := bpre L) (Nat.le_refl _) h (fun y hy => by
    rw [List.mem_singleton] at hy; subst hy; exact hpq)
   have b := vl_add (bpre L) (x.length - bpre L)
   have c := vl_pos (x.length - bpre L)
   have e : vl 0 = 1 := vl_small (by omega)
   rw [show bpre L + (x.length - bpre L) = x.length by omega] at b
   unfold bsize
   rw [hq]
   simp only [bsums, bcl, Nat.sub_self, e] at a ⊢
   simp only [List.length_cons, List.length_nil] at hl a
   omega
  ·have h2 : 2 ≤ M.length := by
    have := List.length_pos_iff.2 hM
    omega
   have a := bsums_less' hpq h (fun x hx => (bpre_each x hx).1)
   have b := vl_add (bpre L) (bpre M - bpre L)
   rw [show bpre L + (bpre M - bpre L) = bpre M by omega] at b
   have c : 2 * (bpre M - bpre L) ≤ M.length * (bpre M - bpre L) := Nat.mul_le_mul_right _ h2
   unfold bsize
   by_cases hd : bpre M - bpre L = 0
   ·have e : bpre M = bpre L := by omega
    rw [e] at a ⊢
    omega
   ·have d := vl_own (d := bpre M - bpre L) (by omega)
    omega
def mx (f g : Nat → Nat) (i : Nat) : Nat := max (f i) (g i)
def Best (f g : Nat → Nat) (n r : Nat) : Prop :=
 (r = 0 ∧ ∀ i, 1 ≤ i → i ≤ n → 4092 < mx f g i) ∨
 (1 ≤ r ∧ r ≤ n ∧ mx f g r ≤ 4092 ∧ ∀ i, 1 ≤ i → i ≤ n → mx f g r ≤ mx f g i ∧ (i < r → mx f g r < mx f g i))
theorem Best.uniq {f g : Nat → Nat} {n r s : Nat} (h : Best f g n r) (k : Best f g n s) : r = s := by
 rcases h with ⟨h1, h2⟩ | ⟨h1, h2, h3, h4⟩ <;> rcases k with ⟨k1, k2⟩ | ⟨k1, k2, k3, k4⟩
 ·omega
 ·have := h2 s k1 k2; omega
 ·have := k2 r h1 h2; omega
 ·have a := h4 s k1 k2
  have b := k4 r h1 h2
  rcases Nat.lt_trichotomy r s with e | e | e
  ·have := b.2 e; omega
  ·exact e
  ·have := a.2 e; omega
theorem Best.none (f g : Nat → Nat) : Best f g 0 0 := .inl ⟨rfl, fun i h1 h2 => by omega⟩
structure Found (f g : Nat → Nat) (n k : Nat) : Prop where
 le : k ≤ n
 lo : 0 < k → f k < g k
 hi : k < n → g (k + 1) ≤ f (k + 1)
theorem best_place {f g : Nat → Nat} {n k : Nat} (hf : ∀ i j, 1 ≤ i → i < j → j ≤ n + 1 → f i < f j) (hg : ∀ i j, 1 ≤ i → i < j → j ≤ n + 1 → g j < g i) (h : Found f g n k) (r : Nat)
  (hr : r = if 1 < 1 + k ∧ mx f g k ≤ mx f g (1 + k) then k else 1 + k) : Best f g (n + 1) (if mx f g r ≤ 4092 then r else 0) := by
 have hk := h.le
 have below : ∀ i, 1 ≤ i → i < k → mx f g k < mx f g i := by
  intro i h1 h2
  have a := h.lo (by omega)
  have b := hg i k h1 h2 (by omega)
  unfold mx
  omega
 have above : ∀ i, 1 + k < i → i ≤ n + 1 → mx f g (1 + k) < mx f g i := by
  intro i h1 h2
  have a := h.hi (by omega)
  have b := hf (1 + k) i (by omega) h1 h2
  rw [Nat.add_comm] at a
  unfold mx
  omega
 have key : 1 ≤ r ∧ r ≤ n + 1 ∧ ∀ i, 1 ≤ i → i ≤ n + 1 → mx f g r ≤ mx f g i ∧ (i < r → mx f g r < mx f g i) := by
  by_cases hc : 1 < 1 + k ∧ mx f g k ≤ mx f g (1 + k)
  ·rw [if_pos hc] at hr
   subst hr
   refine ⟨by omega, by omega, fun i h1 h2 => ?_⟩
   rcases Nat.lt_trichotomy i r with e | e | e
   ·have := below i h1 e; omega
   ·subst e; omega
   ·by_cases e2 : i = 1 + r
    ·subst e2; omega
    ·have := above i (by omega) h2; omega
  ·rw [if_neg hc] at hr
   subst hr
   refine ⟨by omega, by omega, fun i h1 h2 => ?_⟩
   rcases Nat.lt_trichotomy i (1 + k) with e | e | e
   ·by_cases e2 : i = k
    ·subst e2
     have : ¬ mx f g i ≤ mx f g (1 + i) := fun q => hc ⟨by omega, q⟩
     omega
    ·have a := below i h1 (by omega)
     have : ¬ mx f g k ≤ mx f g (1 + k) := fun q => hc ⟨by omega, q⟩
     omega
   ·subst e; omega
   ·have := above i e h2; omega
 split
 ·rename_i h3
  exact .inr ⟨key.1, key.2.1, h3, key.2.2⟩
 ·rename_i h3
  exact .inl ⟨rfl, fun i h1 h2 => by have := (key.2.2 i h1 h2).1; omega⟩
def Scan (f g : Nat → Nat) (i best least : Nat) : Prop := Best f g i best ∧ (1 ≤ best → least = mx f g best)
theorem Scan.none (f g : Nat → Nat) : Scan f g 0 0 0 := ⟨Best.none f g, fun h => by omega⟩
theorem Scan.skip {f g : Nat → Nat} {i best least : Nat} (h : Scan f g i best least) (hx : 4092 < f (i + 1) ∨ 4092 < g (i + 1)) : Scan f g (i + 1) best least := by
 have hm : 4092 < mx f g (i + 1) := by unfold mx; omega
 refine ⟨?_, h.2⟩
 rcases h.1 with ⟨h1, h2⟩ | ⟨h1, h2, h3, h4⟩
 ·refine .inl ⟨h1, fun j a b => ?_⟩
  by_cases e : j = i + 1
  ·subst e; exact hm
  ·exact h2 j a (by omega)
 ·refine .inr ⟨h1, by omega, h3, fun j a b => ?_⟩
  by_cases e : j = i + 1
  ·subst e; omega
  ·exact h4 j a (by omega)
theorem Scan.take {f g : Nat → Nat} {i best least : Nat} (h : Scan f g i best least) (h1 : f (i + 1) ≤ 4092) (h2 : g (i + 1) ≤ 4092) (hx : best = 0 ∨ mx f g (i + 1) < least) : Scan f g (i + 1) (i + 1) (mx f g (i + 1)) := by
 have hm : mx f g (i + 1) ≤ 4092 := by unfold mx; omega
 refine ⟨.inr ⟨by omega, by omega, hm, fun j a b => ?_⟩, fun _ => rfl⟩
 by_cases e : j = i + 1
 ·subst e; omega
 ·rcases h.1 with ⟨k1, k2⟩ | ⟨k1, k2, k3, k4⟩
  ·have := k2 j a (by omega); omega
  ·have c := h.2 k1
   have := k4 j a (by omega)
   omega
theorem Scan.leave {f g : Nat → Nat} {i best least : Nat} (h : Scan f g i best least) (hx : best ≠ 0) (hl : least ≤ mx f g (i + 1)) : Scan f g (i + 1) best least := by
 refine ⟨?_, h.2⟩
 rcases h.1 with ⟨k1, k2⟩ | ⟨k1, k2, k3, k4⟩
 ·exact absurd k1 hx
 ·have c := h.2 k1
  refine .inr ⟨k1, by omega, k3, fun j a b => ?_⟩
  by_cases e : j = i + 1
  ·subst e; omega
  ·exact k4 j a (by omega)
theorem take_less (L : List It) {i j : Nat} (h : i < j) (hj : j ≤ L.length) : size (L.take i) < size (L.take j) :=
 size_sub (List.take_sublist_take_left (by omega)) (by rw [List.length_take, List.length_take]; omega)
theorem drop_less (L : List It) {i j : Nat} (h : i < j) (hj : j ≤ L.length) : size (L.drop j) < size (L.drop i) :=
 size_sub (List.drop_sublist_drop_left L (by omega)) (by rw [List.length_drop, List.length_drop]; omega)
theorem btake_less (L : List (List Int)) {i j : Nat} (h : i < j) (hj : j ≤ L.length) : bsize (L.take i) < bsize (L.take j) :=
 bsize_sub (List.take_sublist_take_left (by omega)) (by rw [List.length_take, List.length_take]; omega)
theorem bdrop_less (L : List (List Int)) {i j : Nat} (h : i < j) (hj : j ≤ L.length) : bsize (L.drop j) < bsize (L.drop i) :=
 bsize_sub (List.drop_sublist_drop_left L (by omega)) (by rw [List.length_drop, List.length_drop]; omega)
end Go.Proofs.Ytoakngmagoilnaa
namespace Go.Proofs.Ytoakngmagoilnaa
def cst (L : List It) : Nat := (headB L).length + 2 * L.length
def laid (L : List It) (i : Nat) : List Int :=
 headB L ++ (slots (pre L) (cst L) (L.take i) ++ (List.replicate (2 * (L.length - i)) 0 ++ (cells (pre L) (L.take i) ++ List.replicate (4092 - (cst L + (cells (pre L) (L.take i)).length)) 0)))
end Go.Proofs.Ytoakngmagoilnaa
