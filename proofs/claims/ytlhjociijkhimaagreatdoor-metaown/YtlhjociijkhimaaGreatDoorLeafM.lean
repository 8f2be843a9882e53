import Derived.Test.YtlhjociijkhimaaGreatDoorMath
import Derived.Test.YtlhjociijkhimaaGreatDoorKeysM
namespace Go.Proofs.YtlhjociijkhimaaGreatDoor

/-- An item: its key's and its value's bytes, its Size and its First. -/
structure It where
  key : List Int
  val : List Int
  size : Int
  first : Int

def it0 : It := ⟨[], [], 0, 0⟩

/-- How many bytes all keys have in common from their beginning on. -/
def pre : List It → Nat
  | [] => 0
  | x :: L => comAll x.key x.key.length (L.map It.key)

/-- A Size as it counts. -/
def lg (s : Int) : Nat := if s < 0 then 0 else if 262144 < s then 262144 else s.toNat
/-- The tag of a Size. -/
def tg (s : Int) : Nat := if 512 < lg s then 2 * lg s + 1 else 2 * lg s
def tl (s : Int) : Nat := if 512 < lg s then 4 else lg s
def vl (n : Nat) : Nat := (vform n).length
def cl (p : Nat) (x : It) : Nat := vl (x.key.length - p) + (x.key.length - p) + vl (tg x.size) + tl x.size
def sums (p : Nat) : List It → Nat
  | [] => 0
  | x :: L => 2 + cl p x + sums p L
def size (L : List It) : Nat := 3 + vl (pre L) + pre L + sums (pre L) L

def ws (x : It) : Bool := !(decide (1 ≤ x.key.length) && decide (x.key.length ≤ 255)) || decide (x.size < 0) || decide (262144 < x.size)
def wv (x : It) : Bool := if 512 < x.size then decide (x.val.length ≠ 0) || decide (x.first < 2) || decide (524287 ≤ x.first) else decide ((x.val.length : Int) ≠ x.size) || decide (x.first ≠ 0)
def Up (L : List It) : Prop := ∀ i, i < L.length - 1 → cmpZ (L.getD i it0).key (L.getD (i + 1) it0).key < 0
def ups (L : List It) : Bool := (List.range (L.length - 1)).all fun i => decide (cmpZ (L.getD i it0).key (L.getD (i + 1) it0).key < 0)
theorem ups_iff (L : List It) : ups L = true ↔ Up L := by
  unfold ups Up
  simp
/-- The items' error. -/
def wrong (L : List It) : Int := if L.length = 0 then 40 else if L.any ws then 41 else if L.any wv then 40 else if ups L then 0 else 30

def cb (p : Nat) (x : It) : List Int := vform (x.key.length - p) ++ (x.key.drop p ++ (vform (tg x.size) ++ (if 512 < x.size then lb 4 x.first.toNat else x.val)))
def slots (p a : Nat) : List It → List Int
  | [] => []
  | x :: L => lb 2 a ++ slots p (a + (cb p x).length) L
def cells (p : Nat) : List It → List Int
  | [] => []
  | x :: L => cb p x ++ cells p L
def headB (L : List It) : List Int := lb 1 1 ++ (lb 2 L.length ++ (vform (pre L) ++ (L.headD it0).key.take (pre L)))
def used (L : List It) : List Int := headB L ++ (slots (pre L) ((headB L).length + 2 * L.length) L ++ cells (pre L) L)
/-- The body. -/
def body (L : List It) : List Int := used L ++ List.replicate (4092 - (used L).length) 0
/-- These items may be, fit, and have that body. -/
def Good (zs : List Int) (L : List It) : Prop := wrong L = 0 ∧ size L ≤ 4092 ∧ body L = zs

/-! ### What all keys have in common -/

theorem com_prefix : ∀ (a b : List Int) (n : Nat), n ≤ com a b → a.take n = b.take n
  | _, _, 0, _ => by simp
  | [], b, n + 1, h => by rw [com_nil] at h; omega
  | a :: as, [], n + 1, h => by rw [com_nil2] at h; omega
  | a :: as, b :: bs, n + 1, h => by
    rw [com_cons] at h
    by_cases e : a = b
    · rw [if_pos e] at h
      rw [List.take_succ_cons, List.take_succ_cons, e, com_prefix as bs n (by omega)]
    · rw [if_neg e] at h; omega

theorem comAll_each (f : List Int) : ∀ (l : List (List Int)) (n : Nat), ∀ s ∈ l, comAll f n l ≤ com f s
  | [], _, s, h => by cases h
  | t :: l, n, s, h => by
    rw [comAll_cons]
    rcases List.mem_cons.1 h with rfl | h
    · exact Nat.le_trans (comAll_le f l _) (Nat.min_le_right _ _)
    · exact comAll_each f l _ s h

theorem comAll_max (f : List Int) : ∀ (l : List (List Int)) (n m : Nat), m ≤ n → (∀ s ∈ l, m ≤ com f s) → m ≤ comAll f n l
  | [], _, _, h, _ => h
  | t :: l, n, m, h, k => by
    rw [comAll_cons]
    exact comAll_max f l _ m (by have := k t List.mem_cons_self; omega) (fun s hs => k s (List.mem_cons_of_mem _ hs))

theorem com_self : ∀ a : List Int, com a a = a.length
  | [] => rfl
  | a :: as => by rw [com_cons, if_pos rfl, com_self as]; rfl

theorem com_of_take : ∀ (a b : List Int) (n : Nat), n ≤ a.length → n ≤ b.length → a.take n = b.take n → n ≤ com a b
  | _, _, 0, _, _, _ => Nat.zero_le _
  | [], _, n + 1, h, _, _ => by simp at h
  | _ :: _, [], n + 1, _, h, _ => by simp at h
  | a :: as, b :: bs, n + 1, h1, h2, h => by
    rw [List.take_succ_cons, List.take_succ_cons] at h
    injection h with e1 e2
    rw [com_cons, if_pos e1]
    have := com_of_take as bs n (by simpa using h1) (by simpa using h2) e2
    omega

theorem pre_each {L : List It} : ∀ x ∈ L, pre L ≤ x.key.length ∧ x.key.take (pre L) = (L.headD it0).key.take (pre L) := by
  cases L with
  | nil => intro x h; cases h
  | cons y L =>
    intro x h
    have hp : pre (y :: L) = comAll y.key y.key.length (L.map It.key) := rfl
    rcases List.mem_cons.1 h with rfl | h
    · exact ⟨by rw [hp]; exact comAll_le _ _ _, rfl⟩
    · have h1 : pre (y :: L) ≤ com y.key x.key := by rw [hp]; exact comAll_each _ _ _ _ (List.mem_map_of_mem h)
      exact ⟨Nat.le_trans h1 (com_le2 _ _), (com_prefix _ _ _ h1).symm⟩

theorem pre_key {L : List It} {x : It} (h : x ∈ L) : (L.headD it0).key.take (pre L) ++ x.key.drop (pre L) = x.key := by
  rw [← (pre_each x h).2, List.take_append_drop]

/-- Where items are left out, the rest has as much in common and more. -/
theorem pre_mono {L M : List It} (h : ∀ x ∈ M, x ∈ L) (hM : M ≠ []) : pre L ≤ pre M := by
  cases M with
  | nil => exact absurd rfl hM
  | cons y M =>
    show pre L ≤ comAll y.key y.key.length (M.map It.key)
    have hy := pre_each y (h y List.mem_cons_self)
    refine comAll_max _ _ _ _ hy.1 fun s hs => ?_
    obtain ⟨x, hx, rfl⟩ := List.mem_map.1 hs
    have hx := pre_each x (h x (List.mem_cons_of_mem _ hx))
    exact com_of_take _ _ _ hy.1 hx.1 (hy.2.trans hx.2.symm)

/-! ### Lengths -/

theorem vl_le (n : Nat) : vl n ≤ 10 := vform_le n
theorem vl_pos (n : Nat) : 1 ≤ vl n := lf_pos 10 n (by omega)
theorem vl_small {n : Nat} (h : n < 128) : vl n = 1 := by
  unfold vl vform
  rw [lf, if_pos h]; rfl
theorem vl_two {n : Nat} (h : 128 ≤ n) (h2 : n < 16384) : vl n = 2 := by
  unfold vl vform
  rw [lf, if_neg (by omega), lf, if_pos (by omega)]; rfl
theorem lg_le (s : Int) : lg s ≤ 262144 := by 
  unfold lg
  split
  · omega
  · split <;> omega
theorem tl_le (s : Int) : tl s ≤ 512 := by unfold tl; split <;> omega
theorem tg_lt (s : Int) : tg s < 1048576 := by
  have := lg_le s
  unfold tg; split <;> omega
theorem cl_le (p : Nat) (x : It) : cl p x ≤ x.key.length + 532 := by
  have h1 := vl_le (x.key.length - p)
  have h2 := vl_le (tg x.size)
  have h3 := tl_le x.size
  unfold cl
  omega
theorem sums_le (p K : Nat) : ∀ L : List It, (∀ x ∈ L, x.key.length ≤ K) → sums p L ≤ L.length * (K + 534)
  | [], _ => by simp [sums]
  | x :: L, h => by
    have h1 := cl_le p x
    have h2 := h x List.mem_cons_self
    have h3 := sums_le p K L (fun y hy => h y (List.mem_cons_of_mem _ hy))
    rw [sums, List.length_cons, Nat.add_mul]
    omega
theorem sums_snoc (p : Nat) : ∀ (L : List It) (i : Nat), i < L.length → sums p (L.take (i + 1)) = sums p (L.take i) + (2 + cl p (L.getD i it0))
  | x :: L, 0, _ => by simp [sums]
  | x :: L, i + 1, h => by
    have := sums_snoc p L i (by simpa using h)
    simp only [List.take_succ_cons, sums, List.getD_cons_succ]
    omega

theorem wrong_parts {L : List It} (h : wrong L = 0) : L.length ≠ 0 ∧ (∀ x ∈ L, ws x = false) ∧ (∀ x ∈ L, wv x = false) ∧ Up L := by
  unfold wrong at h
  split at h
  · omega
  · rename_i h0
    split at h
    · omega
    · rename_i h1
      split at h
      · omega
      · rename_i h2
        split at h
        · rename_i h3
          exact ⟨h0, fun x hx => by simpa using fun e => h1 (List.any_eq_true.2 ⟨x, hx, e⟩), fun x hx => by simpa using fun e => h2 (List.any_eq_true.2 ⟨x, hx, e⟩), (ups_iff L).1 h3⟩
        · omega

theorem ws_parts {x : It} (h : ws x = false) : 1 ≤ x.key.length ∧ x.key.length ≤ 255 ∧ 0 ≤ x.size ∧ x.size ≤ 262144 := by
  unfold ws at h
  simp at h
  omega
theorem wv_parts {x : It} (h : wv x = false) : (512 < x.size ∧ x.val = [] ∧ 2 ≤ x.first ∧ x.first < 524287) ∨ (x.size ≤ 512 ∧ (x.val.length : Int) = x.size ∧ x.first = 0) := by
  unfold wv at h
  split at h
  · simp at h
    exact .inl ⟨by assumption, h.1.1, by omega, by omega⟩
  · simp at h
    exact .inr ⟨by omega, h.1, h.2⟩
theorem lg_of {s : Int} (h1 : 0 ≤ s) (h2 : s ≤ 262144) : lg s = s.toNat := by
  unfold lg
  rw [if_neg (by omega), if_neg (by omega)]

theorem cb_len {p : Nat} {x : It} (h1 : ws x = false) (h2 : wv x = false) : (cb p x).length = cl p x := by
  have a := ws_parts h1
  have e := lg_of a.2.2.1 a.2.2.2
  unfold cb cl tl vl
  rw [e]
  simp only [List.length_append, List.length_drop]
  rcases wv_parts h2 with ⟨b1, b2, _⟩ | ⟨b1, b2, _⟩
  · rw [if_pos b1, if_pos (by omega), lb_len]; omega
  · rw [if_neg (by omega), if_neg (by omega)]; omega
theorem slots_len (p : Nat) : ∀ (L : List It) (a : Nat), (slots p a L).length = 2 * L.length
  | [], _ => rfl
  | x :: L, a => by rw [slots, List.length_append, lb_len, slots_len p L, List.length_cons]; omega
theorem cells_len {p : Nat} : ∀ {L : List It}, (∀ x ∈ L, ws x = false) → (∀ x ∈ L, wv x = false) → (cells p L).length + 2 * L.length = sums p L
  | [], _, _ => rfl
  | x :: L, h1, h2 => by
    have := cells_len (p := p) (L := L) (fun y hy => h1 y (List.mem_cons_of_mem _ hy)) (fun y hy => h2 y (List.mem_cons_of_mem _ hy))
    rw [cells, sums, List.length_append, List.length_cons, cb_len (h1 x List.mem_cons_self) (h2 x List.mem_cons_self)]
    omega
theorem head_len {L : List It} (h : L ≠ []) : (headB L).length = 3 + vl (pre L) + pre L := by
  cases L with
  | nil => exact absurd rfl h
  | cons x L =>
    have := (pre_each x (L := x :: L) List.mem_cons_self).1
    unfold headB vl
    simp only [List.length_append, lb_len, List.length_take, List.headD_cons]
    omega
theorem used_len {L : List It} (h : wrong L = 0) : (used L).length = size L := by
  obtain ⟨h0, h1, h2, _⟩ := wrong_parts h
  have hL : L ≠ [] := fun e => h0 (by rw [e]; rfl)
  have := cells_len (p := pre L) h1 h2
  unfold used size
  rw [List.length_append, List.length_append, slots_len, head_len hL]
  omega
theorem body_len {L : List It} (h : wrong L = 0) (h2 : size L ≤ 4092) : (body L).length = 4092 := by
  unfold body
  rw [List.length_append, List.length_replicate, used_len h]
  omega

/-! ### Fewer items are smaller (keys of at most 16,383 bytes) -/

theorem vl_mono {a b : Nat} (h : a ≤ b) (hb : b < 16384) : vl a ≤ vl b ∧ vl b ≤ vl a + 1 := by
  by_cases h1 : b < 128
  · rw [vl_small h1, vl_small (by omega)]; omega
  · rw [vl_two (by omega) hb]
    by_cases h2 : a < 128
    · rw [vl_small h2]; omega
    · rw [vl_two (by omega) (by omega)]; omega
theorem cl_pos (p : Nat) (x : It) : 2 ≤ cl p x := by
  have := vl_pos (x.key.length - p)
  have := vl_pos (tg x.size)
  unfold cl; omega
theorem cl_less {p q : Nat} {x : It} (h : p ≤ q) (hx : x.key.length < 16384) (hq : q ≤ x.key.length) : cl q x + (q - p) ≤ cl p x := by
  have := (vl_mono (a := x.key.length - q) (b := x.key.length - p) (by omega) (by omega)).1
  unfold cl; omega

theorem sums_less {p q : Nat} (hpq : p ≤ q) : ∀ {M L : List It}, M.Sublist L → (∀ x ∈ L, x.key.length < 16384) → (∀ x ∈ M, q ≤ x.key.length) →
    sums q M + M.length * (q - p) + 4 * (L.length - M.length) ≤ sums p L
  | _, _, .slnil, _, _ => by simp [sums]
  | M, x :: L, .cons _ h, hL, hM => by
    have := sums_less hpq h (fun y hy => hL y (List.mem_cons_of_mem _ hy)) hM
    have h2 := cl_pos p x
    have h3 := h.length_le
    rw [sums, List.length_cons]
    omega
  | x :: M, _ :: L, .cons_cons _ h, hL, hM => by
    have := sums_less hpq h (fun y hy => hL y (List.mem_cons_of_mem _ hy)) (fun y hy => hM y (List.mem_cons_of_mem _ hy))
    have h2 := cl_less hpq (hL x List.mem_cons_self) (hM x List.mem_cons_self)
    have h3 := h.length_le
    rw [sums, sums, List.length_cons, List.length_cons, Nat.add_mul, Nat.add_sub_add_right]
    omega

theorem size_less {M L : List It} (h : M.Sublist L) (hL : ∀ x ∈ L, x.key.length < 16384) (hl : M.length < L.length) : size M < size L := by
  by_cases hM : M = []
  · subst hM
    have h1 := sums_less (p := pre L) (q := pre L) (Nat.le_refl _) (M := []) (List.nil_sublist L) hL (fun x hx => by cases hx)
    have h2 := vl_pos (pre L)
    have e : size [] = 4 := rfl
    rw [e]
    unfold size
    simp [sums] at h1 hl
    omega
  · have hpq := pre_mono (fun x hx => h.subset hx) hM
    have h1 := sums_less hpq h hL (fun x hx => (pre_each x hx).1)
    obtain ⟨x, hx⟩ := List.exists_mem_of_ne_nil _ hM
    have h2 := (vl_mono hpq (Nat.lt_of_le_of_lt (pre_each x hx).1 (hL x (h.subset hx)))).2
    have h3 : 1 ≤ M.length := List.length_pos_iff.2 hM
    have h4 : pre M - pre L ≤ M.length * (pre M - pre L) := Nat.le_mul_of_pos_left _ h3
    unfold size
    omega
end Go.Proofs.YtlhjociijkhimaaGreatDoor
