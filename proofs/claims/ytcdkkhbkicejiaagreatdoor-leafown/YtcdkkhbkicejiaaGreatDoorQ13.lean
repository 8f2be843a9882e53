import Derived.Test.YtcdkkhbkicejiaaGreatDoorQ3
import Derived.Test.YtcdkkhbkicejiaaGreatDoorQ10
namespace Go.Proofs.YtcdkkhbkicejiaaGreatDoor
structure It where
 key : List Int
 val : List Int
 size : Int
 first : Int
def it0 : It := ⟨[], [], 0, 0⟩
def pre : List It → Nat
 | [] => 0
 | x :: L => comAll x.key x.key.length (L.map It.key)
def lg (s : Int) : Nat := if s < 0 then 0 else if 262144 < s then 262144 else s.toNat
def tg (s : Int) : Nat := if 512 < lg s then 2 * lg s + 1 else 2 * lg s
def tl (s : Int) : Nat := if 512 < lg s then 4 else lg s
def vl (n : Nat) : Nat := (vform n).length
def cl (p : Nat) (x : It) : Nat := vl (x.key.length - p) + (x.key.length - p) + vl (tg x.size) + tl x.size
def sums (p : Nat) : List It → Nat
 | [] => 0
 | x :: L => 2 + cl p x + sums p L
def size (L : List It) : Nat := 3 + vl (pre L) + pre L + sums (pre L) L
def ws (x : It) : Bool := !(decide (1 ≤ x.key.length) && decide (x.key.length ≤ 255)) || decide (x.size < 0) || decide (262144 < x.size)
def wv (x : It) : Bool := if 512 < x.size then decide (x.val.length ≠ 0) || decide (x.first < 2) || decide (524287 ≤ x.first) else decide ((x.val.length : Int) ≠ x.size) || decide (x.first ≠ 0)
def Up (L : List It) : Prop := ∀ i, i < L.length - 1 → cmpZ (L.getD i it0).key (L.getD (i + 1) it0).key < 0
def ups (L : List It) : Bool := (List.range (L.length - 1)).all fun i => decide (cmpZ (L.getD i it0).key (L.getD (i + 1) it0).key < 0)
theorem ups_iff (L : List It) : ups L = true ↔ Up L := by
 unfold ups Up
 simp
def wrong (L : List It) : Int := if L.length = 0 then 40 else if L.any ws then 41 else if L.any wv then 40 else if ups L then 0 else 30
def cb (p : Nat) (x : It) : List Int := vform (x.key.length - p) ++ (x.key.drop p ++ (vform (tg x.size) ++ (if 512 < x.size then lb 4 x.first.toNat else x.val)))
def slots (p a : Nat) : List It → List Int
 | [] => []
 | x :: L => lb 2 a ++ slots p (a + (cb p x).length) L
def cells (p : Nat) : List It → List Int
 | [] => []
 | x :: L => cb p x ++ cells p L
def headB (L : List It) : List Int := lb 1 1 ++ (lb 2 L.length ++ (vform (pre L) ++ (L.headD it0).key.take (pre L)))
def used (L : List It) : List Int := headB L ++ (slots (pre L) ((headB L).length + 2 * L.length) L ++ cells (pre L) L)
def body (L : List It) : List Int := used L ++ List.replicate (4092 - (used L).length) 0
def Good (zs : List Int) (L : List It) : Prop := wrong L = 0 ∧ size L ≤ 4092 ∧ body L = zs
theorem com_prefix : ∀ (a b : List Int) (n : Nat), n ≤ com a b → a.take n = b.take n
 | _, _, 0, _ => by simp
 | [], b, n + 1, h => by rw [com_nil] at h; omega
 | a :: as, [], n + 1, h => by rw [com_nil2] at h; omega
 | a :: as, b :: bs, n + 1, h => by
  rw [com_cons] at h
  by_cases e : a = b
  ·rw [if_pos e] at h
   rw [List.take_succ_cons, List.take_succ_cons, e, com_prefix as bs n (by omega)]
  ·rw [if_neg e] at h; omega
theorem comAll_each (f : List Int) : ∀ (l : List (List Int)) (n : Nat), ∀ s ∈ l, comAll f n l ≤ com f s
 | [], _, s, h => by cases h
 | t :: l, n, s, h => by
  rw [comAll_cons]
  rcases List.mem_cons.1 h with rfl | h
  ·exact Nat.le_trans (comAll_le f l _) (Nat.min_le_right _ _)
  ·exact comAll_each f l _ s h
theorem pre_each {L : List It} : ∀ x ∈ L, pre L ≤ x.key.length ∧ x.key.take (pre L) = (L.headD it0).key.take (pre L) := by
 cases L with
 | nil => intro x h; cases h
 | cons y L =>
  intro x h
  have hp : pre (y :: L) = comAll y.key y.key.length (L.map It.key) := rfl
  rcases List.mem_cons.1 h with rfl | h
  ·exact ⟨by rw [hp]; exact comAll_le _ _ _, rfl⟩
  ·have h1 : pre (y :: L) ≤ com y.key x.key := by rw [hp]; exact comAll_each _ _ _ _ (List.mem_map_of_mem h)
   exact ⟨Nat.le_trans h1 (com_le2 _ _), (com_prefix _ _ _ h1).symm⟩
theorem pre_key {L : List It} {x : It} (h : x ∈ L) : (L.headD it0).key.take (pre L) ++ x.key.drop (pre L) = x.key := by
 rw [← (pre_each x h).2, List.take_append_drop]
theorem vl_le (n : Nat) : vl n ≤ 10 := vform_le n
theorem lg_le (s : Int) : lg s ≤ 262144 := by 
 unfold lg
 split
 ·omega
 ·split <;> omega
theorem tl_le (s : Int) : tl s ≤ 512 := by unfold tl; split <;> omega
theorem tg_lt (s : Int) : tg s < 1048576 := by
 have := lg_le s
 unfold tg; split <;> omega
theorem cl_le (p : Nat) (x : It) : cl p x ≤ x.key.length + 532 := by
 have h1 := vl_le (x.key.length - p)
 have h2 := vl_le (tg x.size)
 have h3 := tl_le x.size
 unfold cl
 omega
theorem sums_le (p K : Nat) : ∀ L : List It, (∀ x ∈ L, x.key.length ≤ K) → sums p L ≤ L.length * (K + 534)
 | [], _ => by simp [sums]
 | x :: L, h => by
  have h1 := cl_le p x
  have h2 := h x List.mem_cons_self
  have h3 := sums_le p K L (fun y hy => h y (List.mem_cons_of_mem _ hy))
  rw [sums, List.length_cons, Nat.add_mul]
  omega
theorem sums_snoc (p : Nat) : ∀ (L : List It) (i : Nat), i < L.length → sums p (L.take (i + 1)) = sums p (L.take i) + (2 + cl p (L.getD i it0))
 | x :: L, 0, _ => by simp [sums]
 | x :: L, i + 1, h => by
  have := sums_snoc p L i (by simpa using h)
  simp only [List.take_succ_cons, sums, List.getD_cons_succ]
  omega
theorem wrong_parts {L : List It} (h : wrong L = 0) : L.length ≠ 0 ∧ (∀ x ∈ L, ws x = false) ∧ (∀ x ∈ L, wv x = false) ∧ Up L := by
 unfold wrong at h
 split at h
 ·omega
 ·rename_i h0
  split at h
  ·omega
  ·rename_i h1
   split at h
   ·omega
   ·rename_i h2
    split at h
    ·rename_i h3
     exact ⟨h0, fun x hx => by simpa using fun e => h1 (List.any_eq_true.2 ⟨x, hx, e⟩), fun x hx => by simpa using fun e => h2 (List.any_eq_true.2 ⟨x, hx, e⟩), (ups_iff L).1 h3⟩
    ·omega
theorem ws_parts {x : It} (h : ws x = false) : 1 ≤ x.key.length ∧ x.key.length ≤ 255 ∧ 0 ≤ x.size ∧ x.size ≤ 262144 := by
 unfold ws at h
 simp at h
 omega
theorem wv_parts {x : It} (h : wv x = false) : (512 < x.size ∧ x.val = [] ∧ 2 ≤ x.first ∧ x.first < 524287) ∨ (x.size ≤ 512 ∧ (x.val.length : Int) = x.size ∧ x.first = 0) := by
 unfold wv at h
 split at h
 ·simp at h
  exact .inl ⟨by assumption, h.1.1, by omega, by omega⟩
 ·simp at h
  exact .inr ⟨by omega, h.1, h.2⟩
theorem lg_of {s : Int} (h1 : 0 ≤ s) (h2 : s ≤ 262144) : lg s = s.toNat := by
 unfold lg
 rw [if_neg (by omega), if_neg (by omega)]
theorem cb_len {p : Nat} {x : It} (h1 : ws x = false) (h2 : wv x = false) : (cb p x).length = cl p x := by
 have a := ws_parts h1
 have e := lg_of a.2.2.1 a.2.2.2
 unfold cb cl tl vl
 rw [e]
 simp only [List.length_append, List.length_drop]
 rcases wv_parts h2 with ⟨b1, b2, _⟩ | ⟨b1, b2, _⟩
 ·rw [if_pos b1, if_pos (by omega), lb_len]; omega
 ·rw [if_neg (by omega), if_neg (by omega)]; omega
theorem slots_len (p : Nat) : ∀ (L : List It) (a : Nat), (slots p a L).length = 2 * L.length
 | [], _ => rfl
 | x :: L, a => by rw [slots, List.length_append, lb_len, slots_len p L, List.length_cons]; omega
theorem cells_len {p : Nat} : ∀ {L : List It}, (∀ x ∈ L, ws x = false) → (∀ x ∈ L, wv x = false) → (cells p L).length + 2 * L.length = sums p L
 | [], _, _ => rfl
 | x :: L, h1, h2 => by
  have := cells_len (p := p) (L := L) (fun y hy => h1 y (List.mem_cons_of_mem _ hy)) (fun y hy => h2 y (List.mem_cons_of_mem _ hy))
  rw [cells, sums, List.length_append, List.length_cons, cb_len (h1 x List.mem_cons_self) (h2 x List.mem_cons_self)]
  omega
theorem head_len {L : List It} (h : L ≠ []) : (headB L).length = 3 + vl (pre L) + pre L := by
 cases L with
 | nil => exact absurd rfl h
 | cons x L =>
  have := (pre_each x (L := x :: L) List.mem_cons_self).1
  unfold headB vl
  simp only [List.length_append, lb_len, List.length_take, List.headD_cons]
  omega
theorem used_len {L : List It} (h : wrong L = 0) : (used L).length = size L := by
 obtain ⟨h0, h1, h2, _⟩ := wrong_parts h
 have hL : L ≠ [] := fun e => h0 (by rw [e]; rfl)
 have := cells_len (p := pre L) h1 h2
 unfold used size
 rw [List.length_append, List.length_append, slots_len, head_len hL]
 omega
theorem body_len {L : List It} (h : wrong L = 0) (h2 : size L ≤ 4092) : (body L).length = 4092 := by
 unfold body
 rw [List.length_append, List.length_replicate, used_len h]
 omega
end Go.Proofs.YtcdkkhbkicejiaaGreatDoor
namespace Go.Proofs.YtcdkkhbkicejiaaGreatDoor
def i64 (x : Nat) : Int := if x < 9223372036854775808 then (x : Int) else (x : Int) - 18446744073709551616
def sV (zs : List Int) (s : Nat × Int) : Nat × (Nat × Int) :=
 if s.2 = 0 then (if (rv (zs.drop s.1)).2.2 = 0 then ((rv (zs.drop s.1)).1, (s.1 + (rv (zs.drop s.1)).2.1, 0)) else (0, (s.1, (rv (zs.drop s.1)).2.2))) else (0, s)
def sB (zs : List Int) (s : Nat × Int) (m : Int) : List Int × (Nat × Int) :=
 if s.2 = 0 then (if m < 0 ∨ (zs.length : Int) - s.1 < m then ([], (s.1, 10)) else ((zs.drop s.1).take m.toNat, (s.1 + m.toNat, 0))) else ([], s)
def sN (zs : List Int) (s : Nat × Int) (k : Nat) : Nat × (Nat × Int) :=
 if s.2 = 0 then (if zs.length < s.1 + k then (0, (s.1, 10)) else (le k (zs.drop s.1), (s.1 + k, 0))) else (0, s)
def sKey (zs P : List Int) (s : Nat × Int) : List Int × (Nat × Int) :=
 (P ++ (sB zs (sV zs s).2 (i64 (sV zs s).1)).1, (sB zs (sV zs s).2 (i64 (sV zs s).1)).2)
def sVal (zs key : List Int) (t : Nat × (Nat × Int)) : It × (Nat × Int) :=
 if t.1 % 2 = 1 then (⟨key, [], (t.1 / 2 : Nat), ((sN zs t.2 4).1 : Nat)⟩, (sN zs t.2 4).2) else (⟨key, (sB zs t.2 (t.1 / 2 : Nat)).1, (t.1 / 2 : Nat), 0⟩, (sB zs t.2 (t.1 / 2 : Nat)).2)
def sItem (zs P : List Int) (s : Nat × Int) : It × (Nat × Int) := sVal zs (sKey zs P s).1 (sV zs (sKey zs P s).2)
def sLoop (zs P : List Int) : Nat → Nat × Int → List It → List It
 | 0, _, acc => acc
 | n + 1, s, acc => if (sItem zs P s).2.2 = 0 then sLoop zs P n (sItem zs P s).2 (acc ++ [(sItem zs P s).1]) else []
def sHead (zs : List Int) : Nat × List Int × (Nat × Int) :=
 let n := sN zs (sB zs (0, 0) 1).2 2
 let v := sV zs n.2
 let p := sB zs v.2 (i64 v.1)
 (n.1, p.1, (sB zs p.2 ((2 * n.1 : Nat) : Int)).2)
def parse (zs : List Int) : List It := sLoop zs (sHead zs).2.1 (sHead zs).1 (sHead zs).2.2 []
theorem sV_at {zs t : List Int} {p x : Nat} (h : zs.drop p = vform x ++ t) (hx : x < 18446744073709551616) : sV zs (p, 0) = (x, (p + vl x, 0)) := by
 unfold sV
 simp only [if_pos, h, rv_vform x t hx]
 rfl
theorem sB_at {zs y t : List Int} {p : Nat} (h : zs.drop p = y ++ t) (hp : p ≤ zs.length) (m : Int) (hm : m = (y.length : Int)) : sB zs (p, 0) m = (y, (p + y.length, 0)) := by
 have hl := congrArg List.length h
 simp only [List.length_drop, List.length_append] at hl
 subst hm
 unfold sB
 rw [if_pos rfl, if_neg (by simp only; omega)]
 simp [h]
theorem sN_at {zs t : List Int} {p k x : Nat} (h : zs.drop p = lb k x ++ t) (hp : p ≤ zs.length) : sN zs (p, 0) k = (x % 256 ^ k, (p + k, 0)) := by
 have hl := congrArg List.length h
 simp only [List.length_drop, List.length_append, lb_len] at hl
 unfold sN
 rw [if_pos rfl, if_neg (by simp only; omega)]
 simp [h, le_lb]
theorem drop_on {zs y t : List Int} {p : Nat} (h : zs.drop p = y ++ t) : zs.drop (p + y.length) = t := by
 rw [← List.drop_drop, h, List.drop_left]
theorem place_on {zs y t : List Int} {p : Nat} (h : zs.drop p = y ++ t) (hp : p ≤ zs.length) : p + y.length ≤ zs.length := by
 have hl := congrArg List.length h
 simp only [List.length_drop, List.length_append] at hl
 omega
theorem i64_small {x : Nat} (h : x < 9223372036854775808) : i64 x = (x : Int) := by unfold i64; rw [if_pos h]
theorem tg_parts {x : It} (h1 : ws x = false) (_h2 : wv x = false) : tg x.size / 2 = x.size.toNat ∧ (512 < x.size ↔ tg x.size % 2 = 1) := by
 have a := ws_parts h1
 unfold tg
 rw [lg_of a.2.2.1 a.2.2.2]
 split <;> omega
theorem sItem_at {zs P t : List Int} {p q : Nat} {x : It} (h1 : ws x = false) (h2 : wv x = false) (hk : P ++ x.key.drop q = x.key) (h : zs.drop p = cb q x ++ t) (hp : p ≤ zs.length) :
  sItem zs P (p, 0) = (x, (p + (cb q x).length, 0)) := by
 have a := ws_parts h1
 obtain ⟨t1, t2⟩ := tg_parts h1 h2
 have ht := tg_lt x.size
 have e := h
 unfold cb at e
 simp only [List.append_assoc] at e
 have r1 := sV_at (x := x.key.length - q) e (by omega)
 have e1 := drop_on e
 have p1 := place_on e hp
 have r2 := sB_at e1 p1 (i64 (x.key.length - q)) (by rw [i64_small (by omega), List.length_drop])
 have e2 := drop_on e1
 have p2 := place_on e1 p1
 have r3 := sV_at e2 (by omega)
 have e3 := drop_on e2
 have p3 := place_on e2 p2
 have k1 : sKey zs P (p, 0) = (x.key, (p + (vform (x.key.length - q)).length + (x.key.drop q).length, 0)) := by
  unfold sKey
  rw [r1]
  simp only [vl, r2, hk]
 unfold sItem
 rw [k1]
 simp only
 rw [r3]
 unfold sVal
 have hc : (cb q x).length = (vform (x.key.length - q)).length + (x.key.drop q).length + (vform (tg x.size)).length + (if 512 < x.size then lb 4 x.first.toNat else x.val).length := by
  unfold cb; simp only [List.length_append]; omega
 have hs : ((x.size.toNat : Nat) : Int) = x.size := Int.toNat_of_nonneg a.2.2.1
 rcases wv_parts h2 with ⟨b1, b2, b3, b4⟩ | ⟨b1, b2, b3⟩
 ·rw [if_pos b1] at e3 hc
  have r4 := sN_at e3 p3
  simp only [vl]
  rw [if_pos (t2.1 b1), t1, r4, hc, lb_len, hs]
  have hf : ((x.first.toNat % 256 ^ 4 : Nat) : Int) = x.first := by
   rw [Nat.mod_eq_of_lt (by omega)]; omega
  rw [hf]
  obtain ⟨k, v, s, f⟩ := x
  simp only at b2
  subst b2
  simp only [Nat.add_assoc]
 ·rw [if_neg (by omega)] at e3 hc
  have r4 := sB_at e3 p3 ((x.size.toNat : Nat) : Int) (by omega)
  simp only [vl]
  rw [if_neg (fun hh => by have := t2.2 hh; omega), t1, r4, hc, hs]
  obtain ⟨k, v, s, f⟩ := x
  simp only at b3
  subst b3
  simp only [Nat.add_assoc]
theorem sLoop_at {zs P t : List Int} {q : Nat} : ∀ {L : List It} {p : Nat} (acc : List It), (∀ x ∈ L, ws x = false) → (∀ x ∈ L, wv x = false) → (∀ x ∈ L, P ++ x.key.drop q = x.key) → zs.drop p = cells q L ++ t → p ≤ zs.length →
  sLoop zs P L.length (p, 0) acc = acc ++ L
 | [], _, acc, _, _, _, _, _ => by simp [sLoop]
 | x :: L, p, acc, h1, h2, hk, h, hp => by
  rw [cells, List.append_assoc] at h
  have r := sItem_at (h1 x List.mem_cons_self) (h2 x List.mem_cons_self) (hk x List.mem_cons_self) h hp
  rw [List.length_cons, sLoop, r, if_pos rfl, sLoop_at (t := t) (q := q) _ (fun y hy => h1 y (List.mem_cons_of_mem _ hy)) (fun y hy => h2 y (List.mem_cons_of_mem _ hy)) (fun y hy => hk y (List.mem_cons_of_mem _ hy)) (drop_on h) (place_on h hp)]
  simp
theorem many_le {L : List It} (h : wrong L = 0) (h2 : size L ≤ 4092) : L.length ≤ 2046 ∧ pre L ≤ 255 := by
 obtain ⟨h0, h1, hv, _⟩ := wrong_parts h
 have := cells_len (p := pre L) h1 hv
 unfold size at h2
 refine ⟨by omega, ?_⟩
 cases L with
 | nil => exact absurd rfl h0
 | cons x L =>
  have a := (pre_each x (L := x :: L) List.mem_cons_self).1
  have b := (ws_parts (h1 x List.mem_cons_self)).2.1
  omega
theorem sHead_at {zs : List Int} {L : List It} (h : Good zs L) : sHead zs = (L.length, (L.headD it0).key.take (pre L), ((headB L).length + 2 * L.length, 0)) ∧ zs.drop ((headB L).length + 2 * L.length) = cells (pre L) L ++ List.replicate (4092 - (used L).length) 0 ∧ (headB L).length + 2 * L.length ≤ zs.length := by
 obtain ⟨hw, hs, hb⟩ := h
 obtain ⟨hm, hp⟩ := many_le hw hs
 obtain ⟨h0, h1, hv, _⟩ := wrong_parts hw
 have hL : L ≠ [] := fun e => h0 (by rw [e]; rfl)
 have hl := head_len hL
 have e0 : zs.drop 0 = lb 1 1 ++ (lb 2 L.length ++ (vform (pre L) ++ ((L.headD it0).key.take (pre L) ++ (slots (pre L) ((headB L).length + 2 * L.length) L ++ (cells (pre L) L ++ List.replicate (4092 - (used L).length) 0))))) := by
  rw [List.drop_zero, ← hb]
  unfold body used
  generalize (headB L).length = z
  unfold headB
  simp only [List.append_assoc]
 have r0 := sB_at e0 (Nat.zero_le _) 1 rfl
 have e1 := drop_on e0
 have p1 := place_on e0 (Nat.zero_le _)
 have r1 := sN_at e1 p1
 have e2 := drop_on e1
 have p2 := place_on e1 p1
 rw [lb_len 2] at e2 p2
 have r2 := sV_at e2 (by omega)
 have e3 := drop_on e2
 have p3 := place_on e2 p2
 have hk : ((L.headD it0).key.take (pre L)).length = pre L := by
  cases L with
  | nil => exact absurd rfl hL
  | cons x L => rw [List.length_take, List.headD_cons]; have := (pre_each x (L := x :: L) List.mem_cons_self).1; omega
 have r3 := sB_at e3 p3 (i64 (pre L)) (by rw [i64_small (by omega), hk])
 have e4 := drop_on e3
 have p4 := place_on e3 p3
 have r4 := sB_at e4 p4 ((2 * L.length : Nat) : Int) (by rw [slots_len])
 have e5 := drop_on e4
 have p5 := place_on e4 p4
 have hn : L.length % 256 ^ 2 = L.length := Nat.mod_eq_of_lt (by omega)
 have ha : 0 + (lb 1 1).length + 2 + (vform (pre L)).length + ((L.headD it0).key.take (pre L)).length = (headB L).length := by
  rw [hl, hk, lb_len]; unfold vl; omega
 rw [ha] at e4 p4 e5 p5 r4
 rw [slots_len] at e5 p5 r4
 refine ⟨?_, e5, p5⟩
 unfold sHead
 rw [r0]
 simp only
 rw [r1]
 simp only [hn]
 rw [r2]
 simp only [vl]
 rw [r3]
 simp only
 rw [ha, r4]
theorem parse_body {zs : List Int} {L : List It} (h : Good zs L) : parse zs = L := by
 obtain ⟨hw, hs, hb⟩ := h
 obtain ⟨r, e, p⟩ := sHead_at ⟨hw, hs, hb⟩
 obtain ⟨h0, h1, hv, _⟩ := wrong_parts hw
 unfold parse
 rw [r]
 simp only
 rw [sLoop_at [] h1 hv (fun x hx => pre_key hx) e p, List.nil_append]
theorem good_one {zs : List Int} {L M : List It} (h : Good zs L) (k : Good zs M) : L = M := (parse_body h).symm.trans (parse_body k)
end Go.Proofs.YtcdkkhbkicejiaaGreatDoor
