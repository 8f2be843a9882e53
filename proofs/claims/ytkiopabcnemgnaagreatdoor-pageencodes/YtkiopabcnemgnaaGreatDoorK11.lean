import Derived.Test.YtkiopabcnemgnaaGreatDoorK3
import Derived.Test.YtkiopabcnemgnaaGreatDoorK8
namespace Go.Proofs.YtkiopabcnemgnaaGreatDoor
structure It where
 key : List Int
 val : List Int
 size : Int
 first : Int
def it0 : It := ⟨[], [], 0, 0⟩
def pre : List It → Nat
 | [] => 0
 | x :: L => comAll x.key x.key.length (L.map It.key)
def lg (s : Int) : Nat := if s < 0 then 0 else if 262144 < s then 262144 else s.toNat
def tg (s : Int) : Nat := if 512 < lg s then 2 * lg s + 1 else 2 * lg s
def tl (s : Int) : Nat := if 512 < lg s then 4 else lg s
def vl (n : Nat) : Nat := (vform n).length
def cl (p : Nat) (x : It) : Nat := vl (x.key.length - p) + (x.key.length - p) + vl (tg x.size) + tl x.size
def sums (p : Nat) : List It → Nat
 | [] => 0
 | x :: L => 2 + cl p x + sums p L
def size (L : List It) : Nat := 3 + vl (pre L) + pre L + sums (pre L) L
def ws (x : It) : Bool := !(decide (1 ≤ x.key.length) && decide (x.key.length ≤ 255)) || decide (x.size < 0) || decide (262144 < x.size)
def wv (x : It) : Bool := if 512 < x.size then decide (x.val.length ≠ 0) || decide (x.first < 2) || decide (524287 ≤ x.first) else decide ((x.val.length : Int) ≠ x.size) || decide (x.first ≠ 0)
def Up (L : List It) : Prop := ∀ i, i < L.length - 1 → cmpZ (L.getD i it0).key (L.getD (i + 1) it0).key < 0
def ups (L : List It) : Bool := (List.range (L.length - 1)).all fun i => decide (cmpZ (L.getD i it0).key (L.getD (i + 1) it0).key < 0)
theorem ups_iff (L : List It) : ups L = true ↔ Up L := by
 unfold ups Up;simp
def wrong (L : List It) : Int := if L.length = 0 then 40 else if L.any ws then 41 else if L.any wv then 40 else if ups L then 0 else 30
def cb (p : Nat) (x : It) : List Int := vform (x.key.length - p) ++ (x.key.drop p ++ (vform (tg x.size) ++ (if 512 < x.size then lb 4 x.first.toNat else x.val)))
def slots (p a : Nat) : List It → List Int
 | [] => []
 | x :: L => lb 2 a ++ slots p (a + (cb p x).length) L
def cells (p : Nat) : List It → List Int
 | [] => []
 | x :: L => cb p x ++ cells p L
def headB (L : List It) : List Int := lb 1 1 ++ (lb 2 L.length ++ (vform (pre L) ++ (L.headD it0).key.take (pre L)))
def used (L : List It) : List Int := headB L ++ (slots (pre L) ((headB L).length + 2 * L.length) L ++ cells (pre L) L)
def body (L : List It) : List Int := used L ++ List.replicate (4092 - (used L).length) 0
def Good (zs : List Int) (L : List It) : Prop := wrong L = 0 ∧ size L ≤ 4092 ∧ body L = zs
theorem com_prefix : ∀ (a b : List Int) (n : Nat), n ≤ com a b → a.take n = b.take n
 | _, _, 0, _ => by simp
 | [], b, n + 1, h => by rw [com_nil] at h; omega
 | a :: as, [], n + 1, h => by rw [com_nil2] at h; omega
 | a :: as, b :: bs, n + 1, h => by
  rw [com_cons] at h
  by_cases e : a = b
  ·rw [if_pos e] at h
   rw [List.take_succ_cons, List.take_succ_cons, e, com_prefix as bs n (by omega)]
  ·rw [if_neg e] at h; omega
theorem comAll_each (f : List Int) : ∀ (l : List (List Int)) (n : Nat), ∀ s ∈ l, comAll f n l ≤ com f s
 | [], _, s, h => by cases h
 | t :: l, n, s, h => by
  rw [comAll_cons];rcases List.mem_cons.1 h with rfl | h
  ·exact Nat.le_trans (comAll_le f l _) (Nat.min_le_right _ _)
  ·exact comAll_each f l _ s h
theorem com_of_take : ∀ (a b : List Int) (n : Nat), n ≤ a.length → n ≤ b.length → a.take n = b.take n → n ≤ com a b
 | _, _, 0, _, _, _ => Nat.zero_le _
 | [], _, n + 1, h, _, _ => by simp at h
 | _ :: _, [], n + 1, _, h, _ => by simp at h
 | a :: as, b :: bs, n + 1, h1, h2, h => by
  rw [List.take_succ_cons, List.take_succ_cons] at h;injection h with e1 e2
  rw [com_cons, if_pos e1];have := com_of_take as bs n (by simpa using h1) (by simpa using h2) e2;omega
theorem pre_each {L : List It} : ∀ x ∈ L, pre L ≤ x.key.length ∧ x.key.take (pre L) = (L.headD it0).key.take (pre L) := by
 cases L with
 | nil => intro x h; cases h
 | cons y L =>
  intro x h;have hp : pre (y :: L) = comAll y.key y.key.length (L.map It.key) := rfl;rcases List.mem_cons.1 h with rfl | h
  ·exact ⟨by rw [hp]; exact comAll_le _ _ _, rfl⟩
  ·have h1 : pre (y :: L) ≤ com y.key x.key := by rw [hp]; exact comAll_each _ _ _ _ (List.mem_map_of_mem h)
   exact ⟨Nat.le_trans h1 (com_le2 _ _), (com_prefix _ _ _ h1).symm⟩
theorem pre_key {L : List It} {x : It} (h : x ∈ L) : (L.headD it0).key.take (pre L) ++ x.key.drop (pre L) = x.key := by
 rw [← (pre_each x h).2, List.take_append_drop]
theorem vl_le (n : Nat) : vl n ≤ 10 := vform_le n
theorem vl_pos (n : Nat) : 1 ≤ vl n := lf_pos 10 n (by omega)
theorem vl_small {n : Nat} (h : n < 128) : vl n = 1 := by
 unfold vl vform;rw [lf, if_pos h]; rfl
theorem vl_two {n : Nat} (h : 128 ≤ n) (h2 : n < 16384) : vl n = 2 := by
 unfold vl vform;rw [lf, if_neg (by omega), lf, if_pos (by omega)]; rfl
theorem lg_le (s : Int) : lg s ≤ 262144 := by 
 unfold lg
 split
 ·omega
 ·split <;> omega
theorem tl_le (s : Int) : tl s ≤ 512 := by unfold tl; split <;> omega
theorem tg_lt (s : Int) : tg s < 1048576 := by
 have := lg_le s;unfold tg; split <;> omega
theorem cl_le (p : Nat) (x : It) : cl p x ≤ x.key.length + 532 := by
 have h1 := vl_le (x.key.length - p);have h2 := vl_le (tg x.size);have h3 := tl_le x.size;unfold cl;omega
theorem sums_le (p K : Nat) : ∀ L : List It, (∀ x ∈ L, x.key.length ≤ K) → sums p L ≤ L.length * (K + 534)
 | [], _ => by simp [sums]
 | x :: L, h => by
  have h1 := cl_le p x;have h2 := h x List.mem_cons_self;have h3 := sums_le p K L (fun y hy => h y (List.mem_cons_of_mem _ hy));rw [sums, List.length_cons, Nat.add_mul];omega
theorem sums_snoc (p : Nat) : ∀ (L : List It) (i : Nat), i < L.length → sums p (L.take (i + 1)) = sums p (L.take i) + (2 + cl p (L.getD i it0))
 | x :: L, 0, _ => by simp [sums]
 | x :: L, i + 1, h => by
  have := sums_snoc p L i (by simpa using h);simp only [List.take_succ_cons, sums, List.getD_cons_succ];omega
theorem wrong_parts {L : List It} (h : wrong L = 0) : L.length ≠ 0 ∧ (∀ x ∈ L, ws x = false) ∧ (∀ x ∈ L, wv x = false) ∧ Up L := by
 unfold wrong at h
 split at h
 ·omega
 ·rename_i h0
  split at h
  ·omega
  ·rename_i h1
   split at h
   ·omega
   ·rename_i h2
    split at h
    ·rename_i h3
     exact ⟨h0, fun x hx => by simpa using fun e => h1 (List.any_eq_true.2 ⟨x, hx, e⟩), fun x hx => by simpa using fun e => h2 (List.any_eq_true.2 ⟨x, hx, e⟩), (ups_iff L).1 h3⟩
    ·omega
theorem ws_parts {x : It} (h : ws x = false) : 1 ≤ x.key.length ∧ x.key.length ≤ 255 ∧ 0 ≤ x.size ∧ x.size ≤ 262144 := by
 unfold ws at h;simp at h;omega
theorem wv_parts {x : It} (h : wv x = false) : (512 < x.size ∧ x.val = [] ∧ 2 ≤ x.first ∧ x.first < 524287) ∨ (x.size ≤ 512 ∧ (x.val.length : Int) = x.size ∧ x.first = 0) := by
 unfold wv at h
 split at h
 ·simp at h
  exact .inl ⟨by assumption, h.1.1, by omega, by omega⟩
 ·simp at h
  exact .inr ⟨by omega, h.1, h.2⟩
theorem lg_of {s : Int} (h1 : 0 ≤ s) (h2 : s ≤ 262144) : lg s = s.toNat := by
 unfold lg;rw [if_neg (by omega), if_neg (by omega)]
theorem cb_len {p : Nat} {x : It} (h1 : ws x = false) (h2 : wv x = false) : (cb p x).length = cl p x := by
 have a := ws_parts h1;have e := lg_of a.2.2.1 a.2.2.2;unfold cb cl tl vl;rw [e];simp only [List.length_append, List.length_drop];rcases wv_parts h2 with ⟨b1, b2, _⟩ | ⟨b1, b2, _⟩
 ·rw [if_pos b1, if_pos (by omega), lb_len]; omega
 ·rw [if_neg (by omega), if_neg (by omega)]; omega
theorem slots_len (p : Nat) : ∀ (L : List It) (a : Nat), (slots p a L).length = 2 * L.length
 | [], _ => rfl
 | x :: L, a => by rw [slots, List.length_append, lb_len, slots_len p L, List.length_cons]; omega
theorem cells_len {p : Nat} : ∀ {L : List It}, (∀ x ∈ L, ws x = false) → (∀ x ∈ L, wv x = false) → (cells p L).length + 2 * L.length = sums p L
 | [], _, _ => rfl
 | x :: L, h1, h2 => by
  have := cells_len (p := p) (L := L) (fun y hy => h1 y (List.mem_cons_of_mem _ hy)) (fun y hy => h2 y (List.mem_cons_of_mem _ hy));rw [cells, sums, List.length_append, List.length_cons, cb_len (h1 x List.mem_cons_self) (h2 x List.mem_cons_self)];omega
theorem head_len {L : List It} (h : L ≠ []) : (headB L).length = 3 + vl (pre L) + pre L := by
 cases L with
 | nil => exact absurd rfl h
 | cons x L =>
  have := (pre_each x (L := x :: L) List.mem_cons_self).1;unfold headB vl;simp only [List.length_append, lb_len, List.length_take, List.headD_cons];omega
theorem used_len {L : List It} (h : wrong L = 0) : (used L).length = size L := by
 obtain ⟨h0, h1, h2, _⟩ := wrong_parts h;have hL : L ≠ [] := fun e => h0 (by rw [e]; rfl)
 have := cells_len (p := pre L) h1 h2;unfold used size;rw [List.length_append, List.length_append, slots_len, head_len hL];omega
theorem body_len {L : List It} (h : wrong L = 0) (h2 : size L ≤ 4092) : (body L).length = 4092 := by
 unfold body;rw [List.length_append, List.length_replicate, used_len h];omega
end Go.Proofs.YtkiopabcnemgnaaGreatDoor
namespace Go.Proofs.YtkiopabcnemgnaaGreatDoor
def i64 (x : Nat) : Int := if x < 9223372036854775808 then (x : Int) else (x : Int) - 18446744073709551616
def sV (zs : List Int) (s : Nat × Int) : Nat × (Nat × Int) :=
 if s.2 = 0 then (if (rv (zs.drop s.1)).2.2 = 0 then ((rv (zs.drop s.1)).1, (s.1 + (rv (zs.drop s.1)).2.1, 0)) else (0, (s.1, (rv (zs.drop s.1)).2.2))) else (0, s)
def sB (zs : List Int) (s : Nat × Int) (m : Int) : List Int × (Nat × Int) :=
 if s.2 = 0 then (if m < 0 ∨ (zs.length : Int) - s.1 < m then ([], (s.1, 10)) else ((zs.drop s.1).take m.toNat, (s.1 + m.toNat, 0))) else ([], s)
def sN (zs : List Int) (s : Nat × Int) (k : Nat) : Nat × (Nat × Int) :=
 if s.2 = 0 then (if zs.length < s.1 + k then (0, (s.1, 10)) else (le k (zs.drop s.1), (s.1 + k, 0))) else (0, s)
def sKey (zs P : List Int) (s : Nat × Int) : List Int × (Nat × Int) :=
 (P ++ (sB zs (sV zs s).2 (i64 (sV zs s).1)).1, (sB zs (sV zs s).2 (i64 (sV zs s).1)).2)
def sVal (zs key : List Int) (t : Nat × (Nat × Int)) : It × (Nat × Int) :=
 if t.1 % 2 = 1 then (⟨key, [], (t.1 / 2 : Nat), ((sN zs t.2 4).1 : Nat)⟩, (sN zs t.2 4).2) else (⟨key, (sB zs t.2 (t.1 / 2 : Nat)).1, (t.1 / 2 : Nat), 0⟩, (sB zs t.2 (t.1 / 2 : Nat)).2)
def sItem (zs P : List Int) (s : Nat × Int) : It × (Nat × Int) := sVal zs (sKey zs P s).1 (sV zs (sKey zs P s).2)
def sLoop (zs P : List Int) : Nat → Nat × Int → List It → List It
 | 0, _, acc => acc
 | n + 1, s, acc => if (sItem zs P s).2.2 = 0 then sLoop zs P n (sItem zs P s).2 (acc ++ [(sItem zs P s).1]) else []
def sHead (zs : List Int) : Nat × List Int × (Nat × Int) :=
 let n := sN zs (sB zs (0, 0) 1).2 2
 let v := sV zs n.2
 let p := sB zs v.2 (i64 v.1)
 (n.1, p.1, (sB zs p.2 ((2 * n.1 : Nat) : Int)).2)
def parse (zs : List Int) : List It := sLoop zs (sHead zs).2.1 (sHead zs).1 (sHead zs).2.2 []
theorem sV_at {zs t : List Int} {p x : Nat} (h : zs.drop p = vform x ++ t) (hx : x < 18446744073709551616) : sV zs (p, 0) = (x, (p + vl x, 0)) := by
 unfold sV;simp only [if_pos, h, rv_vform x t hx]
 rfl
theorem sB_at {zs y t : List Int} {p : Nat} (h : zs.drop p = y ++ t) (hp : p ≤ zs.length) (m : Int) (hm : m = (y.length : Int)) : sB zs (p, 0) m = (y, (p + y.length, 0)) := by
 have hl := congrArg List.length h;simp only [List.length_drop, List.length_append] at hl;subst hm;unfold sB;rw [if_pos rfl, if_neg (by simp only; omega)];simp [h]
theorem sN_at {zs t : List Int} {p k x : Nat} (h : zs.drop p = lb k x ++ t) (hp : p ≤ zs.length) : sN zs (p, 0) k = (x % 256 ^ k, (p + k, 0)) := by
 have hl := congrArg List.length h;simp only [List.length_drop, List.length_append, lb_len] at hl;unfold sN;rw [if_pos rfl, if_neg (by simp only; omega)];simp [h, le_lb]
theorem drop_on {zs y t : List Int} {p : Nat} (h : zs.drop p = y ++ t) : zs.drop (p + y.length) = t := by
 rw [← List.drop_drop, h, List.drop_left]
theorem place_on {zs y t : List Int} {p : Nat} (h : zs.drop p = y ++ t) (hp : p ≤ zs.length) : p + y.length ≤ zs.length := by
 have hl := congrArg List.length h;simp only [List.length_drop, List.length_append] at hl;omega
theorem i64_small {x : Nat} (h : x < 9223372036854775808) : i64 x = (x : Int) := by unfold i64; rw [if_pos h]
theorem tg_parts {x : It} (h1 : ws x = false) (_h2 : wv x = false) : tg x.size / 2 = x.size.toNat ∧ (512 < x.size ↔ tg x.size % 2 = 1) := by
 have a := ws_parts h1;unfold tg;rw [lg_of a.2.2.1 a.2.2.2]
 split <;> omega
theorem sItem_at {zs P t : List Int} {p q : Nat} {x : It} (h1 : ws x = false) (h2 : wv x = false) (hk : P ++ x.key.drop q = x.key) (h : zs.drop p = cb q x ++ t) (hp : p ≤ zs.length) :
  sItem zs P (p, 0) = (x, (p + (cb q x).length, 0)) := by
 have a := ws_parts h1;obtain ⟨t1, t2⟩ := tg_parts h1 h2;have ht := tg_lt x.size;have e := h;unfold cb at e;simp only [List.append_assoc] at e;have r1 := sV_at (x := x.key.length - q) e (by omega);have e1 := drop_on e;have p1 := place_on e hp;have r2 := sB_at e1 p1 (i64 (x.key.length - q)) (by rw [i64_small (by omega), List.length_drop]);have e2 := drop_on e1;have p2 := place_on e1 p1;have r3 := sV_at e2 (by omega);have e3 := drop_on e2;have p3 := place_on e2 p2
 have k1 : sKey zs P (p, 0) = (x.key, (p + (vform (x.key.length - q)).length + (x.key.drop q).length, 0)) := by
  unfold sKey;rw [r1];simp only [vl, r2, hk]
 unfold sItem;rw [k1];simp only;rw [r3];unfold sVal
 have hc : (cb q x).length = (vform (x.key.length - q)).length + (x.key.drop q).length + (vform (tg x.size)).length + (if 512 < x.size then lb 4 x.first.toNat else x.val).length := by
  unfold cb; simp only [List.length_append]; omega
 have hs : ((x.size.toNat : Nat) : Int) = x.size := Int.toNat_of_nonneg a.2.2.1;rcases wv_parts h2 with ⟨b1, b2, b3, b4⟩ | ⟨b1, b2, b3⟩
 ·rw [if_pos b1] at e3 hc
  have r4 := sN_at e3 p3;simp only [vl];rw [if_pos (t2.1 b1), t1, r4, hc, lb_len, hs]
  have hf : ((x.first.toNat % 256 ^ 4 : Nat) : Int) = x.first := by
   rw [Nat.mod_eq_of_lt (by omega)]; omega
  rw [hf];obtain ⟨k, v, s, f⟩ := x;simp only at b2;subst b2;simp only [Nat.add_assoc]
 ·rw [if_neg (by omega)] at e3 hc
  have r4 := sB_at e3 p3 ((x.size.toNat : Nat) : Int) (by omega);simp only [vl];rw [if_neg (fun hh => by have := t2.2 hh; omega), t1, r4, hc, hs];obtain ⟨k, v, s, f⟩ := x;simp only at b3;subst b3;simp only [Nat.add_assoc]
theorem sLoop_at {zs P t : List Int} {q : Nat} : ∀ {L : List It} {p : Nat} (acc : List It), (∀ x ∈ L, ws x = false) → (∀ x ∈ L, wv x = false) → (∀ x ∈ L, P ++ x.key.drop q = x.key) → zs.drop p = cells q L ++ t → p ≤ zs.length →
  sLoop zs P L.length (p, 0) acc = acc ++ L
 | [], _, acc, _, _, _, _, _ => by simp [sLoop]
 | x :: L, p, acc, h1, h2, hk, h, hp => by
  rw [cells, List.append_assoc] at h;have r := sItem_at (h1 x List.mem_cons_self) (h2 x List.mem_cons_self) (hk x List.mem_cons_self) h hp;rw [List.length_cons, sLoop, r, if_pos rfl, sLoop_at (t := t) (q := q) _ (fun y hy => h1 y (List.mem_cons_of_mem _ hy)) (fun y hy => h2 y (List.mem_cons_of_mem _ hy)) (fun y hy => hk y (List.mem_cons_of_mem _ hy)) (drop_on h) (place_on h hp)];simp
theorem many_le {L : List It} (h : wrong L = 0) (h2 : size L ≤ 4092) : L.length ≤ 2046 ∧ pre L ≤ 255 := by
 obtain ⟨h0, h1, hv, _⟩ := wrong_parts h;have := cells_len (p := pre L) h1 hv;unfold size at h2;refine ⟨by omega, ?_⟩;cases L with
 | nil => exact absurd rfl h0
 | cons x L =>
  have a := (pre_each x (L := x :: L) List.mem_cons_self).1;have b := (ws_parts (h1 x List.mem_cons_self)).2.1;omega
theorem sHead_at {zs : List Int} {L : List It} (h : Good zs L) : sHead zs = (L.length, (L.headD it0).key.take (pre L), ((headB L).length + 2 * L.length, 0)) ∧ zs.drop ((headB L).length + 2 * L.length) = cells (pre L) L ++ List.replicate (4092 - (used L).length) 0 ∧ (headB L).length + 2 * L.length ≤ zs.length := by
 obtain ⟨hw, hs, hb⟩ := h;obtain ⟨hm, hp⟩ := many_le hw hs;obtain ⟨h0, h1, hv, _⟩ := wrong_parts hw;have hL : L ≠ [] := fun e => h0 (by rw [e]; rfl)
 have hl := head_len hL
 have e0 : zs.drop 0 = lb 1 1 ++ (lb 2 L.length ++ (vform (pre L) ++ ((L.headD it0).key.take (pre L) ++ (slots (pre L) ((headB L).length + 2 * L.length) L ++ (cells (pre L) L ++ List.replicate (4092 - (used L).length) 0))))) := by
  rw [List.drop_zero, ← hb];unfold body used;generalize (headB L).length = z;unfold headB;simp only [List.append_assoc]
 have r0 := sB_at e0 (Nat.zero_le _) 1 rfl;have e1 := drop_on e0;have p1 := place_on e0 (Nat.zero_le _);have r1 := sN_at e1 p1;have e2 := drop_on e1;have p2 := place_on e1 p1;rw [lb_len 2] at e2 p2;have r2 := sV_at e2 (by omega);have e3 := drop_on e2;have p3 := place_on e2 p2
 have hk : ((L.headD it0).key.take (pre L)).length = pre L := by
  cases L with
  | nil => exact absurd rfl hL
  | cons x L => rw [List.length_take, List.headD_cons]; have := (pre_each x (L := x :: L) List.mem_cons_self).1; omega
 have r3 := sB_at e3 p3 (i64 (pre L)) (by rw [i64_small (by omega), hk]);have e4 := drop_on e3;have p4 := place_on e3 p3;have r4 := sB_at e4 p4 ((2 * L.length : Nat) : Int) (by rw [slots_len]);have e5 := drop_on e4;have p5 := place_on e4 p4;have hn : L.length % 256 ^ 2 = L.length := Nat.mod_eq_of_lt (by omega)
 have ha : 0 + (lb 1 1).length + 2 + (vform (pre L)).length + ((L.headD it0).key.take (pre L)).length = (headB L).length := by
  rw [hl, hk, lb_len]; unfold vl; omega
 rw [ha] at e4 p4 e5 p5 r4;rw [slots_len] at e5 p5 r4;refine ⟨?_, e5, p5⟩;unfold sHead;rw [r0];simp only;rw [r1];simp only [hn];rw [r2];simp only [vl];rw [r3];simp only;rw [ha, r4]
theorem parse_body {zs : List Int} {L : List It} (h : Good zs L) : parse zs = L := by
 obtain ⟨hw, hs, hb⟩ := h;obtain ⟨r, e, p⟩ := sHead_at ⟨hw, hs, hb⟩;obtain ⟨h0, h1, hv, _⟩ := wrong_parts hw;unfold parse;rw [r];simp only;rw [sLoop_at [] h1 hv (fun x hx => pre_key hx) e p, List.nil_append]
theorem good_one {zs : List Int} {L M : List It} (h : Good zs L) (k : Good zs M) : L = M := (parse_body h).symm.trans (parse_body k)
def rChk (s : Nat × Int) (x m : Nat) : Nat × Int := if m < x then (s.1, 10) else s
def rKey (zs P : List Int) (s : Nat × Int) : List Int × (Nat × Int) :=
 (P ++ (sB zs (rChk (sV zs s).2 (sV zs s).1 255) (i64 (sV zs s).1)).1, (sB zs (rChk (sV zs s).2 (sV zs s).1 255) (i64 (sV zs s).1)).2)
def rItem (zs P : List Int) (s : Nat × Int) : It × (Nat × Int) := sVal zs (rKey zs P s).1 ((sV zs (rKey zs P s).2).1, rChk (sV zs (rKey zs P s).2).2 (sV zs (rKey zs P s).2).1 524289)
def rLoop (zs P : List Int) : Nat → Nat × Int → List It → List It × (Nat × Int)
 | 0, s, acc => (acc, s)
 | n + 1, s, acc => if s.2 = 0 then rLoop zs P n (rItem zs P s).2 (acc ++ [(rItem zs P s).1]) else (acc, s)
theorem rItem_at {zs P t : List Int} {p q : Nat} {x : It} (h1 : ws x = false) (h2 : wv x = false) (hk : P ++ x.key.drop q = x.key) (h : zs.drop p = cb q x ++ t) (hp : p ≤ zs.length) :
  rItem zs P (p, 0) = (x, (p + (cb q x).length, 0)) := by
 rw [← sItem_at h1 h2 hk h hp];have a := ws_parts h1;have e := h;unfold cb at e;simp only [List.append_assoc] at e;have r1 := sV_at (x := x.key.length - q) e (by omega);have e1 := drop_on e;have p1 := place_on e hp;have r2 := sB_at e1 p1 (i64 (x.key.length - q)) (by rw [i64_small (by omega), List.length_drop]);have e2 := drop_on e1;have ht := tg_lt x.size;have r3 := sV_at e2 (by omega)
 have k1 : rKey zs P (p, 0) = sKey zs P (p, 0) := by
  unfold rKey sKey rChk;rw [r1];simp only;rw [if_neg (by omega)]
 have k2 : (sKey zs P (p, 0)).2 = (p + (vform (x.key.length - q)).length + (x.key.drop q).length, 0) := by
  unfold sKey;rw [r1];simp only [vl, r2]
 have ht2 : tg x.size ≤ 524289 := by
  have := lg_le x.size;unfold tg; split <;> omega
 unfold rItem sItem;rw [k1, k2, r3];unfold rChk;simp only;rw [if_neg (by omega)]
theorem rLoop_at {zs P t : List Int} {q : Nat} : ∀ {L : List It} {p : Nat} (acc : List It), (∀ x ∈ L, ws x = false) → (∀ x ∈ L, wv x = false) → (∀ x ∈ L, P ++ x.key.drop q = x.key) → zs.drop p = cells q L ++ t → p ≤ zs.length →
  ∃ p', rLoop zs P L.length (p, 0) acc = (acc ++ L, (p', 0))
 | [], p, acc, _, _, _, _, _ => ⟨p, by simp [rLoop]⟩
 | x :: L, p, acc, h1, h2, hk, h, hp => by
  rw [cells, List.append_assoc] at h;have r := rItem_at (h1 x List.mem_cons_self) (h2 x List.mem_cons_self) (hk x List.mem_cons_self) h hp;obtain ⟨p', e⟩ := rLoop_at (t := t) (q := q) (L := L) (acc ++ [x]) (fun y hy => h1 y (List.mem_cons_of_mem _ hy)) (fun y hy => h2 y (List.mem_cons_of_mem _ hy)) (fun y hy => hk y (List.mem_cons_of_mem _ hy)) (drop_on h) (place_on h hp);refine ⟨p', ?_⟩;rw [List.length_cons, rLoop, if_pos rfl, r, e];simp
def rRead (zs : List Int) : List It × (Nat × Int) := rLoop zs (sHead zs).2.1 (sHead zs).1 (sHead zs).2.2 []
def sPre (zs : List Int) : Nat := (sV zs (sN zs (sB zs (0, 0) 1).2 2).2).1
theorem rRead_body {zs : List Int} {L : List It} (h : Good zs L) : ∃ p, rRead zs = (L, (p, 0)) := by
 obtain ⟨hw, hs, hb⟩ := h;obtain ⟨r, e, p⟩ := sHead_at ⟨hw, hs, hb⟩;obtain ⟨h0, h1, hv, _⟩ := wrong_parts hw;unfold rRead;rw [r];simp only;obtain ⟨p', e'⟩ := rLoop_at (L := L) [] h1 hv (fun x hx => pre_key hx) e p;exact ⟨p', by rw [e', List.nil_append]⟩
theorem sPre_body {zs : List Int} {L : List It} (h : Good zs L) : sPre zs ≤ 255 := by
 obtain ⟨hw, hs, hb⟩ := h;have hm := many_le hw hs
 have e0 : zs.drop 0 = lb 1 1 ++ (lb 2 L.length ++ (vform (pre L) ++ ((L.headD it0).key.take (pre L) ++ (slots (pre L) ((headB L).length + 2 * L.length) L ++ (cells (pre L) L ++ List.replicate (4092 - (used L).length) 0))))) := by
  rw [List.drop_zero, ← hb];unfold body used;generalize (headB L).length = z;unfold headB;simp only [List.append_assoc]
 have r0 := sB_at e0 (Nat.zero_le _) 1 rfl;have e1 := drop_on e0;have p1 := place_on e0 (Nat.zero_le _);have r1 := sN_at e1 p1;have e2 := drop_on e1;rw [lb_len 2] at e2;have r2 := sV_at e2 (by omega);unfold sPre;rw [r0];simp only;rw [r1];simp only;rw [r2];exact hm.2
def inR (x : Int) : Bool := decide (2 ≤ x) && decide (x ≤ 524286)
def nOk (x : Int) : Bool := decide (x = 0) || inR x
def cnt (x : Int) (n full : Nat) : Bool := decide (full < n) || (decide (x ≠ 0) && decide (n < full))
def eD (x : Int) (n : Nat) : Int := if nOk x = false then 51 else if (decide (n = 0) || cnt x n 4085) = true then 62 else 0
def ris (xs : List Int) : Bool := (List.range (xs.length - 1)).all fun i => decide (xs.getD i 0 < xs.getD (i + 1) 0)
def badL (x : Int) (xs : List Int) : Bool := cnt x xs.length 1021 || (!(xs.all inR) || !(ris xs))
def eL (x : Int) (xs : List Int) : Int := if nOk x = false then 51 else if badL x xs = true then 63 else 0
theorem inR_iff {x : Int} : inR x = true ↔ 2 ≤ x ∧ x ≤ 524286 := by simp [inR]
theorem nOk_nat {x : Int} (h : nOk x = true) : ∃ k : Nat, x = (k : Int) ∧ k ≤ 524286 := by
 simp only [nOk, Bool.or_eq_true, decide_eq_true_eq, inR_iff] at h;exact ⟨x.toNat, by omega, by omega⟩
theorem eD_zero {x : Int} {n : Nat} (h : eD x n = 0) : nOk x = true ∧ 0 < n ∧ n ≤ 4085 ∧ (decide (n = 0) || cnt x n 4085) = false := by
 unfold eD at h
 split at h
 ·exact absurd h (by decide)
 ·split at h
  ·exact absurd h (by decide)
  ·rename_i h1 h2
   have h3 : (decide (n = 0) || cnt x n 4085) = false := by simpa using h2
   refine ⟨by simpa using h1, ?_, ?_, h3⟩
   ·simp only [Bool.or_eq_false_iff, decide_eq_false_iff_not] at h3; omega
   ·simp only [Bool.or_eq_false_iff, decide_eq_false_iff_not, cnt] at h3; omega
theorem eL_zero {x : Int} {xs : List Int} (h : eL x xs = 0) : nOk x = true ∧ xs.length ≤ 1021 ∧ xs.all inR = true ∧ badL x xs = false := by
 unfold eL at h
 split at h
 ·exact absurd h (by decide)
 ·split at h
  ·exact absurd h (by decide)
  ·rename_i h1 h2
   have h3 : badL x xs = false := by simpa using h2
   have h4 := h3;simp only [badL, cnt, Bool.or_eq_false_iff, decide_eq_false_iff_not, Bool.not_eq_false'] at h4;exact ⟨by simpa using h1, by omega, h4.2.1, h3⟩
def hd (k x n : Nat) : List Int := (k : Int) :: (lb 4 x ++ lb 2 n)
theorem hd_len (k x n : Nat) : (hd k x n).length = 7 := by simp [hd, lb_len]
def dB (x : Nat) (zs : List Int) : List Int := hd 3 x zs.length ++ (zs ++ List.replicate (4085 - zs.length) 0)
def fl (xs : List Int) : List Int := (xs.map (fun v => lb 4 v.toNat)).flatten
def lB (x : Nat) (xs : List Int) : List Int := hd 4 x xs.length ++ (fl xs ++ List.replicate (4085 - 4 * xs.length) 0)
theorem fl_nil : fl [] = [] := rfl
theorem fl_cons (v : Int) (xs : List Int) : fl (v :: xs) = lb 4 v.toNat ++ fl xs := by simp [fl]
theorem fl_app (xs ys : List Int) : fl (xs ++ ys) = fl xs ++ fl ys := by simp [fl]
theorem fl_len : ∀ xs : List Int, (fl xs).length = 4 * xs.length
 | [] => rfl
 | v :: xs => by rw [fl_cons, List.length_append, lb_len, fl_len xs, List.length_cons]; omega
theorem dB_len {x : Nat} {zs : List Int} (h : zs.length ≤ 4085) : (dB x zs).length = 4092 := by
 unfold dB; rw [List.length_append, List.length_append, hd_len, List.length_replicate]; omega
theorem lB_len {x : Nat} {xs : List Int} (h : xs.length ≤ 1021) : (lB x xs).length = 4092 := by
 unfold lB; rw [List.length_append, List.length_append, hd_len, List.length_replicate, fl_len]; omega
def rN (bs : List Int) : Nat := le 4 (bs.drop 1)
def rC (bs : List Int) : Nat := le 2 (bs.drop 5)
def rD (bs : List Int) : List Int := if rC bs ≤ 4085 then (bs.drop 7).take (rC bs) else []
def rL (bs : List Int) (m : Nat) : List Int := (List.range m).map fun i => ((le 4 (bs.drop (7 + 4 * i)) : Nat) : Int)
def dD (bs : List Int) : Bool := decide (bs.length = 4092) && (decide (eD (rN bs) (rD bs).length = 0) && decide (dB (rN bs) (rD bs) = bs))
def dL (bs : List Int) : Bool := decide (bs.length = 4092) && (decide (rC bs ≤ 1021) && (decide (eL (rN bs) (rL bs (rC bs)) = 0) && decide (lB (rN bs) (rL bs (rC bs)) = bs)))
theorem hd_drop1 (k x n : Nat) (t : List Int) : (hd k x n ++ t).drop 1 = lb 4 x ++ (lb 2 n ++ t) := by simp [hd]
theorem hd_drop5 (k x n : Nat) (t : List Int) : (hd k x n ++ t).drop 5 = lb 2 n ++ t := by
 rw [show (5 : Nat) = 1 + 4 from rfl, ← List.drop_drop, hd_drop1, List.drop_left' (lb_len 4 x)]
theorem hd_drop7 (k x n : Nat) (t : List Int) : (hd k x n ++ t).drop 7 = t := List.drop_left' (hd_len k x n)
theorem rN_hd {k x n : Nat} {t : List Int} (hx : x < 4294967296) : rN (hd k x n ++ t) = x := by
 unfold rN; rw [hd_drop1, le_lb]; exact Nat.mod_eq_of_lt (by omega)
theorem rC_hd {k x n : Nat} {t : List Int} (hn : n < 65536) : rC (hd k x n ++ t) = n := by
 unfold rC; rw [hd_drop5, le_lb]; exact Nat.mod_eq_of_lt (by omega)
theorem rD_dB {x : Nat} {zs : List Int} (h : zs.length ≤ 4085) : rD (dB x zs) = zs := by
 unfold rD;have e : rC (dB x zs) = zs.length := rC_hd (by omega);rw [e, if_pos h];unfold dB;rw [hd_drop7, List.take_left]
theorem fl_drop (xs : List Int) : ∀ i, i < xs.length → ∃ t, (fl xs).drop (4 * i) = lb 4 (xs.getD i 0).toNat ++ t := by
 induction xs with
 | nil => intro i hi; simp at hi
 | cons v xs ih =>
  intro i hi;cases i with
  | zero => exact ⟨fl xs, by rw [fl_cons]; rfl⟩
  | succ i =>
   obtain ⟨t, ht⟩ := ih i (by simpa using hi);refine ⟨t, ?_⟩;rw [fl_cons, show 4 * (i + 1) = 4 + 4 * i by omega, ← List.drop_drop, List.drop_left' (lb_len 4 _), ht]
   rfl
theorem rL_len (bs : List Int) (m : Nat) : (rL bs m).length = m := by simp [rL]
theorem rL_get (bs : List Int) (m i : Nat) (h : i < m) : (rL bs m).getD i 0 = ((le 4 (bs.drop (7 + 4 * i)) : Nat) : Int) := by
 simp [rL, List.getD, h]
theorem rL_snoc (bs : List Int) (m : Nat) : rL bs (m + 1) = rL bs m ++ [((le 4 (bs.drop (7 + 4 * m)) : Nat) : Int)] := by
 simp [rL, List.range_succ]
theorem rL_lB {x : Nat} {xs : List Int} (h : xs.all inR = true) : rL (lB x xs) xs.length = xs := by
 refine List.ext_getElem (rL_len _ _) fun i h1 h2 => ?_
 have h3 := rL_get (lB x xs) xs.length i h2;obtain ⟨t, ht⟩ := fl_drop xs i h2
 have h4 : (lB x xs).drop (7 + 4 * i) = lb 4 (xs.getD i 0).toNat ++ (t ++ List.replicate (4085 - 4 * xs.length) 0) := by
  unfold lB;rw [← List.drop_drop, hd_drop7, List.drop_append_of_le_length (by rw [fl_len]; omega), ht, List.append_assoc]
 rw [h4, le_lb] at h3;have h5 := inR_iff.1 (List.all_eq_true.1 h xs[i] (List.getElem_mem h2));have h6 : xs.getD i 0 = xs[i] := by simp [List.getD, List.getElem?_eq_getElem h2]
 rw [h6, Nat.mod_eq_of_lt (by omega)] at h3;have h7 : (rL (lB x xs) xs.length).getD i 0 = (rL (lB x xs) xs.length)[i] := by simp [List.getD, List.getElem?_eq_getElem h1]
 rw [← h7, h3]; omega
theorem dD_dB {x : Nat} {zs : List Int} (h : eD x zs.length = 0) : dD (dB x zs) = true ∧ rN (dB x zs) = x ∧ rD (dB x zs) = zs := by
 obtain ⟨h1, h2, h3, _⟩ := eD_zero h;obtain ⟨k, hk, hk2⟩ := nOk_nat h1;have e1 : rN (dB x zs) = x := rN_hd (by omega);have e2 := rD_dB (x := x) h3;refine ⟨?_, e1, e2⟩;unfold dD;rw [e1, e2];simp [dB_len h3, h]
theorem dL_lB {x : Nat} {xs : List Int} (h : eL x xs = 0) : dL (lB x xs) = true ∧ rN (lB x xs) = x ∧ rC (lB x xs) = xs.length ∧ rL (lB x xs) xs.length = xs := by
 obtain ⟨h1, h2, h3, _⟩ := eL_zero h;obtain ⟨k, hk, hk2⟩ := nOk_nat h1;have e1 : rN (lB x xs) = x := rN_hd (by omega);have e2 : rC (lB x xs) = xs.length := rC_hd (by omega);have e3 := rL_lB (x := x) h3;refine ⟨?_, e1, e2, e3⟩;unfold dL;rw [e1, e2, e3];simp [lB_len h2, h, h2]
theorem dD_parts {bs : List Int} (h : dD bs = true) : bs.length = 4092 ∧ eD (rN bs) (rD bs).length = 0 ∧ dB (rN bs) (rD bs) = bs := by
 simp only [dD, Bool.and_eq_true, decide_eq_true_eq] at h;exact ⟨h.1, h.2.1, h.2.2⟩
theorem dL_parts {bs : List Int} (h : dL bs = true) : bs.length = 4092 ∧ rC bs ≤ 1021 ∧ eL (rN bs) (rL bs (rC bs)) = 0 ∧ lB (rN bs) (rL bs (rC bs)) = bs := by
 simp only [dL, Bool.and_eq_true, decide_eq_true_eq] at h;exact ⟨h.1, h.2.1, h.2.2.1, h.2.2.2⟩
theorem hd_bt {k x n : Nat} (hk : k ≤ 255) : Bt (hd k x n) := Bt.cons ⟨by omega, by omega⟩ (Bt.app (lb_bt 4 x) (lb_bt 2 n))
theorem rep_bt (n : Nat) : Bt (List.replicate n (0 : Int)) := fun z hz => by have := (List.mem_replicate.1 hz).2; omega
theorem fl_bt : ∀ xs : List Int, Bt (fl xs)
 | [] => Bt.nil
 | v :: xs => by rw [fl_cons]; exact Bt.app (lb_bt 4 _) (fl_bt xs)
theorem dB_bt {x : Nat} {zs : List Int} (h : Bt zs) : Bt (dB x zs) := Bt.app (hd_bt (by omega)) (Bt.app h (rep_bt _))
theorem lB_bt (x : Nat) (xs : List Int) : Bt (lB x xs) := Bt.app (hd_bt (by omega)) (Bt.app (fl_bt xs) (rep_bt _))
theorem rN_lt {bs : List Int} (h : Bt bs) : rN bs < 4294967296 := le_lt 4 _ (h.drop 1)
theorem rC_lt {bs : List Int} (h : Bt bs) : rC bs < 65536 := le_lt 2 _ (h.drop 5)
theorem dL_short {bs : List Int} (h : ¬ rC bs ≤ 1021) : lB (rN bs) (rL bs 1021) ≠ bs := by
 intro e;have h1 : rC (lB (rN bs) (rL bs 1021)) = (rL bs 1021).length := rC_hd (by rw [rL_len]; omega);rw [e, rL_len] at h1;omega
def pg (n : Nat) : Nat := if n ≤ 512 ∨ 262144 < n then 0 else (n + 4084) / 4085
def pc (zs : List Int) (i : Nat) : List Int := (zs.drop (4085 * i)).take 4085
structure Hd where
 v : Int
 c : Int
 r : Int
 h : Int
 k : Int
 f : Int
 n : Int
def zH : Hd := ⟨0, 0, 0, 0, 0, 0, 0⟩
theorem Hd.same {a b : Hd} (h1 : a.v = b.v) (h2 : a.c = b.c) (h3 : a.r = b.r) (h4 : a.h = b.h) (h5 : a.k = b.k) (h6 : a.f = b.f) (h7 : a.n = b.n) : a = b := by
 cases a; cases b; simp only at h1 h2 h3 h4 h5 h6 h7; subst h1 h2 h3 h4 h5 h6 h7; rfl
def wi (x a b : Int) : Bool := decide (a ≤ x) && decide (x ≤ b)
theorem wi_iff {x a b : Int} : wi x a b = true ↔ a ≤ x ∧ x ≤ b := by simp [wi]
def tOk (H : Hd) : Bool := if H.r = 0 then decide (H.h = 0) && decide (H.k = 0) else wi H.r 2 (H.c - 1) && (wi H.h 1 16 && wi H.k 1 4294967295)
def fOk (H : Hd) : Bool := if H.f = 0 then decide (H.n = 0) else wi H.f 2 (H.c - 1) && wi H.n 1 (H.c - 2)
def may (H : Hd) : Bool := wi H.v 1 4611686018427387904 && (wi H.c 2 524287 && (tOk H && fOk H))
theorem may_bounds {H : Hd} (h : may H = true) : 1 ≤ H.v ∧ H.v ≤ 4611686018427387904 ∧ 2 ≤ H.c ∧ H.c ≤ 524287 ∧ 0 ≤ H.r ∧ H.r ≤ 524286 ∧ 0 ≤ H.h ∧ H.h ≤ 16 ∧ 0 ≤ H.k ∧ H.k ≤ 4294967295 ∧ 0 ≤ H.f ∧ H.f ≤ 524286 ∧ 0 ≤ H.n ∧ H.n ≤ 524285 := by
 simp only [may, Bool.and_eq_true, wi_iff] at h;obtain ⟨⟨h1, h2⟩, ⟨h3, h4⟩, h5, h6⟩ := h
 have t : 0 ≤ H.r ∧ H.r ≤ 524286 ∧ 0 ≤ H.h ∧ H.h ≤ 16 ∧ 0 ≤ H.k ∧ H.k ≤ 4294967295 := by
  unfold tOk at h5
  split at h5
  ·simp only [Bool.and_eq_true, decide_eq_true_eq] at h5; omega
  ·simp only [Bool.and_eq_true, wi_iff] at h5; omega
 have f : 0 ≤ H.f ∧ H.f ≤ 524286 ∧ 0 ≤ H.n ∧ H.n ≤ 524285 := by
  unfold fOk at h6
  split at h6
  ·simp only [decide_eq_true_eq] at h6; omega
  ·simp only [Bool.and_eq_true, wi_iff] at h6; omega
 omega
def kb4 : List Int := [5, 99, 111, 112]
def en4 : List Int := [101, 110, 100, 46]
def nb (H : Hd) : List Int := lb 8 H.v.toNat ++ (lb 4 H.c.toNat ++ (lb 4 H.r.toNat ++ (lb 1 H.h.toNat ++ (lb 8 H.k.toNat ++ (lb 4 H.f.toNat ++ lb 4 H.n.toNat)))))
def zr : List Int := List.replicate 4051 0
theorem zr_len : zr.length = 4051 := List.length_replicate
def mB (H : Hd) : List Int := kb4 ++ (nb H ++ (zr ++ en4))
theorem nb_len (H : Hd) : (nb H).length = 33 := by simp [nb, lb_len]
theorem mB_len (H : Hd) : (mB H).length = 4092 := by
 unfold mB;rw [List.length_append, List.length_append, List.length_append, nb_len, zr_len]; rfl
theorem zr_bt : Bt zr := by
 intro z hz;have := List.eq_of_mem_replicate hz;omega
theorem kb4_bt : Bt kb4 := by intro z hz; simp [kb4] at hz; omega
theorem en4_bt : Bt en4 := by intro z hz; simp [en4] at hz; omega
theorem nb_bt (H : Hd) : Bt (nb H) := (Bt.app (lb_bt _ _) (Bt.app (lb_bt _ _) (Bt.app (lb_bt _ _) (Bt.app (lb_bt _ _) (Bt.app (lb_bt _ _) (Bt.app (lb_bt _ _) (lb_bt _ _)))))))
theorem mB_bt (H : Hd) : Bt (mB H) := kb4_bt.app ((nb_bt H).app (zr_bt.app en4_bt))
def sg (x : Nat) : Int := if x < 9223372036854775808 then (x : Int) else (x : Int) - 18446744073709551616
theorem sg_wrap {x : Nat} (h : x < 18446744073709551616) : IntKind.i64.wrap (x : Int) = sg x := by
 unfold sg
 split
 ·simp [IntKind.wrap, IntKind.bits, IntKind.signed]; omega
 ·simp [IntKind.wrap, IntKind.bits, IntKind.signed]; omega
def rH (zs : List Int) : Hd := ⟨sg (le 8 (zs.drop 4)), (le 4 (zs.drop 12) : Nat), (le 4 (zs.drop 16) : Nat), (le 1 (zs.drop 20) : Nat), sg (le 8 (zs.drop 21)), (le 4 (zs.drop 29) : Nat), (le 4 (zs.drop 33) : Nat)⟩
theorem rH_v (zs : List Int) : (rH zs).v = sg (le 8 (zs.drop 4)) := rfl
theorem rH_c (zs : List Int) : (rH zs).c = (le 4 (zs.drop 12) : Nat) := rfl
theorem rH_r (zs : List Int) : (rH zs).r = (le 4 (zs.drop 16) : Nat) := rfl
theorem rH_h (zs : List Int) : (rH zs).h = (le 1 (zs.drop 20) : Nat) := rfl
theorem rH_k (zs : List Int) : (rH zs).k = sg (le 8 (zs.drop 21)) := rfl
theorem rH_f (zs : List Int) : (rH zs).f = (le 4 (zs.drop 29) : Nat) := rfl
theorem rH_n (zs : List Int) : (rH zs).n = (le 4 (zs.drop 33) : Nat) := rfl
def dM (zs : List Int) : Bool := decide (zs.length = 4092) && (may (rH zs) && decide (mB (rH zs) = zs))
theorem dM_parts {zs : List Int} (h : dM zs = true) : zs.length = 4092 ∧ may (rH zs) = true ∧ mB (rH zs) = zs := by
 simp only [dM, Bool.and_eq_true, decide_eq_true_eq] at h;exact h
theorem lb_le : ∀ (k : Nat) (zs : List Int), Bt zs → k ≤ zs.length → lb k (le k zs) = zs.take k
 | 0, _, _, _ => by simp [lb]
 | k + 1, [], _, h => by simp at h
 | k + 1, z :: zs, hb, h => by
  have hz := hb z List.mem_cons_self;have ih := lb_le k zs (fun y hy => hb y (List.mem_cons_of_mem _ hy)) (by simpa using h);rw [le, lb, List.take_succ_cons, show (z.toNat + 256 * le k zs) / 256 = le k zs by omega, ih, show (z.toNat + 256 * le k zs) % 256 = z.toNat by omega, show ((z.toNat : Nat) : Int) = z by omega]
theorem part_eq (zs : List Int) (a b : Nat) : zs.drop a = (zs.drop a).take b ++ zs.drop (a + b) := by
 rw [← List.drop_drop, List.take_append_drop]
theorem d4 (H : Hd) : (mB H).drop 4 = nb H ++ (zr ++ en4) := rfl
theorem dn (H : Hd) (a b c k x : Nat) (t : List Int) (h : (mB H).drop a = lb k x ++ t) (hc : c = a + k) (hb : b = c) : (mB H).drop b = t := by
 subst hb hc;rw [← List.drop_drop, h, List.drop_left' (lb_len k x)]
theorem mB_places (H : Hd) : ∃ t1 t2 t3 t4 t5 t6 t7, (mB H).drop 4 = lb 8 H.v.toNat ++ t1 ∧ (mB H).drop 12 = lb 4 H.c.toNat ++ t2 ∧ (mB H).drop 16 = lb 4 H.r.toNat ++ t3 ∧ (mB H).drop 20 = lb 1 H.h.toNat ++ t4 ∧
  (mB H).drop 21 = lb 8 H.k.toNat ++ t5 ∧ (mB H).drop 29 = lb 4 H.f.toNat ++ t6 ∧ (mB H).drop 33 = lb 4 H.n.toNat ++ t7 ∧ (mB H).drop 37 = zr ++ en4 := by
 have h1 : (mB H).drop 4 = lb 8 H.v.toNat ++ (lb 4 H.c.toNat ++ (lb 4 H.r.toNat ++ (lb 1 H.h.toNat ++ (lb 8 H.k.toNat ++ (lb 4 H.f.toNat ++ (lb 4 H.n.toNat ++ (zr ++ en4))))))) := by
  rw [d4]; unfold nb; simp only [List.append_assoc]
 have h2 := dn H 4 12 12 8 _ _ h1 rfl rfl;have h3 := dn H 12 16 16 4 _ _ h2 rfl rfl;have h4 := dn H 16 20 20 4 _ _ h3 rfl rfl;have h5 := dn H 20 21 21 1 _ _ h4 rfl rfl;have h6 := dn H 21 29 29 8 _ _ h5 rfl rfl;have h7 := dn H 29 33 33 4 _ _ h6 rfl rfl;have h8 := dn H 33 37 37 4 _ _ h7 rfl rfl;exact ⟨_, _, _, _, _, _, _, h1, h2, h3, h4, h5, h6, h7, h8⟩
theorem mB_end (H : Hd) : (mB H).drop 4088 = en4 := by
 obtain ⟨_, _, _, _, _, _, _, _, _, _, _, _, _, _, h8⟩ := mB_places H;rw [show (4088 : Nat) = 37 + 4051 by rfl, ← List.drop_drop, h8, List.drop_left' zr_len]
theorem mB_zero (H : Hd) : ((mB H).drop 37).take 4051 = zr := by
 obtain ⟨_, _, _, _, _, _, _, _, _, _, _, _, _, _, h8⟩ := mB_places H;rw [h8, List.take_left' zr_len]
theorem rH_mB {H : Hd} (h : may H = true) : rH (mB H) = H := by
 have hb := may_bounds h;obtain ⟨t1, t2, t3, t4, t5, t6, t7, h1, h2, h3, h4, h5, h6, h7, h8⟩ := mB_places H;refine Hd.same ?_ ?_ ?_ ?_ ?_ ?_ ?_
 ·rw [rH_v, h1, le_lb, Nat.mod_eq_of_lt (by omega)]; unfold sg; rw [if_pos (by omega)]; omega
 ·rw [rH_c, h2, le_lb, Nat.mod_eq_of_lt (by omega)]; omega
 ·rw [rH_r, h3, le_lb, Nat.mod_eq_of_lt (by omega)]; omega
 ·rw [rH_h, h4, le_lb, Nat.mod_eq_of_lt (by omega)]; omega
 ·rw [rH_k, h5, le_lb, Nat.mod_eq_of_lt (by omega)]; unfold sg; rw [if_pos (by omega)]; omega
 ·rw [rH_f, h6, le_lb, Nat.mod_eq_of_lt (by omega)]; omega
 ·rw [rH_n, h7, le_lb, Nat.mod_eq_of_lt (by omega)]; omega
theorem dM_mB {H : Hd} (h : may H = true) : dM (mB H) = true := by
 unfold dM;rw [rH_mB h, h];simp [mB_len]
theorem sg_pos {x : Nat} (h : 0 ≤ sg x) (hx : x < 18446744073709551616) : (sg x).toNat = x := by
 unfold sg at h ⊢
 split at h
 ·rw [if_pos (by assumption)]; omega
 ·omega
theorem mB_rH {zs : List Int} (hl : zs.length = 4092) (hb : Bt zs) (hm : may (rH zs) = true) (h1 : zs.take 1 = [5]) (h2 : (zs.drop 1).take 3 = [99, 111, 112]) (h3 : (zs.drop 37).take 4051 = zr) (h4 : (zs.drop 4088).take 4 = en4) : mB (rH zs) = zs := by
 have b := may_bounds hm
 have e0 : zs = zs.take 1 ++ ((zs.drop 1).take 3 ++ ((zs.drop 4).take 8 ++ ((zs.drop 12).take 4 ++ ((zs.drop 16).take 4 ++ ((zs.drop 20).take 1 ++ ((zs.drop 21).take 8 ++ ((zs.drop 29).take 4 ++ ((zs.drop 33).take 4 ++ ((zs.drop 37).take 4051 ++ (zs.drop 4088).take 4))))))))) := by
  have e9 : (zs.drop 4088).take 4 = zs.drop 4088 := List.take_of_length_le (by rw [List.length_drop]; omega);rw [e9, ← part_eq zs 37 4051, ← part_eq zs 33 4, ← part_eq zs 29 4, ← part_eq zs 21 8, ← part_eq zs 20 1, ← part_eq zs 16 4, ← part_eq zs 12 4, ← part_eq zs 4 8, ← part_eq zs 1 3, List.take_append_drop]
 have n1 : lb 8 (rH zs).v.toNat = (zs.drop 4).take 8 := by
  rw [show (rH zs).v.toNat = le 8 (zs.drop 4) from sg_pos (by have := b.1; show 0 ≤ (rH zs).v; omega) (by have := le_lt 8 _ (hb.drop 4); omega)];exact lb_le 8 _ (hb.drop 4) (by rw [List.length_drop]; omega)
 have n5 : lb 8 (rH zs).k.toNat = (zs.drop 21).take 8 := by
  rw [show (rH zs).k.toNat = le 8 (zs.drop 21) from sg_pos (by show 0 ≤ (rH zs).k; omega) (by have := le_lt 8 _ (hb.drop 21); omega)];exact lb_le 8 _ (hb.drop 21) (by rw [List.length_drop]; omega)
 have n2 : lb 4 (rH zs).c.toNat = (zs.drop 12).take 4 := lb_le 4 _ (hb.drop 12) (by rw [List.length_drop]; omega);have n3 : lb 4 (rH zs).r.toNat = (zs.drop 16).take 4 := lb_le 4 _ (hb.drop 16) (by rw [List.length_drop]; omega);have n4 : lb 1 (rH zs).h.toNat = (zs.drop 20).take 1 := lb_le 1 _ (hb.drop 20) (by rw [List.length_drop]; omega);have n6 : lb 4 (rH zs).f.toNat = (zs.drop 29).take 4 := lb_le 4 _ (hb.drop 29) (by rw [List.length_drop]; omega);have n7 : lb 4 (rH zs).n.toNat = (zs.drop 33).take 4 := lb_le 4 _ (hb.drop 33) (by rw [List.length_drop]; omega);refine Eq.trans ?_ e0.symm;rw [h1, h2, h3, h4];unfold mB nb;rw [n1, n2, n3, n4, n5, n6, n7];simp only [List.append_assoc]
 rfl
theorem dM_iff {zs : List Int} (hl : zs.length = 4092) (hb : Bt zs) : dM zs = true ↔ may (rH zs) = true ∧ zs.take 1 = [5] ∧ (zs.drop 1).take 3 = [99, 111, 112] ∧ (zs.drop 37).take 4051 = zr ∧ (zs.drop 4088).take 4 = en4 := by
 constructor
 ·intro h
  obtain ⟨_, h2, h3⟩ := dM_parts h;refine ⟨h2, ?_, ?_, ?_, ?_⟩
  ·rw [← h3]; rfl
  ·rw [← h3]; rfl
  ·rw [← h3]; exact mB_zero _
  ·rw [← h3, mB_end]; rfl
 ·rintro ⟨h1, h2, h3, h4, h5⟩
  simp [dM, hl, h1, mB_rH hl hb h1 h2 h3 h4 h5]
def cm (x : Nat) : Int := if 4611686018427387904 < x then 4611686018427387905 else (x : Int)
def qH (zs : List Int) : Hd := ⟨cm (le 8 (zs.drop 4)), (le 4 (zs.drop 12) : Nat), (le 4 (zs.drop 16) : Nat), (le 1 (zs.drop 20) : Nat), cm (le 8 (zs.drop 21)), (le 4 (zs.drop 29) : Nat), (le 4 (zs.drop 33) : Nat)⟩
theorem wi_cm {x : Nat} {a b : Int} (h : x < 18446744073709551616) (ha : 0 ≤ a) (hb : b ≤ 4611686018427387904) : wi (cm x) a b = wi (sg x) a b := by
 rw [Bool.eq_iff_iff, wi_iff, wi_iff];unfold cm sg
 split <;> split <;> omega
theorem cm_sg {x : Nat} (h1 : 0 ≤ sg x) (h2 : sg x ≤ 4611686018427387904) (h : x < 18446744073709551616) : cm x = sg x := by
 unfold cm sg at *
 split at h1 <;> split <;> omega
theorem may_qH {zs : List Int} (hb : Bt zs) : may (qH zs) = may (rH zs) := by
 have l1 : le 8 (zs.drop 4) < 18446744073709551616 := by have := le_lt 8 _ (hb.drop 4); omega
 have l5 : le 8 (zs.drop 21) < 18446744073709551616 := by have := le_lt 8 _ (hb.drop 21); omega
 have e1 : wi (qH zs).v 1 4611686018427387904 = wi (rH zs).v 1 4611686018427387904 := wi_cm l1 (by omega) (by omega)
 have e2 : tOk (qH zs) = tOk (rH zs) := by
  unfold tOk;have e3 : wi (qH zs).k 1 4294967295 = wi (rH zs).k 1 4294967295 := wi_cm l5 (by omega) (by omega)
  have e4 : decide ((qH zs).k = 0) = decide ((rH zs).k = 0) := by
   rw [decide_eq_decide]
   show cm _ = 0 ↔ sg _ = 0
   unfold cm sg
   split <;> split <;> omega
  rw [e3, e4]; rfl
 unfold may;rw [e1, e2]; rfl
theorem qH_rH {zs : List Int} (hb : Bt zs) (h : may (rH zs) = true) : qH zs = rH zs := by
 have l1 : le 8 (zs.drop 4) < 18446744073709551616 := by have := le_lt 8 _ (hb.drop 4); omega
 have l5 : le 8 (zs.drop 21) < 18446744073709551616 := by have := le_lt 8 _ (hb.drop 21); omega
 have b := may_bounds h;exact Hd.same (cm_sg (by have := b.1; show 0 ≤ (rH zs).v; omega) b.2.1 l1) rfl rfl rfl (cm_sg (by show 0 ≤ (rH zs).k; omega) (by show (rH zs).k ≤ _; omega) l5) rfl rfl
def aH (zs : List Int) : Hd := if dM zs = true then rH zs else zH
def aE (zs : List Int) : Int := if dM zs = true then 0 else 70
theorem a_no {zs : List Int} (h : dM zs = false) : aH zs = zH ∧ aE zs = 70 := by unfold aH aE; rw [h]; exact ⟨rfl, rfl⟩
theorem a_yes {zs : List Int} (h : dM zs = true) : aH zs = rH zs ∧ aE zs = 0 := by unfold aH aE; rw [h]; exact ⟨rfl, rfl⟩
def oM (H : Hd) : List Int := if may H = true then mB H else []
def eM (H : Hd) : Int := if may H = true then 0 else 71
theorem o_no {H : Hd} (h : may H = false) : oM H = [] ∧ eM H = 71 := by unfold oM eM; rw [h]; exact ⟨rfl, rfl⟩
theorem o_yes {H : Hd} (h : may H = true) : oM H = mB H ∧ eM H = 0 := by unfold oM eM; rw [h]; exact ⟨rfl, rfl⟩
theorem oM_bt (H : Hd) : Bt (oM H) := by
 unfold oM; split
 ·exact mB_bt H
 ·exact Bt.nil
end Go.Proofs.YtkiopabcnemgnaaGreatDoor
