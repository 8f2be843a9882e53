import Derived.Test.YtlhjociijkhimaaGreatDoorLeafM
namespace Go.Proofs.YtlhjociijkhimaaGreatDoor

/-! ### Reading: the state is the place and the error -/

/-- A number of 64 bits as an int. -/
def i64 (x : Nat) : Int := if x < 9223372036854775808 then (x : Int) else (x : Int) - 18446744073709551616

def sV (zs : List Int) (s : Nat × Int) : Nat × (Nat × Int) :=
  if s.2 = 0 then (if (rv (zs.drop s.1)).2.2 = 0 then ((rv (zs.drop s.1)).1, (s.1 + (rv (zs.drop s.1)).2.1, 0)) else (0, (s.1, (rv (zs.drop s.1)).2.2))) else (0, s)
def sB (zs : List Int) (s : Nat × Int) (m : Int) : List Int × (Nat × Int) :=
  if s.2 = 0 then (if m < 0 ∨ (zs.length : Int) - s.1 < m then ([], (s.1, 10)) else ((zs.drop s.1).take m.toNat, (s.1 + m.toNat, 0))) else ([], s)
def sN (zs : List Int) (s : Nat × Int) (k : Nat) : Nat × (Nat × Int) :=
  if s.2 = 0 then (if zs.length < s.1 + k then (0, (s.1, 10)) else (le k (zs.drop s.1), (s.1 + k, 0))) else (0, s)

def sKey (zs P : List Int) (s : Nat × Int) : List Int × (Nat × Int) :=
  (P ++ (sB zs (sV zs s).2 (i64 (sV zs s).1)).1, (sB zs (sV zs s).2 (i64 (sV zs s).1)).2)
/-- What follows a cell's tag. -/
def sVal (zs key : List Int) (t : Nat × (Nat × Int)) : It × (Nat × Int) :=
  if t.1 % 2 = 1 then (⟨key, [], (t.1 / 2 : Nat), ((sN zs t.2 4).1 : Nat)⟩, (sN zs t.2 4).2) else (⟨key, (sB zs t.2 (t.1 / 2 : Nat)).1, (t.1 / 2 : Nat), 0⟩, (sB zs t.2 (t.1 / 2 : Nat)).2)
def sItem (zs P : List Int) (s : Nat × Int) : It × (Nat × Int) := sVal zs (sKey zs P s).1 (sV zs (sKey zs P s).2)
def sLoop (zs P : List Int) : Nat → Nat × Int → List It → List It
  | 0, _, acc => acc
  | n + 1, s, acc => if (sItem zs P s).2.2 = 0 then sLoop zs P n (sItem zs P s).2 (acc ++ [(sItem zs P s).1]) else []
/-- A body's head: how many, the beginning, where the cells begin. -/
def sHead (zs : List Int) : Nat × List Int × (Nat × Int) :=
  let n := sN zs (sB zs (0, 0) 1).2 2
  let v := sV zs n.2
  let p := sB zs v.2 (i64 v.1)
  (n.1, p.1, (sB zs p.2 ((2 * n.1 : Nat) : Int)).2)
def parse (zs : List Int) : List It := sLoop zs (sHead zs).2.1 (sHead zs).1 (sHead zs).2.2 []

theorem sV_at {zs t : List Int} {p x : Nat} (h : zs.drop p = vform x ++ t) (hx : x < 18446744073709551616) : sV zs (p, 0) = (x, (p + vl x, 0)) := by
  unfold sV
  simp only [if_pos, h, rv_vform x t hx]
  rfl
theorem sB_at {zs y t : List Int} {p : Nat} (h : zs.drop p = y ++ t) (hp : p ≤ zs.length) (m : Int) (hm : m = (y.length : Int)) : sB zs (p, 0) m = (y, (p + y.length, 0)) := by
  have hl := congrArg List.length h
  simp only [List.length_drop, List.length_append] at hl
  subst hm
  unfold sB
  rw [if_pos rfl, if_neg (by simp only; omega)]
  simp [h]
theorem sN_at {zs t : List Int} {p k x : Nat} (h : zs.drop p = lb k x ++ t) (hp : p ≤ zs.length) : sN zs (p, 0) k = (x % 256 ^ k, (p + k, 0)) := by
  have hl := congrArg List.length h
  simp only [List.length_drop, List.length_append, lb_len] at hl
  unfold sN
  rw [if_pos rfl, if_neg (by simp only; omega)]
  simp [h, le_lb]
theorem drop_on {zs y t : List Int} {p : Nat} (h : zs.drop p = y ++ t) : zs.drop (p + y.length) = t := by
  rw [← List.drop_drop, h, List.drop_left]
theorem place_on {zs y t : List Int} {p : Nat} (h : zs.drop p = y ++ t) (hp : p ≤ zs.length) : p + y.length ≤ zs.length := by
  have hl := congrArg List.length h
  simp only [List.length_drop, List.length_append] at hl
  omega
theorem i64_small {x : Nat} (h : x < 9223372036854775808) : i64 x = (x : Int) := by unfold i64; rw [if_pos h]

theorem tg_parts {x : It} (h1 : ws x = false) (_h2 : wv x = false) : tg x.size / 2 = x.size.toNat ∧ (512 < x.size ↔ tg x.size % 2 = 1) := by
  have a := ws_parts h1
  unfold tg
  rw [lg_of a.2.2.1 a.2.2.2]
  split <;> omega

theorem sItem_at {zs P t : List Int} {p q : Nat} {x : It} (h1 : ws x = false) (h2 : wv x = false) (hk : P ++ x.key.drop q = x.key) (h : zs.drop p = cb q x ++ t) (hp : p ≤ zs.length) :
    sItem zs P (p, 0) = (x, (p + (cb q x).length, 0)) := by
  have a := ws_parts h1
  obtain ⟨t1, t2⟩ := tg_parts h1 h2
  have ht := tg_lt x.size
  have e := h
  unfold cb at e
  simp only [List.append_assoc] at e
  have r1 := sV_at (x := x.key.length - q) e (by omega)
  have e1 := drop_on e
  have p1 := place_on e hp
  have r2 := sB_at e1 p1 (i64 (x.key.length - q)) (by rw [i64_small (by omega), List.length_drop])
  have e2 := drop_on e1
  have p2 := place_on e1 p1
  have r3 := sV_at e2 (by omega)
  have e3 := drop_on e2
  have p3 := place_on e2 p2
  have k1 : sKey zs P (p, 0) = (x.key, (p + (vform (x.key.length - q)).length + (x.key.drop q).length, 0)) := by
    unfold sKey
    rw [r1]
    simp only [vl, r2, hk]
  unfold sItem
  rw [k1]
  simp only
  rw [r3]
  unfold sVal
  have hc : (cb q x).length = (vform (x.key.length - q)).length + (x.key.drop q).length + (vform (tg x.size)).length + (if 512 < x.size then lb 4 x.first.toNat else x.val).length := by
    unfold cb; simp only [List.length_append]; omega
  have hs : ((x.size.toNat : Nat) : Int) = x.size := Int.toNat_of_nonneg a.2.2.1
  rcases wv_parts h2 with ⟨b1, b2, b3, b4⟩ | ⟨b1, b2, b3⟩
  · rw [if_pos b1] at e3 hc
    have r4 := sN_at e3 p3
    simp only [vl]
    rw [if_pos (t2.1 b1), t1, r4, hc, lb_len, hs]
    have hf : ((x.first.toNat % 256 ^ 4 : Nat) : Int) = x.first := by
      rw [Nat.mod_eq_of_lt (by omega)]; omega
    rw [hf]
    obtain ⟨k, v, s, f⟩ := x
    simp only at b2
    subst b2
    simp only [Nat.add_assoc]
  · rw [if_neg (by omega)] at e3 hc
    have r4 := sB_at e3 p3 ((x.size.toNat : Nat) : Int) (by omega)
    simp only [vl]
    rw [if_neg (fun hh => by have := t2.2 hh; omega), t1, r4, hc, hs]
    obtain ⟨k, v, s, f⟩ := x
    simp only at b3
    subst b3
    simp only [Nat.add_assoc]

theorem sLoop_at {zs P t : List Int} {q : Nat} : ∀ {L : List It} {p : Nat} (acc : List It), (∀ x ∈ L, ws x = false) → (∀ x ∈ L, wv x = false) → (∀ x ∈ L, P ++ x.key.drop q = x.key) → zs.drop p = cells q L ++ t → p ≤ zs.length →
    sLoop zs P L.length (p, 0) acc = acc ++ L
  | [], _, acc, _, _, _, _, _ => by simp [sLoop]
  | x :: L, p, acc, h1, h2, hk, h, hp => by
    rw [cells, List.append_assoc] at h
    have r := sItem_at (h1 x List.mem_cons_self) (h2 x List.mem_cons_self) (hk x List.mem_cons_self) h hp
    rw [List.length_cons, sLoop, r, if_pos rfl, sLoop_at (t := t) (q := q) _ (fun y hy => h1 y (List.mem_cons_of_mem _ hy)) (fun y hy => h2 y (List.mem_cons_of_mem _ hy)) (fun y hy => hk y (List.mem_cons_of_mem _ hy)) (drop_on h) (place_on h hp)]
    simp

theorem many_le {L : List It} (h : wrong L = 0) (h2 : size L ≤ 4092) : L.length ≤ 2046 ∧ pre L ≤ 255 := by
  obtain ⟨h0, h1, hv, _⟩ := wrong_parts h
  have := cells_len (p := pre L) h1 hv
  unfold size at h2
  refine ⟨by omega, ?_⟩
  cases L with
  | nil => exact absurd rfl h0
  | cons x L =>
    have a := (pre_each x (L := x :: L) List.mem_cons_self).1
    have b := (ws_parts (h1 x List.mem_cons_self)).2.1
    omega

/-- The head of a body, read. -/
theorem sHead_at {zs : List Int} {L : List It} (h : Good zs L) : sHead zs = (L.length, (L.headD it0).key.take (pre L), ((headB L).length + 2 * L.length, 0)) ∧ zs.drop ((headB L).length + 2 * L.length) = cells (pre L) L ++ List.replicate (4092 - (used L).length) 0 ∧ (headB L).length + 2 * L.length ≤ zs.length := by
  obtain ⟨hw, hs, hb⟩ := h
  obtain ⟨hm, hp⟩ := many_le hw hs
  obtain ⟨h0, h1, hv, _⟩ := wrong_parts hw
  have hL : L ≠ [] := fun e => h0 (by rw [e]; rfl)
  have hl := head_len hL
  have e0 : zs.drop 0 = lb 1 1 ++ (lb 2 L.length ++ (vform (pre L) ++ ((L.headD it0).key.take (pre L) ++ (slots (pre L) ((headB L).length + 2 * L.length) L ++ (cells (pre L) L ++ List.replicate (4092 - (used L).length) 0))))) := by
    rw [List.drop_zero, ← hb]
    unfold body used
    generalize (headB L).length = z
    unfold headB
    simp only [List.append_assoc]
  have r0 := sB_at e0 (Nat.zero_le _) 1 rfl
  have e1 := drop_on e0
  have p1 := place_on e0 (Nat.zero_le _)
  have r1 := sN_at e1 p1
  have e2 := drop_on e1
  have p2 := place_on e1 p1
  rw [lb_len 2] at e2 p2
  have r2 := sV_at e2 (by omega)
  have e3 := drop_on e2
  have p3 := place_on e2 p2
  have hk : ((L.headD it0).key.take (pre L)).length = pre L := by
    cases L with
    | nil => exact absurd rfl hL
    | cons x L => rw [List.length_take, List.headD_cons]; have := (pre_each x (L := x :: L) List.mem_cons_self).1; omega
  have r3 := sB_at e3 p3 (i64 (pre L)) (by rw [i64_small (by omega), hk])
  have e4 := drop_on e3
  have p4 := place_on e3 p3
  have r4 := sB_at e4 p4 ((2 * L.length : Nat) : Int) (by rw [slots_len])
  have e5 := drop_on e4
  have p5 := place_on e4 p4
  have hn : L.length % 256 ^ 2 = L.length := Nat.mod_eq_of_lt (by omega)
  have ha : 0 + (lb 1 1).length + 2 + (vform (pre L)).length + ((L.headD it0).key.take (pre L)).length = (headB L).length := by
    rw [hl, hk, lb_len]; unfold vl; omega
  rw [ha] at e4 p4 e5 p5 r4
  rw [slots_len] at e5 p5 r4
  refine ⟨?_, e5, p5⟩
  unfold sHead
  rw [r0]
  simp only
  rw [r1]
  simp only [hn]
  rw [r2]
  simp only [vl]
  rw [r3]
  simp only
  rw [ha, r4]

/-- There and back. -/
theorem parse_body {zs : List Int} {L : List It} (h : Good zs L) : parse zs = L := by
  obtain ⟨hw, hs, hb⟩ := h
  obtain ⟨r, e, p⟩ := sHead_at ⟨hw, hs, hb⟩
  obtain ⟨h0, h1, hv, _⟩ := wrong_parts hw
  unfold parse
  rw [r]
  simp only
  rw [sLoop_at [] h1 hv (fun x hx => pre_key hx) e p, List.nil_append]

/-- Unlike items, unlike bodies. -/
theorem good_one {zs : List Int} {L M : List It} (h : Good zs L) (k : Good zs M) : L = M := (parse_body h).symm.trans (parse_body k)

/-! ### The reference's reading -/

def rChk (s : Nat × Int) (x m : Nat) : Nat × Int := if m < x then (s.1, 10) else s
def rKey (zs P : List Int) (s : Nat × Int) : List Int × (Nat × Int) :=
  (P ++ (sB zs (rChk (sV zs s).2 (sV zs s).1 255) (i64 (sV zs s).1)).1, (sB zs (rChk (sV zs s).2 (sV zs s).1 255) (i64 (sV zs s).1)).2)
def rItem (zs P : List Int) (s : Nat × Int) : It × (Nat × Int) := sVal zs (rKey zs P s).1 ((sV zs (rKey zs P s).2).1, rChk (sV zs (rKey zs P s).2).2 (sV zs (rKey zs P s).2).1 524289)
/-- The items read, and the state behind them. -/
def rLoop (zs P : List Int) : Nat → Nat × Int → List It → List It × (Nat × Int)
  | 0, s, acc => (acc, s)
  | n + 1, s, acc => if s.2 = 0 then rLoop zs P n (rItem zs P s).2 (acc ++ [(rItem zs P s).1]) else (acc, s)

theorem rItem_at {zs P t : List Int} {p q : Nat} {x : It} (h1 : ws x = false) (h2 : wv x = false) (hk : P ++ x.key.drop q = x.key) (h : zs.drop p = cb q x ++ t) (hp : p ≤ zs.length) :
    rItem zs P (p, 0) = (x, (p + (cb q x).length, 0)) := by
  rw [← sItem_at h1 h2 hk h hp]
  have a := ws_parts h1
  have e := h
  unfold cb at e
  simp only [List.append_assoc] at e
  have r1 := sV_at (x := x.key.length - q) e (by omega)
  have e1 := drop_on e
  have p1 := place_on e hp
  have r2 := sB_at e1 p1 (i64 (x.key.length - q)) (by rw [i64_small (by omega), List.length_drop])
  have e2 := drop_on e1
  have ht := tg_lt x.size
  have r3 := sV_at e2 (by omega)
  have k1 : rKey zs P (p, 0) = sKey zs P (p, 0) := by
    unfold rKey sKey rChk
    rw [r1]
    simp only
    rw [if_neg (by omega)]
  have k2 : (sKey zs P (p, 0)).2 = (p + (vform (x.key.length - q)).length + (x.key.drop q).length, 0) := by
    unfold sKey
    rw [r1]
    simp only [vl, r2]
  have ht2 : tg x.size ≤ 524289 := by
    have := lg_le x.size
    unfold tg; split <;> omega
  unfold rItem sItem
  rw [k1, k2, r3]
  unfold rChk
  simp only
  rw [if_neg (by omega)]

theorem rLoop_at {zs P t : List Int} {q : Nat} : ∀ {L : List It} {p : Nat} (acc : List It), (∀ x ∈ L, ws x = false) → (∀ x ∈ L, wv x = false) → (∀ x ∈ L, P ++ x.key.drop q = x.key) → zs.drop p = cells q L ++ t → p ≤ zs.length →
    ∃ p', rLoop zs P L.length (p, 0) acc = (acc ++ L, (p', 0))
  | [], p, acc, _, _, _, _, _ => ⟨p, by simp [rLoop]⟩
  | x :: L, p, acc, h1, h2, hk, h, hp => by
    rw [cells, List.append_assoc] at h
    have r := rItem_at (h1 x List.mem_cons_self) (h2 x List.mem_cons_self) (hk x List.mem_cons_self) h hp
    obtain ⟨p', e⟩ := rLoop_at (t := t) (q := q) (L := L) (acc ++ [x]) (fun y hy => h1 y (List.mem_cons_of_mem _ hy)) (fun y hy => h2 y (List.mem_cons_of_mem _ hy)) (fun y hy => hk y (List.mem_cons_of_mem _ hy)) (drop_on h) (place_on h hp)
    refine ⟨p', ?_⟩
    rw [List.length_cons, rLoop, if_pos rfl, r, e]
    simp

/-- The reference's items: what it reads of a body. -/
def rRead (zs : List Int) : List It × (Nat × Int) := rLoop zs (sHead zs).2.1 (sHead zs).1 (sHead zs).2.2 []
/-- The number that the head tells for its beginning. -/
def sPre (zs : List Int) : Nat := (sV zs (sN zs (sB zs (0, 0) 1).2 2).2).1
theorem rRead_body {zs : List Int} {L : List It} (h : Good zs L) : ∃ p, rRead zs = (L, (p, 0)) := by
  obtain ⟨hw, hs, hb⟩ := h
  obtain ⟨r, e, p⟩ := sHead_at ⟨hw, hs, hb⟩
  obtain ⟨h0, h1, hv, _⟩ := wrong_parts hw
  unfold rRead
  rw [r]
  simp only
  obtain ⟨p', e'⟩ := rLoop_at (L := L) [] h1 hv (fun x hx => pre_key hx) e p
  exact ⟨p', by rw [e', List.nil_append]⟩
theorem sPre_body {zs : List Int} {L : List It} (h : Good zs L) : sPre zs ≤ 255 := by
  obtain ⟨hw, hs, hb⟩ := h
  have hm := many_le hw hs
  have e0 : zs.drop 0 = lb 1 1 ++ (lb 2 L.length ++ (vform (pre L) ++ ((L.headD it0).key.take (pre L) ++ (slots (pre L) ((headB L).length + 2 * L.length) L ++ (cells (pre L) L ++ List.replicate (4092 - (used L).length) 0))))) := by
    rw [List.drop_zero, ← hb]
    unfold body used
    generalize (headB L).length = z
    unfold headB
    simp only [List.append_assoc]
  have r0 := sB_at e0 (Nat.zero_le _) 1 rfl
  have e1 := drop_on e0
  have p1 := place_on e0 (Nat.zero_le _)
  have r1 := sN_at e1 p1
  have e2 := drop_on e1
  rw [lb_len 2] at e2
  have r2 := sV_at e2 (by omega)
  unfold sPre
  rw [r0]
  simp only
  rw [r1]
  simp only
  rw [r2]
  exact hm.2
end Go.Proofs.YtlhjociijkhimaaGreatDoor
