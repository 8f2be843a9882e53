import Derived.Test.YtnfelndfpmnkmaaGreatDoorQ11
import Derived.Laws.CopyOwn
namespace Go.Proofs.YtnfelndfpmnkmaaGreatDoor
structure Kd where
 no : Int
 keys : Int
def kd0 : Kd := ⟨0, 0⟩
structure Sk where
 sep : List Int
 kid : Kd
def sk0 : Sk := ⟨[], kd0⟩
def bpre : List (List Int) → Nat
 | [] => 0
 | x :: L => comAll x x.length L
def bcl (p : Nat) (s : List Int) : Nat := vl (s.length - p) + (s.length - p) + 8
def bsums (p : Nat) : List (List Int) → Nat
 | [] => 0
 | x :: L => 2 + bcl p x + bsums p L
def bsize (L : List (List Int)) : Nat := 12 + vl (bpre L) + bpre L + bsums (bpre L) L
def wk (k : Kd) : Bool := decide (k.no < 2) || decide (524287 ≤ k.no) || decide (k.keys < 1) || decide (4294967295 < k.keys)
def wsep (s : List Int) : Bool := !(decide (1 ≤ s.length) && decide (s.length ≤ 255))
def bUp (L : List (List Int)) : Prop := ∀ i, i < L.length - 1 → cmpZ (L.getD i []) (L.getD (i + 1) []) < 0
def bups (L : List (List Int)) : Bool := (List.range (L.length - 1)).all fun i => decide (cmpZ (L.getD i []) (L.getD (i + 1) []) < 0)
theorem bups_iff (L : List (List Int)) : bups L = true ↔ bUp L := by
 unfold bups bUp
 simp
def bwrong (lv : Int) (L : List (List Int)) (K : List Kd) : Int :=
 if lv < 1 ∨ 15 < lv ∨ K.length ≠ L.length + 1 then 50 else if K.any wk then 51 else if L.any wsep then 41 else if bups L then (if 4092 < bsize L then 42 else 0) else 30
def seps (M : List Sk) : List (List Int) := M.map Sk.sep
def kids (k : Kd) (M : List Sk) : List Kd := k :: M.map Sk.kid
def kb (k : Kd) : List Int := lb 4 k.no.toNat ++ lb 4 k.keys.toNat
def bcb (p : Nat) (x : Sk) : List Int := vform (x.sep.length - p) ++ (x.sep.drop p ++ kb x.kid)
def bslots (p a : Nat) : List Sk → List Int
 | [] => []
 | x :: L => lb 2 a ++ bslots p (a + (bcb p x).length) L
def bcells (p : Nat) : List Sk → List Int
 | [] => []
 | x :: L => bcb p x ++ bcells p L
def bhead (lv : Int) (M : List Sk) : List Int := lb 1 2 ++ (lb 1 lv.toNat ++ (lb 2 (M.length + 1) ++ (vform (bpre (seps M)) ++ (M.headD sk0).sep.take (bpre (seps M)))))
def bkst (lv : Int) (M : List Sk) : Nat := (bhead lv M).length + 2 * M.length
def bused (lv : Int) (k : Kd) (M : List Sk) : List Int := bhead lv M ++ (bslots (bpre (seps M)) (bkst lv M + 8) M ++ (kb k ++ bcells (bpre (seps M)) M))
def bbody (lv : Int) (k : Kd) (M : List Sk) : List Int := bused lv k M ++ List.replicate (4092 - (bused lv k M).length) 0
def BGood (zs : List Int) (lv : Int) (k : Kd) (M : List Sk) : Prop := bwrong lv (seps M) (kids k M) = 0 ∧ bbody lv k M = zs
theorem kb_len (k : Kd) : (kb k).length = 8 := by unfold kb; rw [List.length_append, lb_len, lb_len]
theorem bpre_each {L : List (List Int)} : ∀ x ∈ L, bpre L ≤ x.length ∧ x.take (bpre L) = (L.headD []).take (bpre L) := by
 cases L with
 | nil => intro x h; cases h
 | cons y L =>
  intro x h
  have hp : bpre (y :: L) = comAll y y.length L := rfl
  rcases List.mem_cons.1 h with rfl | h
  ·exact ⟨by rw [hp]; exact comAll_le _ _ _, rfl⟩
  ·have h1 : bpre (y :: L) ≤ com y x := by rw [hp]; exact comAll_each _ _ _ _ h
   exact ⟨Nat.le_trans h1 (com_le2 _ _), (com_prefix _ _ _ h1).symm⟩
theorem seps_mem {M : List Sk} {x : Sk} (h : x ∈ M) : x.sep ∈ seps M := List.mem_map_of_mem h
theorem seps_head (M : List Sk) : (seps M).headD [] = (M.headD sk0).sep := by cases M <;> rfl
theorem seps_len (M : List Sk) : (seps M).length = M.length := List.length_map ..
theorem kids_len (k : Kd) (M : List Sk) : (kids k M).length = M.length + 1 := by unfold kids; simp
theorem bpre_key {M : List Sk} {x : Sk} (h : x ∈ M) : (M.headD sk0).sep.take (bpre (seps M)) ++ x.sep.drop (bpre (seps M)) = x.sep := by
 rw [← seps_head, ← (bpre_each x.sep (seps_mem h)).2, List.take_append_drop]
theorem bcl_le (p : Nat) (x : List Int) : bcl p x ≤ x.length + 18 := by
 have h1 := vl_le (x.length - p)
 unfold bcl
 omega
theorem bsums_le (p K : Nat) : ∀ L : List (List Int), (∀ x ∈ L, x.length ≤ K) → bsums p L ≤ L.length * (K + 20)
 | [], _ => by simp [bsums]
 | x :: L, h => by
  have h1 := bcl_le p x
  have h2 := h x List.mem_cons_self
  have h3 := bsums_le p K L (fun y hy => h y (List.mem_cons_of_mem _ hy))
  rw [bsums, List.length_cons, Nat.add_mul]
  omega
theorem bsums_snoc (p : Nat) : ∀ (L : List (List Int)) (i : Nat), i < L.length → bsums p (L.take (i + 1)) = bsums p (L.take i) + (2 + bcl p (L.getD i []))
 | x :: L, 0, _ => by simp [bsums]
 | x :: L, i + 1, h => by
  have := bsums_snoc p L i (by simpa using h)
  simp only [List.take_succ_cons, bsums, List.getD_cons_succ]
  omega
structure Fit (lv : Int) (L : List (List Int)) (K : List Kd) : Prop where
 l1 : 1 ≤ lv
 l2 : lv ≤ 15
 len : K.length = L.length + 1
 kid : ∀ k ∈ K, wk k = false
 sep : ∀ s ∈ L, wsep s = false
 up : bUp L
 size : bsize L ≤ 4092
theorem bwrong_fit {lv : Int} {L : List (List Int)} {K : List Kd} : bwrong lv L K = 0 ↔ Fit lv L K := by
 constructor
 ·intro h
  unfold bwrong at h
  split at h
  ·omega
  ·rename_i h0
   split at h
   ·omega
   ·rename_i h1
    split at h
    ·omega
    ·rename_i h2
     split at h
     ·rename_i h3
      split at h
      ·omega
      ·rename_i h4
       exact ⟨by omega, by omega, by omega, fun x hx => by simpa using fun e => h1 (List.any_eq_true.2 ⟨x, hx, e⟩), fun x hx => by simpa using fun e => h2 (List.any_eq_true.2 ⟨x, hx, e⟩), (bups_iff L).1 h3, by omega⟩
     ·omega
 ·intro h
  have h1 : K.any wk = false := by
   rw [List.any_eq_false]; intro x hx; rw [h.kid x hx]; simp
  have h2 : L.any wsep = false := by
   rw [List.any_eq_false]; intro x hx; rw [h.sep x hx]; simp
  have a1 := h.l1
  have a2 := h.l2
  have a3 := h.len
  unfold bwrong
  rw [if_neg (by omega), h1, h2, (bups_iff L).2 h.up]
  simp [h.size]
theorem wk_parts {k : Kd} (h : wk k = false) : 2 ≤ k.no ∧ k.no < 524287 ∧ 1 ≤ k.keys ∧ k.keys ≤ 4294967295 := by
 unfold wk at h
 simp at h
 omega
theorem wsep_parts {s : List Int} (h : wsep s = false) : 1 ≤ s.length ∧ s.length ≤ 255 := by
 unfold wsep at h
 simp at h
 omega
theorem bcb_len (p : Nat) (x : Sk) : (bcb p x).length = bcl p x.sep := by
 unfold bcb bcl vl
 rw [List.length_append, List.length_append, kb_len, List.length_drop]
 omega
theorem bslots_len (p : Nat) : ∀ (L : List Sk) (a : Nat), (bslots p a L).length = 2 * L.length
 | [], _ => rfl
 | x :: L, a => by rw [bslots, List.length_append, lb_len, bslots_len p L, List.length_cons]; omega
theorem bcells_len (p : Nat) : ∀ M : List Sk, (bcells p M).length + 2 * M.length = bsums p (seps M)
 | [] => rfl
 | x :: M => by
  have := bcells_len p M
  rw [bcells, List.length_append, bcb_len, List.length_cons]
  show _ = 2 + bcl p x.sep + bsums p (seps M)
  omega
theorem bhead_len (lv : Int) (M : List Sk) : (bhead lv M).length = 4 + vl (bpre (seps M)) + bpre (seps M) := by
 have : bpre (seps M) ≤ (M.headD sk0).sep.length := by
  cases M with
  | nil => exact Nat.zero_le _
  | cons x L => exact (bpre_each x.sep (seps_mem (M := x :: L) List.mem_cons_self)).1
 unfold bhead vl
 simp only [List.length_append, lb_len, List.length_take]
 omega
theorem bused_len (lv : Int) (k : Kd) (M : List Sk) : (bused lv k M).length = bsize (seps M) := by
 have := bcells_len (bpre (seps M)) M
 unfold bused bsize
 rw [List.length_append, List.length_append, List.length_append, bslots_len, bhead_len, kb_len]
 omega
theorem bbody_len {lv : Int} {k : Kd} {M : List Sk} (h2 : bsize (seps M) ≤ 4092) : (bbody lv k M).length = 4092 := by
 unfold bbody
 rw [List.length_append, List.length_replicate, bused_len]
 omega
theorem bmany_le {M : List Sk} (h : ∀ s ∈ seps M, wsep s = false) (h2 : bsize (seps M) ≤ 4092) : M.length ≤ 400 ∧ bpre (seps M) ≤ 255 := by
 have hs : ∀ L : List (List Int), 11 * L.length ≤ bsums (bpre (seps M)) L := by
  intro L
  induction L with
  | nil => simp
  | cons x L ih =>
   have := vl_pos (x.length - bpre (seps M))
   rw [bsums, List.length_cons]
   unfold bcl
   omega
 have h3 := hs (seps M)
 rw [seps_len] at h3
 have h4 := vl_pos (bpre (seps M))
 refine ⟨by unfold bsize at h2; omega, ?_⟩
 cases M with
 | nil => exact Nat.zero_le _
 | cons x L =>
  have a := (bpre_each x.sep (seps_mem (M := x :: L) List.mem_cons_self)).1
  have b := (wsep_parts (h x.sep (seps_mem (M := x :: L) List.mem_cons_self))).2
  omega
def sK (zs : List Int) (s : Nat × Int) : Kd × (Nat × Int) := (⟨(sN zs s 4).1, (sN zs (sN zs s 4).2 4).1⟩, (sN zs (sN zs s 4).2 4).2)
def bItem (zs P : List Int) (s : Nat × Int) : Sk × (Nat × Int) := (⟨(sKey zs P s).1, (sK zs (sKey zs P s).2).1⟩, (sK zs (sKey zs P s).2).2)
def bLoop (zs P : List Int) : Nat → Nat × Int → List Sk → List Sk
 | 0, _, acc => acc
 | n + 1, s, acc => if (bItem zs P s).2.2 = 0 then bLoop zs P n (bItem zs P s).2 (acc ++ [(bItem zs P s).1]) else acc ++ [(bItem zs P s).1]
def hLevel (zs : List Int) : Nat × (Nat × Int) := sN zs (sB zs (0, 0) 1).2 1
def hCount (zs : List Int) : Nat × (Nat × Int) := sN zs (hLevel zs).2 2
def hPre (zs : List Int) : List Int × (Nat × Int) := sKey zs [] (hCount zs).2
def hKid (zs : List Int) : Kd × (Nat × Int) := sK zs (sB zs (hPre zs).2 (2 * ((hCount zs).1 - 1 : Int))).2
def bparse (zs : List Int) : List Sk := bLoop zs (hPre zs).1 ((hCount zs).1 - 1) (hKid zs).2 []
theorem kid_at {zs t : List Int} {p : Nat} {k : Kd} (hk : wk k = false) (h : zs.drop p = kb k ++ t) (hp : p ≤ zs.length) : sK zs (p, 0) = (k, (p + 8, 0)) := by
 have a := wk_parts hk
 have e := h
 unfold kb at e
 rw [List.append_assoc] at e
 have r1 := sN_at e hp
 have e1 := drop_on e
 have p1 := place_on e hp
 rw [lb_len] at e1 p1
 have r2 := sN_at e1 p1
 unfold sK
 rw [r1]
 simp only
 rw [r2]
 obtain ⟨no, ks⟩ := k
 simp only at a ⊢
 rw [Nat.mod_eq_of_lt (by omega), Nat.mod_eq_of_lt (by omega), Int.toNat_of_nonneg (by omega), Int.toNat_of_nonneg (by omega)]
theorem key_at {zs P y t : List Int} {p : Nat} (h : zs.drop p = vform y.length ++ (y ++ t)) (hy : y.length < 9223372036854775808) (hp : p ≤ zs.length) : sKey zs P (p, 0) = (P ++ y, (p + vl y.length + y.length, 0)) := by
 have r1 := sV_at (x := y.length) h (by omega)
 have e1 := drop_on h
 have p1 := place_on h hp
 have r2 := sB_at e1 p1 (i64 y.length) (i64_small hy)
 unfold sKey
 rw [r1]
 simp only [vl, r2]
theorem bItem_at {zs P t : List Int} {p q : Nat} {x : Sk} (h1 : wsep x.sep = false) (h2 : wk x.kid = false) (hk : P ++ x.sep.drop q = x.sep) (h : zs.drop p = bcb q x ++ t) (hp : p ≤ zs.length) :
  bItem zs P (p, 0) = (x, (p + (bcb q x).length, 0)) := by
 have a := wsep_parts h1
 have e := h
 unfold bcb at e
 simp only [List.append_assoc] at e
 have hd : (x.sep.drop q).length = x.sep.length - q := List.length_drop ..
 have e' := e
 rw [← hd] at e'
 have r1 := key_at (P := P) e' (by omega) hp
 have e1 := drop_on e
 have p1 := place_on e hp
 have e2 := drop_on e1
 have p2 := place_on e1 p1
 have r2 := kid_at h2 e2 p2
 unfold bItem
 rw [r1, hk]
 simp only
 rw [hd]
 rw [hd] at r2
 unfold vl
 rw [r2, bcb_len]
 unfold bcl vl
 simp only [Prod.mk.injEq]
 refine ⟨trivial, ?_, trivial⟩
 omega
theorem bLoop_at {zs P t : List Int} {q : Nat} : ∀ {M : List Sk} {p : Nat} (acc : List Sk), (∀ x ∈ M, wsep x.sep = false) → (∀ x ∈ M, wk x.kid = false) → (∀ x ∈ M, P ++ x.sep.drop q = x.sep) → zs.drop p = bcells q M ++ t → p ≤ zs.length →
  bLoop zs P M.length (p, 0) acc = acc ++ M
 | [], _, acc, _, _, _, _, _ => by simp [bLoop]
 | x :: L, p, acc, h1, h2, hk, h, hp => by
  rw [bcells, List.append_assoc] at h
  have r := bItem_at (h1 x List.mem_cons_self) (h2 x List.mem_cons_self) (hk x List.mem_cons_self) h hp
  rw [List.length_cons, bLoop, r, if_pos rfl, bLoop_at (t := t) (q := q) _ (fun y hy => h1 y (List.mem_cons_of_mem _ hy)) (fun y hy => h2 y (List.mem_cons_of_mem _ hy)) (fun y hy => hk y (List.mem_cons_of_mem _ hy)) (drop_on h) (place_on h hp)]
  simp
theorem bparse_body {zs : List Int} {lv : Int} {k : Kd} {M : List Sk} (h : BGood zs lv k M) : ((hLevel zs).1 : Int) = lv ∧ (hKid zs).1 = k ∧ bparse zs = M ∧ (hCount zs).1 = M.length + 1 := by
 obtain ⟨hw, hb⟩ := h
 have hf := bwrong_fit.1 hw
 obtain ⟨hm, hp⟩ := bmany_le hf.sep hf.size
 have f1 := hf.l1
 have f2 := hf.l2
 have hkid : wk k = false := hf.kid k List.mem_cons_self
 have hks : ∀ x ∈ M, wk x.kid = false := fun x hx => hf.kid _ (List.mem_cons_of_mem _ (List.mem_map_of_mem hx))
 have hss : ∀ x ∈ M, wsep x.sep = false := fun x hx => hf.sep _ (seps_mem hx)
 have hl : zs.length = 4092 := by rw [← hb]; exact bbody_len hf.size
 have hpl : ((M.headD sk0).sep.take (bpre (seps M))).length = bpre (seps M) := by
  rw [List.length_take]
  cases M with
  | nil => rfl
  | cons x L => have := (bpre_each x.sep (seps_mem (M := x :: L) List.mem_cons_self)).1; rw [List.headD_cons]; omega
 have e0 : zs.drop 0 = lb 1 2 ++ (lb 1 lv.toNat ++ (lb 2 (M.length + 1) ++ (vform (bpre (seps M)) ++ ((M.headD sk0).sep.take (bpre (seps M)) ++ (bslots (bpre (seps M)) (bkst lv M + 8) M ++ (kb k ++ (bcells (bpre (seps M)) M ++ List.replicate (4092 - (bused lv k M).length) 0))))))) := by
  rw [List.drop_zero, ← hb]
  unfold bbody
  generalize (bused lv k M).length = z
  unfold bused
  generalize bkst lv M = y
  unfold bhead
  simp only [List.append_assoc]
 have r0 := sB_at e0 (Nat.zero_le _) 1 rfl
 have e1 := drop_on e0
 have p1 := place_on e0 (Nat.zero_le _)
 have r1 := sN_at e1 p1
 have e2 := drop_on e1
 have p2 := place_on e1 p1
 rw [lb_len 1 lv.toNat] at e2 p2
 have r2 := sN_at e2 p2
 have e3 := drop_on e2
 have p3 := place_on e2 p2
 rw [lb_len 2] at e3 p3
 have e3' := e3
 rw [← hpl] at e3'
 rw [hpl] at e3'
 have r3 := key_at (P := []) (y := (M.headD sk0).sep.take (bpre (seps M))) (by rw [hpl]; exact e3) (by omega) p3
 have e4 := drop_on e3
 have p4 := place_on e3 p3
 have e5 := drop_on e4
 have p5 := place_on e4 p4
 have r5 := sB_at e5 p5 (((2 * M.length : Nat)) : Int) (by rw [bslots_len])
 have e6 := drop_on e5
 have p6 := place_on e5 p5
 have r6 := kid_at hkid e6 p6
 have e7 := drop_on e6
 have p7 := place_on e6 p6
 rw [kb_len] at e7 p7
 have r7 := bLoop_at (P := (M.headD sk0).sep.take (bpre (seps M))) (q := bpre (seps M)) [] hss hks (fun x hx => bpre_key hx) e7 p7
 have q1 : hLevel zs = (lv.toNat, (0 + (lb 1 2).length + 1, 0)) := by
  unfold hLevel
  rw [r0]
  simp only
  rw [r1, Nat.mod_eq_of_lt (by omega)]
 have q2 : hCount zs = (M.length + 1, (0 + (lb 1 2).length + 1 + 2, 0)) := by
  unfold hCount
  rw [q1]
  simp only
  rw [r2, Nat.mod_eq_of_lt (by omega)]
 have q3 : hPre zs = ((M.headD sk0).sep.take (bpre (seps M)), (0 + (lb 1 2).length + 1 + 2 + (vform (bpre (seps M))).length + ((M.headD sk0).sep.take (bpre (seps M))).length, 0)) := by
  unfold hPre
  rw [q2]
  simp only
  rw [r3, List.nil_append, hpl]
  rfl
 have q4 : hKid zs = (k, (0 + (lb 1 2).length + 1 + 2 + (vform (bpre (seps M))).length + ((M.headD sk0).sep.take (bpre (seps M))).length + (bslots (bpre (seps M)) (bkst lv M + 8) M).length + 8, 0)) := by
  unfold hKid
  rw [q3, q2]
  simp only
  have e : (2 * (((M.length + 1 : Nat) : Int) - 1)) = ((2 * M.length : Nat) : Int) := by omega
  rw [e, r5]
  simp only
  rw [r6]
 refine ⟨?_, ?_, ?_, ?_⟩
 ·rw [q1]; simp only; omega
 ·rw [q4]
 ·unfold bparse
  rw [q4, q3, q2]
  simp only [Nat.add_sub_cancel]
  rw [r7, List.nil_append]
 ·rw [q2]
theorem bgood_one {zs : List Int} {lv lv' : Int} {k k' : Kd} {M M' : List Sk} (h : BGood zs lv k M) (g : BGood zs lv' k' M') : lv = lv' ∧ k = k' ∧ M = M' := by
 have a := bparse_body h
 have b := bparse_body g
 exact ⟨a.1.symm.trans b.1, a.2.1.symm.trans b.2.1, a.2.2.1.symm.trans b.2.2.1⟩
end Go.Proofs.YtnfelndfpmnkmaaGreatDoor
