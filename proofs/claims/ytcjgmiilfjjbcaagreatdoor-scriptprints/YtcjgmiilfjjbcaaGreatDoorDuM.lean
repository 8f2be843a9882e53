import Derived.Test.YtcjgmiilfjjbcaaGreatDoorKeysM
import Derived.Lib.ItoaNum
import Derived.Lib.IndexMore
import Derived.Lib.Strings
namespace Go.Proofs.YtcjgmiilfjjbcaaGreatDoor
open Go.RowKit

/-! Package dump, pure: bytes are lists of Int, texts lists of UInt8. -/

/-- A digit, of 0 to 15. -/
def dgt (n : Nat) : UInt8 := if n < 10 then UInt8.ofNat (48 + n) else UInt8.ofNat (87 + n)
/-- What a sign stands for; -1: nothing. -/
def vdg (c : UInt8) : Int := if 48 ≤ c.toNat ∧ c.toNat ≤ 57 then (c.toNat : Int) - 48 else if 97 ≤ c.toNat ∧ c.toNat ≤ 102 then (c.toNat : Int) - 87 else -1
theorem u8_all {p : UInt8 → Prop} (h : ∀ n : Fin 256, p (UInt8.ofNat n.1)) (c : UInt8) : p c := by
  have := h ⟨c.toNat, c.toNat_lt⟩
  simpa using this
theorem vdg_dgt {n : Nat} (h : n < 16) : vdg (dgt n) = n := by
  have : ∀ n : Fin 16, vdg (dgt n.1) = (n.1 : Int) := by decide +kernel
  exact this ⟨n, h⟩
theorem dgt_vdg (c : UInt8) : 0 ≤ vdg c → dgt (vdg c).toNat = c :=
  u8_all (p := fun c => 0 ≤ vdg c → dgt (vdg c).toNat = c) (by decide +kernel) c
theorem vdg_lt (c : UInt8) : vdg c < 16 := u8_all (p := fun c => vdg c < 16) (by decide +kernel) c
theorem vdg_ge (c : UInt8) : -1 ≤ vdg c := u8_all (p := fun c => -1 ≤ vdg c) (by decide +kernel) c
theorem vdg_dash : vdg 45 = -1 := by decide +kernel
theorem vdg_sp : vdg 32 = -1 := by decide +kernel
theorem vdg_nl : vdg 10 = -1 := by decide +kernel
theorem vdg_hi (c : UInt8) (h : 128 ≤ c.toNat) : vdg c = -1 := by
  unfold vdg; rw [if_neg (by omega), if_neg (by omega)]

def hxs : List Int → List UInt8
  | [] => []
  | x :: t => dgt (x.toNat / 16) :: dgt (x.toNat % 16) :: hxs t
/-- Hex. -/
def hx (b : List Int) : List UInt8 := if b = [] then [45] else hxs b
theorem hxs_len : ∀ b : List Int, (hxs b).length = 2 * b.length
  | [] => rfl
  | _ :: t => by simp only [hxs, List.length_cons, hxs_len t]; omega
theorem hx_len (b : List Int) : (hx b).length ≤ 2 * b.length + 1 ∧ 1 ≤ (hx b).length := by
  unfold hx
  split
  · simp
  · rename_i h
    rw [hxs_len]
    cases b with
    | nil => exact absurd rfl h
    | cons x t => simp; omega
def uhs : List UInt8 → Option (List Int)
  | [] => some []
  | [_] => none
  | a :: b :: t => if vdg a < 0 ∨ vdg b < 0 then none else (uhs t).map fun l => (16 * vdg a + vdg b) :: l
/-- Unhex. -/
def uh (t : List UInt8) : Option (List Int) := if t = [45] then some [] else if t = [] then none else uhs t

theorem uhs_hxs : ∀ {b : List Int}, Bt b → uhs (hxs b) = some b
  | [], _ => rfl
  | x :: t, h => by
    have hx := h x List.mem_cons_self
    have ht := uhs_hxs (b := t) (fun z hz => h z (List.mem_cons_of_mem _ hz))
    have h1 := vdg_dgt (n := x.toNat / 16) (by omega)
    have h2 := vdg_dgt (n := x.toNat % 16) (by omega)
    simp only [hxs, uhs]
    rw [h1, h2, if_neg (by omega), ht, Option.map_some]
    have : 16 * ((x.toNat / 16 : Nat) : Int) + ((x.toNat % 16 : Nat) : Int) = x := by omega
    rw [this]
theorem hxs_ne {b : List Int} (h : b ≠ []) : hxs b ≠ [] ∧ hxs b ≠ [45] := by
  have := hxs_len b
  cases b with
  | nil => exact absurd rfl h
  | cons x t => simp [hxs]
theorem uh_hx {b : List Int} (h : Bt b) : uh (hx b) = some b := by
  unfold hx
  split
  · rename_i e; subst e; rfl
  · rename_i e
    obtain ⟨h1, h2⟩ := hxs_ne e
    unfold uh
    rw [if_neg h2, if_neg h1]; exact uhs_hxs h
theorem hxs_uhs : ∀ {t : List UInt8} {b : List Int}, uhs t = some b → hxs b = t ∧ Bt b
  | [], b, h => by simp only [uhs, Option.some.injEq] at h; subst h; exact ⟨rfl, Bt.nil⟩
  | [_], b, h => by simp [uhs] at h
  | x :: y :: t, b, h => by
    simp only [uhs] at h
    split at h
    · cases h
    · rename_i hn
      cases hu : uhs t with
      | none => rw [hu] at h; cases h
      | some l =>
        rw [hu] at h
        simp only [Option.map_some, Option.some.injEq] at h
        obtain ⟨h1, h2⟩ := hxs_uhs hu
        have a1 := vdg_lt x; have a2 := vdg_lt y
        have b1 : 0 ≤ vdg x := by omega
        have b2 : 0 ≤ vdg y := by omega
        subst h
        refine ⟨?_, Bt.cons (by omega) h2⟩
        simp only [hxs]
        have e1 : (16 * vdg x + vdg y).toNat / 16 = (vdg x).toNat := by omega
        have e2 : (16 * vdg x + vdg y).toNat % 16 = (vdg y).toNat := by omega
        rw [e1, e2, dgt_vdg x b1, dgt_vdg y b2, h1]
theorem hx_uh {t : List UInt8} {b : List Int} (h : uh t = some b) : hx b = t ∧ Bt b := by
  unfold uh at h
  split at h
  · rename_i e; simp only [Option.some.injEq] at h; subst h; subst e; exact ⟨rfl, Bt.nil⟩
  · split at h
    · cases h
    · rename_i e1 e2
      obtain ⟨h1, h2⟩ := hxs_uhs h
      refine ⟨?_, h2⟩
      unfold hx
      rw [if_neg, h1]
      intro hb; subst hb; exact e2 h1.symm
theorem uh_len {t : List UInt8} {b : List Int} (h : uh t = some b) : 2 * b.length ≤ t.length := by
  have := (hx_uh h).1
  subst this
  unfold hx
  split
  · rename_i e; subst e; simp
  · rw [hxs_len]; omega
theorem uh_odd {t : List UInt8} (h1 : t ≠ [45]) (h2 : t.length = 0 ∨ t.length % 2 = 1) : uh t = none := by
  cases hu : uh t with
  | none => rfl
  | some b =>
    have := (hx_uh hu).1
    exfalso
    clear hu
    subst this
    by_cases e : b = []
    · subst e; exact h1 rfl
    · have hl := hxs_len b
      have hp : 0 < b.length := List.length_pos_iff.2 e
      unfold hx at h2
      rw [if_neg e] at h2
      omega
/-- A sign that is no digit: there is no such number. -/
theorem uhs_none : ∀ {t : List UInt8} {i : Nat} {c : UInt8}, t[i]? = some c → vdg c < 0 → uhs t = none
  | [], i, c, h, _ => by simp at h
  | [_], i, c, _, _ => rfl
  | x :: y :: t, 0, c, h, hc => by
    simp only [List.getElem?_cons_zero, Option.some.injEq] at h; subst h
    simp only [uhs]; rw [if_pos (.inl hc)]
  | x :: y :: t, 1, c, h, hc => by
    simp only [List.getElem?_cons_succ, List.getElem?_cons_zero, Option.some.injEq] at h; subst h
    simp only [uhs]; rw [if_pos (.inr hc)]
  | x :: y :: t, i + 2, c, h, hc => by
    simp only [List.getElem?_cons_succ] at h
    simp only [uhs]; split
    · rfl
    · rw [uhs_none h hc]; rfl
theorem uh_none {t : List UInt8} {i : Nat} {c : UInt8} (h : t[i]? = some c) (hc : vdg c < 0) (h1 : t ≠ [45]) : uh t = none := by
  unfold uh; rw [if_neg h1]; split
  · rfl
  · exact uhs_none h hc

/-! ### Pairs -/
abbrev Pq := List Int × List Int
def BtP (l : List Pq) : Prop := ∀ p ∈ l, Bt p.1 ∧ Bt p.2
theorem BtP.nil : BtP [] := fun _ h => by cases h
theorem BtP.cons {p : Pq} {l : List Pq} (h : Bt p.1 ∧ Bt p.2) (k : BtP l) : BtP (p :: l) := fun q hq => by
  rcases List.mem_cons.1 hq with rfl | hq
  · exact h
  · exact k q hq
def flt (a : List Int) (p : Pq) : Int := if p.1.length < 1 ∨ 255 < p.1.length ∨ 262144 < p.2.length then 41 else if cmpZ p.1 a ≤ 0 then 30 else 0
def jdg : List Int → List Pq → Int
  | _, [] => 0
  | a, p :: l => if flt a p = 0 then jdg p.1 l else flt a p
def ttl : List UInt8 := [99, 111, 112, 112, 105, 99, 101, 32]
def lnh (p : Pq) : List UInt8 := hx p.1 ++ 32 :: hx p.2
def lne (p : Pq) : List UInt8 := lnh p ++ [10]
def tx (l : List Pq) : List UInt8 := (ttl ++ Lib.decDigits l.length) ++ 10 :: l.flatMap lne

/-! ### Numbers -/
def dig (c : UInt8) : Bool := decide (48 ≤ c.toNat ∧ c.toNat ≤ 57)
def val (n : Nat) (t : List UInt8) : Nat := t.foldl (fun n c => 10 * n + (c.toNat - 48)) n
theorem val_snoc (n : Nat) (t : List UInt8) (c : UInt8) : val n (t ++ [c]) = 10 * val n t + (c.toNat - 48) := by unfold val; rw [List.foldl_append]; rfl
def nok (t : List UInt8) : Prop := t ≠ [] ∧ (t.head? = some 48 → t = [48]) ∧ (∀ c ∈ t, dig c = true)
def nb (t : List UInt8) : Option Nat := if t ≠ [] ∧ (t.head? = some 48 → t = [48]) ∧ (t.all dig = true) ∧ val 0 t ≤ 2147483647 then some (val 0 t) else none
theorem dec_small {u : Nat} (h : u < 10) : Lib.decDigits u = [UInt8.ofNat (48 + u)] := by rw [Lib.decDigits, dif_pos h]
theorem dec_big {u : Nat} (h : ¬ u < 10) : Lib.decDigits u = Lib.decDigits (u / 10) ++ [UInt8.ofNat (48 + u % 10)] := by rw [Lib.decDigits, dif_neg h]
theorem u8n {n : Nat} (h : n < 256) : (UInt8.ofNat n).toNat = n := by simp; omega
theorem dec_ok (n : Nat) : Lib.decDigits n ≠ [] ∧ (Lib.decDigits n).all dig = true ∧ val 0 (Lib.decDigits n) = n ∧ ((Lib.decDigits n).head? = some 48 → n = 0) := by
  induction n using Nat.strongRecOn with
  | _ n ih =>
    by_cases h : n < 10
    · rw [dec_small h]
      have hu := u8n (show 48 + n < 256 by omega)
      refine ⟨by simp, ?_, ?_, ?_⟩
      · rw [List.all_cons, List.all_nil, Bool.and_true]; unfold dig; rw [hu]; exact decide_eq_true (by omega)
      · show 10 * 0 + ((UInt8.ofNat (48 + n)).toNat - 48) = n; rw [hu]; omega
      intro e
      simp only [List.head?_cons, Option.some.injEq] at e
      have := congrArg UInt8.toNat e
      rw [u8n (by omega)] at this
      have h48 : (48 : UInt8).toNat = 48 := rfl
      omega
    · obtain ⟨h1, h2, h3, h4⟩ := ih (n / 10) (by omega)
      rw [dec_big h]
      refine ⟨by simp, ?_, ?_, ?_⟩
      · rw [List.all_append, h2, List.all_cons, List.all_nil, Bool.and_true, Bool.true_and]; unfold dig; rw [u8n (show 48 + n % 10 < 256 by omega)]; exact decide_eq_true (by omega)
      · rw [val_snoc, h3, u8n (by omega)]; omega
      · intro e
        rw [List.head?_append] at e
        cases hd : (Lib.decDigits (n / 10)).head? with
        | none => exact absurd (List.head?_eq_none_iff.1 hd) h1
        | some c =>
          rw [hd] at e
          simp only [Option.some_or, Option.some.injEq] at e
          have := h4 (by rw [hd, e])
          omega
theorem nb_dec {n : Nat} (h : n ≤ 2147483647) : nb (Lib.decDigits n) = some n := by
  obtain ⟨h1, h2, h3, h4⟩ := dec_ok n
  unfold nb
  rw [if_pos ⟨h1, fun e => by rw [h4 e]; rw [dec_small (by omega)]; rfl, h2, by rw [h3]; exact h⟩, h3]
theorem val_pos {t : List UInt8} (h : t ≠ []) (hd : t.all dig = true) (h0 : t.head? ≠ some 48) : 1 ≤ val 0 t := by
  cases t with
  | nil => exact absurd rfl h
  | cons c t =>
    have hc : c.toNat ≠ 48 := fun e => h0 (by rw [List.head?_cons]; congr 1; exact UInt8.toNat_inj.1 (by rw [e]; rfl))
    have hdc : 48 ≤ c.toNat ∧ c.toNat ≤ 57 := by
      have := List.all_eq_true.1 hd c List.mem_cons_self
      simpa [dig] using this
    have mono : ∀ (t : List UInt8) (n : Nat), n ≤ val n t := by
      intro t
      induction t with
      | nil => intro n; exact Nat.le_refl _
      | cons x t ih => intro n; have := ih (10 * n + (x.toNat - 48)); show n ≤ val (10 * n + (x.toNat - 48)) t; omega
    have := mono t (10 * 0 + (c.toNat - 48))
    show 1 ≤ val (10 * 0 + (c.toNat - 48)) t
    omega
theorem val_mono : ∀ (t : List UInt8) (n : Nat), n ≤ val n t
  | [], n => Nat.le_refl _
  | x :: t, n => by have := val_mono t (10 * n + (x.toNat - 48)); show n ≤ val (10 * n + (x.toNat - 48)) t; omega
theorem dec_val (t : List UInt8) : t ≠ [] → (t.head? = some 48 → t = [48]) → t.all dig = true → Lib.decDigits (val 0 t) = t := by
  have H : ∀ (k : Nat) (t : List UInt8), t.length = k → t ≠ [] → (t.head? = some 48 → t = [48]) → t.all dig = true → Lib.decDigits (val 0 t) = t := by
    intro k
    induction k with
    | zero => intro t h0 h; exact absurd (List.length_eq_zero_iff.1 h0) h
    | succ k ih =>
      intro t hk h1 h2 h3
      have hs : t = t.dropLast ++ [t.getLast h1] := (List.dropLast_concat_getLast h1).symm
      generalize hu : t.dropLast = u at hs
      generalize hc : t.getLast h1 = c at hs
      have hul : u.length = k := by rw [← hu, List.length_dropLast]; omega
      rw [hs, List.all_append, Bool.and_eq_true] at h3
      have hdc : 48 ≤ c.toNat ∧ c.toNat ≤ 57 := by
        have := List.all_eq_true.1 h3.2 c List.mem_cons_self
        simpa [dig] using this
      rw [hs, val_snoc]
      by_cases hn : u = []
      · subst hn
        have : val 0 [] = 0 := rfl
        rw [this, dec_small (by omega)]
        have : UInt8.ofNat (48 + (10 * 0 + (c.toNat - 48))) = c := UInt8.toNat_inj.1 (by rw [u8n (by omega)]; omega)
        rw [this]; rfl
      · have hh : u.head? ≠ some 48 := by
          intro e
          have : t.head? = some 48 := by rw [hs, List.head?_append, e]; rfl
          have := h2 this
          rw [hs] at this
          have := congrArg List.length this
          simp at this
          exact hn this
        have hp := val_pos hn h3.1 hh
        have hi := ih u hul hn (fun e => absurd e hh) h3.1
        rw [dec_big (by omega)]
        have e1 : (10 * val 0 u + (c.toNat - 48)) / 10 = val 0 u := by omega
        have e2 : UInt8.ofNat (48 + (10 * val 0 u + (c.toNat - 48)) % 10) = c := UInt8.toNat_inj.1 (by rw [u8n (by omega)]; omega)
        rw [e1, e2, hi]
  exact H t.length t rfl
theorem dec_nb {t : List UInt8} {n : Nat} (h : nb t = some n) : Lib.decDigits n = t ∧ n ≤ 2147483647 := by
  unfold nb at h
  split at h
  · rename_i hc
    obtain ⟨h1, h2, h3, h4⟩ := hc
    simp only [Option.some.injEq] at h
    subst h
    exact ⟨dec_val t h1 h2 h3, h4⟩
  · cases h

/-! ### Cuts -/
def cutC (x : UInt8) : List UInt8 → Option (List UInt8 × List UInt8)
  | [] => none
  | c :: t => if c = x then some ([], t) else (cutC x t).map fun p => (c :: p.1, p.2)
theorem cutC_some {x : UInt8} : ∀ {t a b : List UInt8}, cutC x t = some (a, b) → t = a ++ x :: b ∧ x ∉ a
  | [], a, b, h => by simp [cutC] at h
  | c :: t, a, b, h => by
    simp only [cutC] at h
    split at h
    · rename_i e
      simp only [Option.some.injEq, Prod.mk.injEq] at h
      obtain ⟨rfl, rfl⟩ := h
      subst e
      exact ⟨rfl, by simp⟩
    · rename_i e
      cases hc : cutC x t with
      | none => rw [hc] at h; cases h
      | some p =>
        rw [hc] at h
        simp only [Option.map_some, Option.some.injEq, Prod.mk.injEq] at h
        obtain ⟨rfl, rfl⟩ := h
        obtain ⟨h1, h2⟩ := cutC_some (a := p.1) (b := p.2) hc
        exact ⟨by rw [h1]; rfl, by simp only [List.mem_cons, not_or]; exact ⟨fun e' => e e'.symm, h2⟩⟩
theorem cutC_none {x : UInt8} : ∀ {t : List UInt8}, cutC x t = none ↔ x ∉ t
  | [] => by simp [cutC]
  | c :: t => by
    simp only [cutC, List.mem_cons, not_or]
    by_cases e : c = x
    · subst e; simp
    · rw [if_neg e, Option.map_eq_none_iff, cutC_none]
      exact ⟨fun h => ⟨fun e' => e e'.symm, h⟩, fun h => h.2⟩
theorem cutC_app {x : UInt8} : ∀ {a b : List UInt8}, x ∉ a → cutC x (a ++ x :: b) = some (a, b)
  | [], b, _ => by simp [cutC]
  | c :: a, b, h => by
    simp only [List.mem_cons, not_or] at h
    show (if c = x then _ else _) = _
    rw [if_neg (fun e => h.1 e.symm)]
    show (cutC x (a ++ x :: b)).map _ = _
    rw [cutC_app h.2]; rfl
theorem index_one (x : UInt8) : ∀ t : List UInt8, Lib.index t [x] = match cutC x t with | none => -1 | some p => (p.1.length : Int)
  | [] => by simp [Lib.index, cutC]
  | c :: t => by
    have ih := index_one x t
    unfold Lib.index
    simp only [cutC]
    by_cases e : c = x
    · subst e
      rw [if_pos rfl, if_pos (by simp [List.isPrefixOf])]
      rfl
    · rw [if_neg e, if_neg (by simp [List.isPrefixOf]; exact fun e' => e e'.symm), ih]
      cases cutC x t with
      | none => rfl
      | some p =>
        simp only [Option.map_some]
        have : ((p.1.length : Int) == -1) = false := by rw [beq_eq_false_iff_ne]; omega
        rw [this]
        simp
theorem cut_one (x : UInt8) (t : List UInt8) : Lib.cut t [x] = match cutC x t with | none => (t, [], false) | some p => (p.1, p.2, true) := by
  unfold Lib.cut
  have h := index_one x t
  cases hc : cutC x t with
  | none => rw [hc] at h; simp only at h; rw [if_neg (by omega)]
  | some p =>
    rw [hc] at h
    simp only at h
    have hs := (cutC_some (a := p.1) (b := p.2) hc).1
    rw [if_pos (by omega), h]
    simp only [Int.toNat_natCast]
    rw [hs]
    simp
theorem contains_one (x : UInt8) (t : List UInt8) : Lib.contains t [x] = decide (x ∈ t) := by
  unfold Lib.contains
  have h := index_one x t
  cases hc : cutC x t with
  | none =>
    rw [hc] at h
    have := cutC_none.1 hc
    simp only at h
    rw [decide_eq_false (by omega), decide_eq_false this]
  | some p =>
    rw [hc] at h
    have hs := (cutC_some (a := p.1) (b := p.2) hc).1
    simp only at h
    have hm : x ∈ t := by rw [hs]; simp
    rw [decide_eq_true (by omega), decide_eq_true hm]

/-! ### Lines -/
abbrev Rs (α : Type) := Except Int α
/-- The pair of a line. -/
def pp (a : List Int) (line : List UInt8) : Rs Pq :=
  match cutC 32 line with
  | none => .error 200
  | some (l, r) => if l = [] ∨ r = [] ∨ 32 ∈ r then .error 200 else
    match uh l with
    | none => .error 201
    | some k => if k.length < 1 ∨ 255 < k.length then .error 41 else
      match uh r with
      | none => .error 201
      | some v => if 262144 < v.length then .error 41 else if cmpZ k a ≤ 0 then .error 30 else .ok (k, v)
abbrev Pa := Except (Nat × Int) (List Pq)
def Pa.cons (p : Pq) : Pa → Pa
  | .ok l => .ok (p :: l)
  | .error (k, e) => .error (k, e)
/-- n lines more, a the key ahead, k the line's number. -/
def pls : Nat → List Int → List UInt8 → Nat → Pa
  | 0, _, t, k => if t = [] then .ok [] else .error (k, 200)
  | n + 1, a, t, k => match cutC 10 t with
    | none => .error (k, 200)
    | some (line, rest) => match pp a line with
      | .error e => .error (k, e)
      | .ok p => (pls n p.1 rest (k + 1)).cons p
/-- The number of a first line. -/
def cnt (line : List UInt8) : Option Nat := if Lib.hasPrefix line ttl = true then nb (line.drop 8) else none
def prs (t : List UInt8) : Pa := match cutC 10 t with
  | none => .error (1, 200)
  | some (line, rest) => match cnt line with
    | none => .error (1, 200)
    | some n => pls n [] rest 2

theorem hxs_dig : ∀ {b : List Int}, Bt b → ∀ c ∈ hxs b, 0 ≤ vdg c
  | [], _, c, h => by cases h
  | x :: t, hb, c, h => by
    have hx := hb x List.mem_cons_self
    simp only [hxs, List.mem_cons] at h
    rcases h with rfl | rfl | h
    · rw [vdg_dgt (by omega)]; omega
    · rw [vdg_dgt (by omega)]; omega
    · exact hxs_dig (fun z hz => hb z (List.mem_cons_of_mem _ hz)) c h
theorem hx_no {b : List Int} (hb : Bt b) : (32 : UInt8) ∉ hx b ∧ (10 : UInt8) ∉ hx b := by
  unfold hx
  split
  · decide
  · exact ⟨fun h => by have := hxs_dig hb _ h; rw [vdg_sp] at this; omega, fun h => by have := hxs_dig hb _ h; rw [vdg_nl] at this; omega⟩
theorem hx_ne (b : List Int) : hx b ≠ [] := fun h => by have := (hx_len b).2; rw [h] at this; simp at this
theorem pp_ln {a : List Int} {p : Pq} (h : flt a p = 0) (hb : Bt p.1 ∧ Bt p.2) : pp a (lnh p) = .ok p := by
  unfold flt at h
  split at h
  · cases h
  · rename_i h1
    split at h
    · cases h
    · rename_i h2
      unfold pp lnh
      rw [cutC_app (hx_no hb.1).1]
      simp only
      rw [if_neg (by simp only [not_or]; exact ⟨hx_ne _, hx_ne _, (hx_no hb.2).1⟩), uh_hx hb.1, uh_hx hb.2]
      simp only
      rw [if_neg (by omega), if_neg (by omega), if_neg h2]
theorem ln_pp {a : List Int} {line : List UInt8} {p : Pq} (h : pp a line = .ok p) : line = lnh p ∧ flt a p = 0 ∧ Bt p.1 ∧ Bt p.2 := by
  unfold pp at h
  split at h
  · cases h
  · rename_i l r hc
    split at h
    · cases h
    · split at h
      · cases h
      · rename_i k hk
        split at h
        · cases h
        · rename_i hk2
          split at h
          · cases h
          · rename_i v hv
            split at h
            · cases h
            · rename_i hv2
              split at h
              · cases h
              · rename_i ho
                simp only [Except.ok.injEq] at h
                subst h
                obtain ⟨k1, k2⟩ := hx_uh hk
                obtain ⟨v1, v2⟩ := hx_uh hv
                refine ⟨?_, ?_, k2, v2⟩
                · rw [(cutC_some hc).1, ← k1, ← v1]; rfl
                · unfold flt
                  simp only
                  rw [if_neg (by omega), if_neg ho]
theorem lnh_nl {p : Pq} (hb : Bt p.1 ∧ Bt p.2) : (10 : UInt8) ∉ lnh p := by
  unfold lnh
  simp only [List.mem_append, List.mem_cons, not_or]
  exact ⟨(hx_no hb.1).2, by decide, (hx_no hb.2).2⟩
theorem pls_tx : ∀ {l : List Pq} {a : List Int} {k : Nat}, jdg a l = 0 → BtP l → pls l.length a (l.flatMap lne) k = .ok l
  | [], a, k, _, _ => by simp [pls]
  | p :: l, a, k, h, hb => by
    have hp := hb p List.mem_cons_self
    have hl : BtP l := fun q hq => hb q (List.mem_cons_of_mem _ hq)
    simp only [jdg] at h
    split at h
    · rename_i hf
      have ih := pls_tx (k := k + 1) h hl
      have e : (p :: l).flatMap lne = lnh p ++ 10 :: l.flatMap lne := by simp [lne]
      rw [e]
      show (match cutC 10 (lnh p ++ 10 :: l.flatMap lne) with | none => Except.error (k, 200) | some (line, rest) => match pp a line with | .error e => .error (k, e) | .ok p => (pls l.length p.1 rest (k + 1)).cons p) = _
      rw [cutC_app (lnh_nl hp)]
      simp only
      rw [pp_ln hf hp]
      simp only
      rw [ih]; rfl
    · rename_i hf; exact absurd h hf
theorem Pa.cons_ok {p : Pq} {r : Pa} {l : List Pq} (h : r.cons p = .ok l) : ∃ m, r = .ok m ∧ l = p :: m := by
  cases r with
  | ok m => simp only [Pa.cons, Except.ok.injEq] at h; exact ⟨m, rfl, h.symm⟩
  | error x => cases h
theorem Pa.cons_bad {p : Pq} {r : Pa} {k : Nat} {e : Int} (h : r.cons p = .error (k, e)) : r = .error (k, e) := by
  cases r with
  | ok m => cases h
  | error x => exact h
theorem tx_pls : ∀ {n : Nat} {a : List Int} {t : List UInt8} {k : Nat} {l : List Pq}, pls n a t k = .ok l → t = l.flatMap lne ∧ l.length = n ∧ jdg a l = 0 ∧ BtP l
  | 0, a, t, k, l, h => by
    simp only [pls] at h
    split at h
    · rename_i e
      simp only [Except.ok.injEq] at h
      subst h; subst e
      exact ⟨rfl, rfl, rfl, BtP.nil⟩
    · cases h
  | n + 1, a, t, k, l, h => by
    simp only [pls] at h
    split at h
    · cases h
    · rename_i line rest hc
      split at h
      · cases h
      · rename_i p hp
        obtain ⟨m, hm, rfl⟩ := Pa.cons_ok h
        obtain ⟨h1, h2, h3, h4⟩ := tx_pls hm
        obtain ⟨p1, p2, p3⟩ := ln_pp hp
        refine ⟨?_, by rw [List.length_cons, h2], ?_, BtP.cons p3 h4⟩
        · rw [(cutC_some hc).1, p1, h1]; simp [lne]
        · simp only [jdg]; rw [if_pos p2]; exact h3
theorem pref_ttl (t : List UInt8) : Lib.hasPrefix (ttl ++ t) ttl = true := by unfold Lib.hasPrefix; rw [List.isPrefixOf_iff_prefix]; exact List.prefix_append _ _
theorem ttl_of {t : List UInt8} (h : Lib.hasPrefix t ttl = true) : t = ttl ++ t.drop 8 := by
  unfold Lib.hasPrefix at h
  rw [List.isPrefixOf_iff_prefix] at h
  obtain ⟨u, rfl⟩ := h
  have : (ttl ++ u).drop 8 = u := List.drop_left (l₁ := ttl)
  rw [this]
theorem cnt_tx {n : Nat} (h : n ≤ 2147483647) : cnt (ttl ++ Lib.decDigits n) = some n := by
  unfold cnt
  rw [if_pos (pref_ttl _)]
  have : (ttl ++ Lib.decDigits n).drop 8 = Lib.decDigits n := List.drop_left (l₁ := ttl)
  rw [this, nb_dec h]
theorem first_nl (n : Nat) : (10 : UInt8) ∉ ttl ++ Lib.decDigits n := by
  simp only [List.mem_append, not_or]
  refine ⟨by decide, fun h => ?_⟩
  have := List.all_eq_true.1 (dec_ok n).2.1 _ h
  exact absurd this (by decide)
theorem prs_tx {l : List Pq} (h : jdg [] l = 0) (hb : BtP l) (hl : l.length ≤ 2147483647) : prs (tx l) = .ok l := by
  unfold prs tx
  rw [cutC_app (first_nl _)]
  simp only
  rw [cnt_tx hl]
  exact pls_tx h hb
theorem tx_prs {t : List UInt8} {l : List Pq} (h : prs t = .ok l) : tx l = t ∧ jdg [] l = 0 ∧ BtP l ∧ l.length ≤ 2147483647 := by
  unfold prs at h
  split at h
  · cases h
  · rename_i line rest hc
    split at h
    · cases h
    · rename_i n hn
      obtain ⟨h1, h2, h3, h4⟩ := tx_pls h
      unfold cnt at hn
      split at hn
      · rename_i hp
        obtain ⟨d1, d2⟩ := dec_nb hn
        refine ⟨?_, h3, h4, by omega⟩
        unfold tx
        rw [(cutC_some hc).1, ← h1, h2, d1, ← ttl_of hp]
      · cases hn
theorem pls_bad : ∀ {n : Nat} {a : List Int} {t : List UInt8} {k j : Nat} {e : Int}, pls n a t k = .error (j, e) → k ≤ j ∧ e ≠ 0
  | 0, a, t, k, j, e, h => by
    simp only [pls] at h
    split at h
    · cases h
    · simp only [Except.error.injEq, Prod.mk.injEq] at h; omega
  | n + 1, a, t, k, j, e, h => by
    simp only [pls] at h
    split at h
    · simp only [Except.error.injEq, Prod.mk.injEq] at h; omega
    · split at h
      · rename_i e' he
        simp only [Except.error.injEq, Prod.mk.injEq] at h
        obtain ⟨rfl, rfl⟩ := h
        refine ⟨Nat.le_refl _, ?_⟩
        unfold pp at he
        repeat' split at he
        all_goals (first | (simp only [Except.error.injEq] at he; omega) | cases he)
      · have := pls_bad (Pa.cons_bad h)
        exact ⟨by omega, this.2⟩
theorem prs_bad {t : List UInt8} {j : Nat} {e : Int} (h : prs t = .error (j, e)) : 1 ≤ j ∧ e ≠ 0 := by
  unfold prs at h
  split at h
  · simp only [Except.error.injEq, Prod.mk.injEq] at h; omega
  · split at h
    · simp only [Except.error.injEq, Prod.mk.injEq] at h; omega
    · have := pls_bad h; exact ⟨by omega, this.2⟩
/-- Unlike lists have unlike texts. -/
theorem tx_inj {l m : List Pq} (hl : jdg [] l = 0) (hbl : BtP l) (h1 : l.length ≤ 2147483647) (hm : jdg [] m = 0) (hbm : BtP m) (h2 : m.length ≤ 2147483647) (h : tx l = tx m) : l = m := by
  have a := prs_tx hl hbl h1
  have b := prs_tx hm hbm h2
  rw [h, b] at a
  simpa using a.symm
/-- How many lines. -/
theorem count_nl : ∀ {l : List Pq}, BtP l → (l.flatMap lne).count 10 = l.length
  | [], _ => rfl
  | p :: l, hb => by
    have hp := hb p List.mem_cons_self
    have ih := count_nl (l := l) (fun q hq => hb q (List.mem_cons_of_mem _ hq))
    rw [List.flatMap_cons, List.count_append, ih]
    unfold lne
    rw [List.count_append, List.count_eq_zero.2 (lnh_nl hp)]
    simp; omega
theorem count_tx {l : List Pq} (hb : BtP l) : (tx l).count 10 = l.length + 1 := by
  unfold tx
  rw [List.count_append, List.count_eq_zero.2 (first_nl _), List.count_cons, count_nl hb]
  simp
theorem tx_last {l : List Pq} : ∃ u, tx l = u ++ [10] := by
  cases h : l.reverse with
  | nil => have : l = [] := by simpa using h
           subst this
           exact ⟨ttl ++ Lib.decDigits 0, rfl⟩
  | cons p r =>
    have : l = r.reverse ++ [p] := by have := congrArg List.reverse h; simpa using this
    refine ⟨(ttl ++ Lib.decDigits l.length) ++ 10 :: ((r.reverse).flatMap lne ++ lnh p), ?_⟩
    unfold tx
    rw [show l.flatMap lne = (r.reverse).flatMap lne ++ (lnh p ++ [10]) by rw [this, List.flatMap_append]; simp [lne]]
    simp
/-- Cut off at its end it is no text. -/
theorem tx_short {l : List Pq} (hb : BtP l) {i : Nat} (hi : i < (tx l).length) : ∃ k e, prs ((tx l).take i) = .error (k, e) := by
  cases hr : prs ((tx l).take i) with
  | error x => exact ⟨x.1, x.2, rfl⟩
  | ok m =>
    obtain ⟨h1, h2, h3, h4⟩ := tx_prs hr
    exfalso
    have hc := count_tx h3
    rw [h1] at hc
    have hcl := count_tx hb
    obtain ⟨u, hu⟩ := tx_last (l := l)
    -- the first line is the same
    have hpre : cutC 10 (tx m) = some (ttl ++ Lib.decDigits m.length, m.flatMap lne) := by unfold tx; exact cutC_app (first_nl _)
    have hprl : cutC 10 (tx l) = some (ttl ++ Lib.decDigits l.length, l.flatMap lne) := by unfold tx; exact cutC_app (first_nl _)
    have hsp : tx l = tx m ++ (tx l).drop i := by rw [h1, List.take_append_drop]
    have hml : cutC 10 (tx l) = some (ttl ++ Lib.decDigits m.length, m.flatMap lne ++ (tx l).drop i) := by
      have e2 : tx l = (ttl ++ Lib.decDigits m.length) ++ 10 :: (m.flatMap lne ++ (tx l).drop i) := by
        refine hsp.trans ?_
        generalize (tx l).drop i = r
        unfold tx; simp
      generalize (tx l).drop i = r at e2
      rw [e2]
      exact cutC_app (first_nl _)
    rw [hprl] at hml
    simp only [Option.some.injEq, Prod.mk.injEq] at hml
    have hd := List.append_cancel_left hml.1
    have hv := congrArg (val 0) hd
    rw [(dec_ok _).2.2.1, (dec_ok _).2.2.1] at hv
    rw [hu] at hc hcl hi
    rw [List.count_append] at hcl
    simp only [List.count_singleton_self] at hcl
    rw [List.length_append, List.length_singleton] at hi
    rw [List.take_append_of_le_length (by omega)] at hc
    have := List.Sublist.count_le 10 (List.take_sublist i u)
    omega
end Go.Proofs.YtcjgmiilfjjbcaaGreatDoor
