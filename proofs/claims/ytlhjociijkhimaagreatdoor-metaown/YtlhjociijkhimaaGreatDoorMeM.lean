import Derived.Test.YtlhjociijkhimaaGreatDoorLeafP
namespace Go.Proofs.YtlhjociijkhimaaGreatDoor
open Go.RowKit

/-! ### Package meta, without memory: a head's body, there and back -/

structure Hd where
  v : Int
  c : Int
  r : Int
  h : Int
  k : Int
  f : Int
  n : Int

def zH : Hd := ⟨0, 0, 0, 0, 0, 0, 0⟩
theorem Hd.same {a b : Hd} (h1 : a.v = b.v) (h2 : a.c = b.c) (h3 : a.r = b.r) (h4 : a.h = b.h) (h5 : a.k = b.k) (h6 : a.f = b.f) (h7 : a.n = b.n) : a = b := by
  cases a; cases b; simp only at h1 h2 h3 h4 h5 h6 h7; subst h1 h2 h3 h4 h5 h6 h7; rfl
def wi (x a b : Int) : Bool := decide (a ≤ x) && decide (x ≤ b)
theorem wi_iff {x a b : Int} : wi x a b = true ↔ a ≤ x ∧ x ≤ b := by simp [wi]
def tOk (H : Hd) : Bool := if H.r = 0 then decide (H.h = 0) && decide (H.k = 0) else wi H.r 2 (H.c - 1) && (wi H.h 1 16 && wi H.k 1 4294967295)
def fOk (H : Hd) : Bool := if H.f = 0 then decide (H.n = 0) else wi H.f 2 (H.c - 1) && wi H.n 1 (H.c - 2)
def may (H : Hd) : Bool := wi H.v 1 4611686018427387904 && (wi H.c 2 524287 && (tOk H && fOk H))
theorem may_bounds {H : Hd} (h : may H = true) : 1 ≤ H.v ∧ H.v ≤ 4611686018427387904 ∧ 2 ≤ H.c ∧ H.c ≤ 524287 ∧ 0 ≤ H.r ∧ H.r ≤ 524286 ∧ 0 ≤ H.h ∧ H.h ≤ 16 ∧ 0 ≤ H.k ∧ H.k ≤ 4294967295 ∧ 0 ≤ H.f ∧ H.f ≤ 524286 ∧ 0 ≤ H.n ∧ H.n ≤ 524285 := by
  simp only [may, Bool.and_eq_true, wi_iff] at h
  obtain ⟨⟨h1, h2⟩, ⟨h3, h4⟩, h5, h6⟩ := h
  have t : 0 ≤ H.r ∧ H.r ≤ 524286 ∧ 0 ≤ H.h ∧ H.h ≤ 16 ∧ 0 ≤ H.k ∧ H.k ≤ 4294967295 := by
    unfold tOk at h5
    split at h5
    · simp only [Bool.and_eq_true, decide_eq_true_eq] at h5; omega
    · simp only [Bool.and_eq_true, wi_iff] at h5; omega
  have f : 0 ≤ H.f ∧ H.f ≤ 524286 ∧ 0 ≤ H.n ∧ H.n ≤ 524285 := by
    unfold fOk at h6
    split at h6
    · simp only [decide_eq_true_eq] at h6; omega
    · simp only [Bool.and_eq_true, wi_iff] at h6; omega
  omega
theorem may_zero : may zH = false := by decide

def kb4 : List Int := [5, 99, 111, 112]
def en4 : List Int := [101, 110, 100, 46]
def nb (H : Hd) : List Int := lb 8 H.v.toNat ++ (lb 4 H.c.toNat ++ (lb 4 H.r.toNat ++ (lb 1 H.h.toNat ++ (lb 8 H.k.toNat ++ (lb 4 H.f.toNat ++ lb 4 H.n.toNat)))))
def zr : List Int := List.replicate 4051 0
theorem zr_len : zr.length = 4051 := List.length_replicate
def mB (H : Hd) : List Int := kb4 ++ (nb H ++ (zr ++ en4))
theorem nb_len (H : Hd) : (nb H).length = 33 := by simp [nb, lb_len]
theorem mB_len (H : Hd) : (mB H).length = 4092 := by
  unfold mB
  rw [List.length_append, List.length_append, List.length_append, nb_len, zr_len]; rfl
theorem zr_bt : Bt zr := by
  intro z hz
  have := List.eq_of_mem_replicate hz
  omega
theorem kb4_bt : Bt kb4 := by intro z hz; simp [kb4] at hz; omega
theorem en4_bt : Bt en4 := by intro z hz; simp [en4] at hz; omega
theorem nb_bt (H : Hd) : Bt (nb H) := (Bt.app (lb_bt _ _) (Bt.app (lb_bt _ _) (Bt.app (lb_bt _ _) (Bt.app (lb_bt _ _) (Bt.app (lb_bt _ _) (Bt.app (lb_bt _ _) (lb_bt _ _)))))))
theorem mB_bt (H : Hd) : Bt (mB H) := kb4_bt.app ((nb_bt H).app (zr_bt.app en4_bt))

/-- A number of eight bytes, as an int. -/
def sg (x : Nat) : Int := if x < 9223372036854775808 then (x : Int) else (x : Int) - 18446744073709551616
theorem sg_wrap {x : Nat} (h : x < 18446744073709551616) : IntKind.i64.wrap (x : Int) = sg x := by
  unfold sg
  split
  · simp [IntKind.wrap, IntKind.bits, IntKind.signed]; omega
  · simp [IntKind.wrap, IntKind.bits, IntKind.signed]; omega
def rH (zs : List Int) : Hd := ⟨sg (le 8 (zs.drop 4)), (le 4 (zs.drop 12) : Nat), (le 4 (zs.drop 16) : Nat), (le 1 (zs.drop 20) : Nat), sg (le 8 (zs.drop 21)), (le 4 (zs.drop 29) : Nat), (le 4 (zs.drop 33) : Nat)⟩
theorem rH_v (zs : List Int) : (rH zs).v = sg (le 8 (zs.drop 4)) := rfl
theorem rH_c (zs : List Int) : (rH zs).c = (le 4 (zs.drop 12) : Nat) := rfl
theorem rH_r (zs : List Int) : (rH zs).r = (le 4 (zs.drop 16) : Nat) := rfl
theorem rH_h (zs : List Int) : (rH zs).h = (le 1 (zs.drop 20) : Nat) := rfl
theorem rH_k (zs : List Int) : (rH zs).k = sg (le 8 (zs.drop 21)) := rfl
theorem rH_f (zs : List Int) : (rH zs).f = (le 4 (zs.drop 29) : Nat) := rfl
theorem rH_n (zs : List Int) : (rH zs).n = (le 4 (zs.drop 33) : Nat) := rfl
def dM (zs : List Int) : Bool := decide (zs.length = 4092) && (may (rH zs) && decide (mB (rH zs) = zs))
theorem dM_parts {zs : List Int} (h : dM zs = true) : zs.length = 4092 ∧ may (rH zs) = true ∧ mB (rH zs) = zs := by
  simp only [dM, Bool.and_eq_true, decide_eq_true_eq] at h
  exact h

theorem lb_le : ∀ (k : Nat) (zs : List Int), Bt zs → k ≤ zs.length → lb k (le k zs) = zs.take k
  | 0, _, _, _ => by simp [lb]
  | k + 1, [], _, h => by simp at h
  | k + 1, z :: zs, hb, h => by
    have hz := hb z List.mem_cons_self
    have ih := lb_le k zs (fun y hy => hb y (List.mem_cons_of_mem _ hy)) (by simpa using h)
    rw [le, lb, List.take_succ_cons, show (z.toNat + 256 * le k zs) / 256 = le k zs by omega, ih, show (z.toNat + 256 * le k zs) % 256 = z.toNat by omega, show ((z.toNat : Nat) : Int) = z by omega]
theorem part_eq (zs : List Int) (a b : Nat) : zs.drop a = (zs.drop a).take b ++ zs.drop (a + b) := by
  rw [← List.drop_drop, List.take_append_drop]

theorem d4 (H : Hd) : (mB H).drop 4 = nb H ++ (zr ++ en4) := rfl
theorem dn (H : Hd) (a b c k x : Nat) (t : List Int) (h : (mB H).drop a = lb k x ++ t) (hc : c = a + k) (hb : b = c) : (mB H).drop b = t := by
  subst hb hc
  rw [← List.drop_drop, h, List.drop_left' (lb_len k x)]
theorem mB_places (H : Hd) : ∃ t1 t2 t3 t4 t5 t6 t7, (mB H).drop 4 = lb 8 H.v.toNat ++ t1 ∧ (mB H).drop 12 = lb 4 H.c.toNat ++ t2 ∧ (mB H).drop 16 = lb 4 H.r.toNat ++ t3 ∧ (mB H).drop 20 = lb 1 H.h.toNat ++ t4 ∧
    (mB H).drop 21 = lb 8 H.k.toNat ++ t5 ∧ (mB H).drop 29 = lb 4 H.f.toNat ++ t6 ∧ (mB H).drop 33 = lb 4 H.n.toNat ++ t7 ∧ (mB H).drop 37 = zr ++ en4 := by
  have h1 : (mB H).drop 4 = lb 8 H.v.toNat ++ (lb 4 H.c.toNat ++ (lb 4 H.r.toNat ++ (lb 1 H.h.toNat ++ (lb 8 H.k.toNat ++ (lb 4 H.f.toNat ++ (lb 4 H.n.toNat ++ (zr ++ en4))))))) := by
    rw [d4]; unfold nb; simp only [List.append_assoc]
  have h2 := dn H 4 12 12 8 _ _ h1 rfl rfl
  have h3 := dn H 12 16 16 4 _ _ h2 rfl rfl
  have h4 := dn H 16 20 20 4 _ _ h3 rfl rfl
  have h5 := dn H 20 21 21 1 _ _ h4 rfl rfl
  have h6 := dn H 21 29 29 8 _ _ h5 rfl rfl
  have h7 := dn H 29 33 33 4 _ _ h6 rfl rfl
  have h8 := dn H 33 37 37 4 _ _ h7 rfl rfl
  exact ⟨_, _, _, _, _, _, _, h1, h2, h3, h4, h5, h6, h7, h8⟩
theorem mB_end (H : Hd) : (mB H).drop 4088 = en4 := by
  obtain ⟨_, _, _, _, _, _, _, _, _, _, _, _, _, _, h8⟩ := mB_places H
  rw [show (4088 : Nat) = 37 + 4051 by rfl, ← List.drop_drop, h8, List.drop_left' zr_len]
theorem mB_zero (H : Hd) : ((mB H).drop 37).take 4051 = zr := by
  obtain ⟨_, _, _, _, _, _, _, _, _, _, _, _, _, _, h8⟩ := mB_places H
  rw [h8, List.take_left' zr_len]
theorem rH_mB {H : Hd} (h : may H = true) : rH (mB H) = H := by
  have hb := may_bounds h
  obtain ⟨t1, t2, t3, t4, t5, t6, t7, h1, h2, h3, h4, h5, h6, h7, h8⟩ := mB_places H
  refine Hd.same ?_ ?_ ?_ ?_ ?_ ?_ ?_
  · rw [rH_v, h1, le_lb, Nat.mod_eq_of_lt (by omega)]; unfold sg; rw [if_pos (by omega)]; omega
  · rw [rH_c, h2, le_lb, Nat.mod_eq_of_lt (by omega)]; omega
  · rw [rH_r, h3, le_lb, Nat.mod_eq_of_lt (by omega)]; omega
  · rw [rH_h, h4, le_lb, Nat.mod_eq_of_lt (by omega)]; omega
  · rw [rH_k, h5, le_lb, Nat.mod_eq_of_lt (by omega)]; unfold sg; rw [if_pos (by omega)]; omega
  · rw [rH_f, h6, le_lb, Nat.mod_eq_of_lt (by omega)]; omega
  · rw [rH_n, h7, le_lb, Nat.mod_eq_of_lt (by omega)]; omega
theorem dM_mB {H : Hd} (h : may H = true) : dM (mB H) = true := by
  unfold dM
  rw [rH_mB h, h]
  simp [mB_len]

theorem sg_pos {x : Nat} (h : 0 ≤ sg x) (hx : x < 18446744073709551616) : (sg x).toNat = x := by
  unfold sg at h ⊢
  split at h
  · rw [if_pos (by assumption)]; omega
  · omega
/-- The body that a head has, by its parts. -/
theorem mB_rH {zs : List Int} (hl : zs.length = 4092) (hb : Bt zs) (hm : may (rH zs) = true) (h1 : zs.take 1 = [5]) (h2 : (zs.drop 1).take 3 = [99, 111, 112]) (h3 : (zs.drop 37).take 4051 = zr) (h4 : (zs.drop 4088).take 4 = en4) : mB (rH zs) = zs := by
  have b := may_bounds hm
  have e0 : zs = zs.take 1 ++ ((zs.drop 1).take 3 ++ ((zs.drop 4).take 8 ++ ((zs.drop 12).take 4 ++ ((zs.drop 16).take 4 ++ ((zs.drop 20).take 1 ++ ((zs.drop 21).take 8 ++ ((zs.drop 29).take 4 ++ ((zs.drop 33).take 4 ++ ((zs.drop 37).take 4051 ++ (zs.drop 4088).take 4))))))))) := by
    have e9 : (zs.drop 4088).take 4 = zs.drop 4088 := List.take_of_length_le (by rw [List.length_drop]; omega)
    rw [e9, ← part_eq zs 37 4051, ← part_eq zs 33 4, ← part_eq zs 29 4, ← part_eq zs 21 8, ← part_eq zs 20 1, ← part_eq zs 16 4, ← part_eq zs 12 4, ← part_eq zs 4 8, ← part_eq zs 1 3, List.take_append_drop]
  have n1 : lb 8 (rH zs).v.toNat = (zs.drop 4).take 8 := by
    rw [show (rH zs).v.toNat = le 8 (zs.drop 4) from sg_pos (by have := b.1; show 0 ≤ (rH zs).v; omega) (by have := le_lt 8 _ (hb.drop 4); omega)]
    exact lb_le 8 _ (hb.drop 4) (by rw [List.length_drop]; omega)
  have n5 : lb 8 (rH zs).k.toNat = (zs.drop 21).take 8 := by
    rw [show (rH zs).k.toNat = le 8 (zs.drop 21) from sg_pos (by show 0 ≤ (rH zs).k; omega) (by have := le_lt 8 _ (hb.drop 21); omega)]
    exact lb_le 8 _ (hb.drop 21) (by rw [List.length_drop]; omega)
  have n2 : lb 4 (rH zs).c.toNat = (zs.drop 12).take 4 := lb_le 4 _ (hb.drop 12) (by rw [List.length_drop]; omega)
  have n3 : lb 4 (rH zs).r.toNat = (zs.drop 16).take 4 := lb_le 4 _ (hb.drop 16) (by rw [List.length_drop]; omega)
  have n4 : lb 1 (rH zs).h.toNat = (zs.drop 20).take 1 := lb_le 1 _ (hb.drop 20) (by rw [List.length_drop]; omega)
  have n6 : lb 4 (rH zs).f.toNat = (zs.drop 29).take 4 := lb_le 4 _ (hb.drop 29) (by rw [List.length_drop]; omega)
  have n7 : lb 4 (rH zs).n.toNat = (zs.drop 33).take 4 := lb_le 4 _ (hb.drop 33) (by rw [List.length_drop]; omega)
  refine Eq.trans ?_ e0.symm
  rw [h1, h2, h3, h4]
  unfold mB nb
  rw [n1, n2, n3, n4, n5, n6, n7]
  simp only [List.append_assoc]
  rfl
theorem dM_iff {zs : List Int} (hl : zs.length = 4092) (hb : Bt zs) : dM zs = true ↔ may (rH zs) = true ∧ zs.take 1 = [5] ∧ (zs.drop 1).take 3 = [99, 111, 112] ∧ (zs.drop 37).take 4051 = zr ∧ (zs.drop 4088).take 4 = en4 := by
  constructor
  · intro h
    obtain ⟨_, h2, h3⟩ := dM_parts h
    refine ⟨h2, ?_, ?_, ?_, ?_⟩
    · rw [← h3]; rfl
    · rw [← h3]; rfl
    · rw [← h3]; exact mB_zero _
    · rw [← h3, mB_end]; rfl
  · rintro ⟨h1, h2, h3, h4, h5⟩
    simp [dM, hl, h1, mB_rH hl hb h1 h2 h3 h4 h5]

/-- A number of eight bytes as the document reads it. -/
def cm (x : Nat) : Int := if 4611686018427387904 < x then 4611686018427387905 else (x : Int)
def qH (zs : List Int) : Hd := ⟨cm (le 8 (zs.drop 4)), (le 4 (zs.drop 12) : Nat), (le 4 (zs.drop 16) : Nat), (le 1 (zs.drop 20) : Nat), cm (le 8 (zs.drop 21)), (le 4 (zs.drop 29) : Nat), (le 4 (zs.drop 33) : Nat)⟩
theorem wi_cm {x : Nat} {a b : Int} (h : x < 18446744073709551616) (ha : 0 ≤ a) (hb : b ≤ 4611686018427387904) : wi (cm x) a b = wi (sg x) a b := by
  rw [Bool.eq_iff_iff, wi_iff, wi_iff]
  unfold cm sg
  split <;> split <;> omega
theorem cm_sg {x : Nat} (h1 : 0 ≤ sg x) (h2 : sg x ≤ 4611686018427387904) (h : x < 18446744073709551616) : cm x = sg x := by
  unfold cm sg at *
  split at h1 <;> split <;> omega
theorem may_qH {zs : List Int} (hb : Bt zs) : may (qH zs) = may (rH zs) := by
  have l1 : le 8 (zs.drop 4) < 18446744073709551616 := by have := le_lt 8 _ (hb.drop 4); omega
  have l5 : le 8 (zs.drop 21) < 18446744073709551616 := by have := le_lt 8 _ (hb.drop 21); omega
  have e1 : wi (qH zs).v 1 4611686018427387904 = wi (rH zs).v 1 4611686018427387904 := wi_cm l1 (by omega) (by omega)
  have e2 : tOk (qH zs) = tOk (rH zs) := by
    unfold tOk
    have e3 : wi (qH zs).k 1 4294967295 = wi (rH zs).k 1 4294967295 := wi_cm l5 (by omega) (by omega)
    have e4 : decide ((qH zs).k = 0) = decide ((rH zs).k = 0) := by
      rw [decide_eq_decide]
      show cm _ = 0 ↔ sg _ = 0
      unfold cm sg
      split <;> split <;> omega
    rw [e3, e4]; rfl
  unfold may
  rw [e1, e2]; rfl
theorem qH_rH {zs : List Int} (hb : Bt zs) (h : may (rH zs) = true) : qH zs = rH zs := by
  have l1 : le 8 (zs.drop 4) < 18446744073709551616 := by have := le_lt 8 _ (hb.drop 4); omega
  have l5 : le 8 (zs.drop 21) < 18446744073709551616 := by have := le_lt 8 _ (hb.drop 21); omega
  have b := may_bounds h
  exact Hd.same (cm_sg (by have := b.1; show 0 ≤ (rH zs).v; omega) b.2.1 l1) rfl rfl rfl (cm_sg (by show 0 ≤ (rH zs).k; omega) (by show (rH zs).k ≤ _; omega) l5) rfl rfl

/-- A head's body cut off, zeros behind it. -/
def torn (H : Hd) (k : Nat) : List Int := (mB H).take k ++ List.replicate (4092 - k) 0
theorem torn_len (H : Hd) (k : Nat) (h : k ≤ 4092) : (torn H k).length = 4092 := by
  unfold torn; rw [List.length_append, List.length_take, List.length_replicate, mB_len]; omega
theorem torn_bt (H : Hd) (k : Nat) : Bt (torn H k) := ((mB_bt H).take k).app (by intro z hz; have := List.eq_of_mem_replicate hz; omega)
theorem torn_no (H : Hd) (k : Nat) (h : k < 4092) : dM (torn H k) = false := by
  cases hd : dM (torn H k) with
  | false => rfl
  | true =>
    obtain ⟨_, _, h3⟩ := dM_parts hd
    have h4 := mB_end (rH (torn H k))
    rw [h3] at h4
    have h5 : (torn H k).getD 4091 0 = 46 := by
      have : ((torn H k).drop 4088).getD 3 0 = 46 := by rw [h4]; rfl
      rw [List.getD_eq_getElem?_getD, List.getElem?_drop] at this
      rw [List.getD_eq_getElem?_getD]; exact this
    have h6 : (torn H k).getD 4091 0 = 0 := by
      unfold torn
      rw [List.getD_eq_getElem?_getD, List.getElem?_append_right (by rw [List.length_take, mB_len]; omega), List.getElem?_replicate]
      split <;> rfl
    rw [h5] at h6
    exact absurd h6 (by decide)
/-- What Decode answers. -/
def aH (zs : List Int) : Hd := if dM zs = true then rH zs else zH
def aE (zs : List Int) : Int := if dM zs = true then 0 else 70
theorem a_no {zs : List Int} (h : dM zs = false) : aH zs = zH ∧ aE zs = 70 := by unfold aH aE; rw [h]; exact ⟨rfl, rfl⟩
theorem a_yes {zs : List Int} (h : dM zs = true) : aH zs = rH zs ∧ aE zs = 0 := by unfold aH aE; rw [h]; exact ⟨rfl, rfl⟩
/-- What Encode answers. -/
def oM (H : Hd) : List Int := if may H = true then mB H else []
def eM (H : Hd) : Int := if may H = true then 0 else 71
theorem o_no {H : Hd} (h : may H = false) : oM H = [] ∧ eM H = 71 := by unfold oM eM; rw [h]; exact ⟨rfl, rfl⟩
theorem o_yes {H : Hd} (h : may H = true) : oM H = mB H ∧ eM H = 0 := by unfold oM eM; rw [h]; exact ⟨rfl, rfl⟩
theorem oM_bt (H : Hd) : Bt (oM H) := by
  unfold oM; split
  · exact mB_bt H
  · exact Bt.nil
end Go.Proofs.YtlhjociijkhimaaGreatDoor
