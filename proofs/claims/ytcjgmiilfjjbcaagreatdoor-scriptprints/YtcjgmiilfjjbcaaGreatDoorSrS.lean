import Derived.Test.YtcjgmiilfjjbcaaGreatDoorSrOp
namespace Go.Proofs.YtcjgmiilfjjbcaaGreatDoor
open Go.RowKit

/-! A number has one word: pure. -/
theorem nb_some {t : List UInt8} {n : Nat} (h : nb t = some n) : t ≠ [] ∧ (t.head? = some 48 → t = [48]) ∧ (∀ c ∈ t, dig c = true) ∧ val 0 t = n ∧ n ≤ 2147483647 := by
  unfold nb at h
  split at h
  · rename_i hh
    obtain ⟨h1, h2, h3, h4⟩ := hh
    simp only [Option.some.injEq] at h
    exact ⟨h1, h2, fun c hc => List.all_eq_true.1 h3 c hc, h, by omega⟩
  · cases h
theorem val_ge : ∀ (t : List UInt8) (a : Nat), a ≤ val a t
  | [], a => Nat.le_refl _
  | c :: t, a => by
    have := val_ge t (10 * a + (c.toNat - 48))
    show a ≤ val (10 * a + (c.toNat - 48)) t
    omega
theorem dig_rng {c : UInt8} (h : dig c = true) : 48 ≤ c.toNat ∧ c.toNat ≤ 57 := by unfold dig at h; exact of_decide_eq_true h
theorem parse_val : ∀ (t : List UInt8) (a : Nat), (∀ c ∈ t, dig c = true) → val a t ≤ 2147483647 → Lib.parseUint10 a t = .ok (val a t)
  | [], a, _, _ => rfl
  | c :: t, a, hd, hv => by
    have hc := dig_rng (hd c List.mem_cons_self)
    have hg := val_ge t (10 * a + (c.toNat - 48))
    have hv2 : val (10 * a + (c.toNat - 48)) t ≤ 2147483647 := hv
    have ih := parse_val t (10 * a + (c.toNat - 48)) (fun x hx => hd x (List.mem_cons_of_mem _ hx)) hv2
    rw [Lib.parseUint10, if_pos hc, if_neg (by omega), if_neg (by omega), Nat.mul_comm a 10, ih]
    rfl
theorem mag_dec {n : Nat} (h : n ≤ 2147483647) : Lib.parseMag (Lib.decDigits n) = .ok n := by
  obtain ⟨h1, _, h3, h4, _⟩ := nb_some (nb_dec h)
  unfold Lib.parseMag
  rw [if_neg h1, parse_val _ 0 h3 (by omega), h4]
theorem atoi_itoa {n : Int} (h : smn n = true) : Lib.atoiAll (Lib.itoa n) = .ok n := by
  obtain ⟨h0, h1⟩ := smn_le h
  unfold Lib.itoa
  split
  · have hm := mag_dec (n := n.natAbs) (by omega)
    unfold Lib.atoiAll
    simp only
    rw [if_pos (by decide), hm]
    simp only
    rw [if_neg (by simp), if_neg (by omega)]
    simp
    omega
  · have hm := mag_dec (n := n.toNat) (by omega)
    obtain ⟨k1, _, k3, _, _⟩ := nb_some (nb_dec (n := n.toNat) (by omega))
    cases hd : Lib.decDigits n.toNat with
    | nil => exact absurd hd k1
    | cons c r =>
      rw [hd] at hm k3
      have hc := dig_rng (k3 c List.mem_cons_self)
      unfold Lib.atoiAll
      simp only
      rw [if_neg (by omega), hm]
      simp only
      rw [if_neg (by omega), if_neg (by omega), if_neg (by omega)]
      congr 1
      omega
theorem nmb_iff (T : List UInt8) (n : Int) : nmb T = some n ↔ Lib.itoa n = T ∧ smn n = true := by
  constructor
  · intro h
    unfold nmb at h
    split at h
    · split at h
      · rename_i hh; cases h; exact ⟨hh.2, hh.1⟩
      · cases h
    · cases h
  · rintro ⟨rfl, hs⟩
    unfold nmb
    rw [atoi_itoa hs]
    exact if_pos ⟨hs, rfl⟩
/-- The document's number. -/
def rnum (T : List UInt8) : Option Int := match T with
  | c :: r => if c = 45 ∧ r ≠ [] then (if r.head? = some 48 then none else (nb r).map fun n => -(n : Int)) else (nb T).map fun n => (n : Int)
  | [] => none
theorem dec_head {n : Nat} (h : n ≤ 2147483647) (h0 : n ≠ 0) : (Lib.decDigits n).head? ≠ some 48 := by
  intro e
  obtain ⟨_, k2, _, k4, _⟩ := nb_some (nb_dec h)
  rw [k2 e] at k4
  exact h0 (by rw [← k4]; rfl)
theorem rnum_iff (T : List UInt8) (n : Int) : rnum T = some n ↔ Lib.itoa n = T ∧ smn n = true := by
  constructor
  · intro h
    cases T with
    | nil => cases h
    | cons c r =>
      unfold rnum at h
      simp only at h
      split at h
      · rename_i hc
        obtain ⟨rfl, hr⟩ := hc
        split at h
        · cases h
        · rename_i h48
          cases hb : nb r with
          | none => rw [hb] at h; cases h
          | some m =>
            rw [hb] at h
            have h' : some (-(m : Int)) = some n := h
            cases h'
            obtain ⟨d1, d2⟩ := dec_nb hb
            have hm : m ≠ 0 := fun e => by
              subst e
              apply h48
              rw [← d1, dec_small (by omega)]
              rfl
            refine ⟨?_, by unfold smn; simp; omega⟩
            unfold Lib.itoa
            rw [if_pos (by omega), show (-(m : Int)).natAbs = m by omega, d1]
      · cases hb : nb (c :: r) with
        | none => rw [hb] at h; cases h
        | some m =>
          rw [hb] at h
          have h' : some (m : Int) = some n := h
          cases h'
          obtain ⟨d1, d2⟩ := dec_nb hb
          refine ⟨?_, by unfold smn; simp; omega⟩
          unfold Lib.itoa
          rw [if_neg (by omega), Int.toNat_natCast, d1]
  · rintro ⟨rfl, hs⟩
    obtain ⟨h0, h1⟩ := smn_le hs
    unfold Lib.itoa
    split
    · rename_i hn
      have hk := nb_dec (n := n.natAbs) (by omega)
      obtain ⟨k1, _⟩ := nb_some hk
      unfold rnum
      simp only
      rw [if_pos (by first | exact ⟨rfl, k1⟩ | exact ⟨trivial, k1⟩), if_neg (dec_head (by omega) (by omega)), hk]
      show some (-(n.natAbs : Int)) = some n
      congr 1
      omega
    · have hk := nb_dec (n := n.toNat) (by omega)
      obtain ⟨k1, _, k3, _⟩ := nb_some hk
      cases hd : Lib.decDigits n.toNat with
      | nil => exact absurd hd k1
      | cons c r =>
        rw [hd] at hk k3
        have hc := dig_rng (k3 c List.mem_cons_self)
        unfold rnum
        simp only
        rw [if_neg (by rintro ⟨rfl, _⟩; simp at hc), hk]
        show some (n.toNat : Int) = some n
        congr 1
        omega
/-- The two are one. -/
theorem nmb_rnum (T : List UInt8) : nmb T = rnum T := by
  cases h : nmb T with
  | some n => exact ((rnum_iff T n).2 ((nmb_iff T n).1 h)).symm
  | none =>
    cases h2 : rnum T with
    | none => rfl
    | some n => rw [(nmb_iff T n).2 ((rnum_iff T n).1 h2)] at h; cases h
end Go.Proofs.YtcjgmiilfjjbcaaGreatDoor
