import Derived.Test.YtomknmboapgmbaaBrR1
import Derived.Test.YtomknmboapgmbaaBrX4
import Derived.Test.YtomknmboapgmbaaBrS
namespace Go.Proofs.Ytomknmboapgmbaa
open Go.RowKit

theorem by8_int {zs : List Int} (hb : Bt zs) (q : Nat) : zs.getD q 0 = ((by8 zs q : Nat) : Int) ∧ by8 zs q ≤ 255 := by
  have := hb.getD q
  unfold by8
  omega
theorem byt_by8 {w : World} {ao : Option Addr} {n c : Nat} {zs : List Int} (hb : Byt w ao n c zs) (hbt : Bt zs) (hn : 0 < n) :
    ∃ b off, ao = some ⟨b, off, none⟩ ∧ b < w.heap.size ∧ ∀ i, i < n → w.cell? ⟨b, off + i, none⟩ = some (.int .u8 ((by8 zs i : Nat) : Int)) := by
  obtain ⟨b, off, h1, h2, h3⟩ := hb.at hn
  refine ⟨b, off, h1, h2, fun i hi => ?_⟩
  rw [h3 i hi, (by8_int hbt i).1]

set_option maxHeartbeats 1000000 in
set_option maxRecDepth 100000 in
/-- coppiceref5.number. -/
theorem number_any (ao : Option Addr) (n c : Nat) (zs : List Int) (q : Nat) (w : World) (hb : Byt w ao n c zs) (hbt : Bt zs) (hq : q + 4 ≤ n) (hn : n ≤ 100000) :
    Calls Try.prog 83 #[.slice ao n c, .int .i64 (q : Nat)] w fun en w' => en = .returned (.int .i64 ((nm zs q : Nat) : Int)) ∧ Qt w w' := by
  obtain ⟨b, off, rfl, hlt, hc⟩ := byt_by8 hb hbt (by omega)
  have HE : Hid (nm zs q = by8 zs q + by8 zs (q + 1) * 256 + by8 zs (q + 2) * 65536 + by8 zs (q + 3) * 16777216) := rfl
  have c0 := hc q (by omega)
  have c1 := hc (q + 1) (by omega)
  have c2 := hc (q + 2) (by omega)
  have c3 := hc (q + 3) (by omega)
  have b0 := (by8_int hbt q).2
  have b1 := (by8_int hbt (q + 1)).2
  have b2 := (by8_int hbt (q + 2)).2
  have b3 := (by8_int hbt (q + 3)).2
  clear hc hb
  generalize nm zs q = z at *
  generalize by8 zs q = y0 at *
  generalize by8 zs (q + 1) = y1 at *
  generalize by8 zs (q + 2) = y2 at *
  generalize by8 zs (q + 3) = y3 at *
  obtain ⟨q1, h1⟩ : ∃ q1, q + 1 = q1 := ⟨_, rfl⟩
  obtain ⟨q2, h2⟩ : ∃ q2, q + 2 = q2 := ⟨_, rfl⟩
  obtain ⟨q3, h3⟩ : ∃ q3, q + 3 = q3 := ⟨_, rfl⟩
  rw [h1] at c1
  rw [h2] at c2
  rw [h3] at c3
  have g1 : (q : Int) + 1 = (q1 : Int) := by omega
  have g2 : (q : Int) + 2 = (q2 : Int) := by omega
  have g3 : (q : Int) + 3 = (q3 : Int) := by omega
  have l0 : (q : Int) < (n : Int) := by omega
  have l1 : (q1 : Int) < (n : Int) := by omega
  have l2 : (q2 : Int) < (n : Int) := by omega
  have l3 : (q3 : Int) < (n : Int) := by omega
  have p0 : (0 : Int) ≤ (q : Int) := by omega
  have p1 : (0 : Int) ≤ (q1 : Int) := by omega
  have p2 : (0 : Int) ≤ (q2 : Int) := by omega
  have p3 : (0 : Int) ≤ (q3 : Int) := by omega
  clear h1 h2 h3
  go_enter Try.func83, Try.ntmps83
  go_wp2
  go_quiet (fail)
  go_wp2
  go_ret
  refine ⟨?_, Qt.drewN _ _⟩
  rw [HE.out]
  go_num

theorem pw_cell (w : World) (k : Nat) (hk : k < 3) : (w.alloc (.cells #[.int .i64 1, .int .i64 128, .int .i64 16384] 3)).cell? ⟨w.heap.size, k, none⟩ = some (.int .i64 ((pw k : Nat) : Int)) := by
  rw [cell_of_row _ w.heap.size k _ _ (0, 0) (heap_alloc_new w _)]
  match k, hk with
  | 0, _ => rfl
  | 1, _ => rfl
  | 2, _ => rfl

theorem ret_pair {a b c d : Int} (h1 : a = c) (h2 : b = d) : Ending.returned (.tuple #[.int .i64 a, .int .i64 b]) = .returned (.tuple #[.int .i64 c, .int .i64 d]) := by rw [h1, h2]
/-- What least answers. -/
def lout : Option (Nat × Nat) → Int × Int
  | none => (0, -1)
  | some (x, q) => ((x : Int), (q : Int))

set_option maxHeartbeats 2000000 in
set_option maxRecDepth 100000 in
/-- coppiceref5.least. -/
theorem least5_any (ao : Option Addr) (n c : Nat) (zs : List Int) (q : Nat) (w : World) (hb : Byt w ao n c zs) (hbt : Bt zs) (hq : q ≤ 1000000) (hn : n ≤ 100000) :
    Calls Try.prog 82 #[.slice ao n c, .int .i64 (q : Nat)] w fun en w' => en = .returned (.tuple #[.int .i64 (lout (rl zs q)).1, .int .i64 (lout (rl zs q)).2]) ∧ w.grownBy w' none := by
  have hl := hb.len
  have HB := hid_intro hb
  clear hb
  go_enter Try.func82, Try.ntmps82
  go_wp2
  go_loopw [6, 7, 8] (fun sx sk _ wr => ∃ (k x : Nat), k ≤ 3 ∧ sk = .int .i64 k ∧ sx = .int .i64 x ∧ x ≤ k * 4177920 ∧ rl zs q = rlA zs q (3 - k) k x ∧ w.grownBy wr none) (fun _ sk _ _ => 3 - (intOf sk).toNat)
  case atStart => exact ⟨0, 0, by omega, rfl, rfl, by omega, rfl, World.grownBy.refl _ _⟩
  case round =>
    obtain ⟨k, x, hk, rfl, rfl, hx, hrl, hg⟩ := hrel
    have HG := hid_intro hg
    have HRL := hid_intro hrl
    clear hg hrl
    by_cases hlt : k < 3
    · have HST : Hid (rl zs q = if zs.length ≤ q + k then none else if by8 zs (q + k) < 128 then (if by8 zs (q + k) = 0 ∧ 0 < k then none else some (x + by8 zs (q + k) % 128 * pw k, q + k + 1)) else rlA zs q (3 - (k + 1)) (k + 1) (x + by8 zs (q + k) % 128 * pw k)) := by
        show _ = _
        rw [HRL.out, show 3 - k = (3 - (k + 1)) + 1 by omega, rlA]
      clear HRL
      rw [hl] at HST
      by_cases h1 : n ≤ q + k
      · have HR : Hid (rl zs q = none) := HST.out.trans (if_pos h1)
        have h1' : (n : Int) ≤ (q : Int) + (k : Int) := by omega
        clear HST
        go_wp2
        go_ret2
        exact ⟨by rw [HR.out]; rfl, HG.out⟩
      · have HST1 := hid_intro (HST.out.trans (if_neg h1))
        obtain ⟨b, off, rfl, hbl, hc⟩ := byt_by8 HB.out hbt (by omega)
        have c0 := HG.out.cell (hc (q + k) (by omega)) (by simp)
        have b0 := (by8_int hbt (q + k)).2
        have pk := pw_le k
        have cp := pw_cell wr k hlt
        clear HST hc
        generalize by8 zs (q + k) = y at *
        generalize pw k = pv at *
        obtain ⟨j, hj⟩ : ∃ j, q + k = j := ⟨_, rfl⟩
        rw [hj] at c0
        have g1 : (q : Int) + (k : Int) = (j : Int) := by omega
        have l1 : (j : Int) < (n : Int) := by omega
        have l2 : ¬ (n : Int) ≤ (j : Int) := by omega
        have l3 : (k : Int) < 3 := by omega
        have p1 : (0 : Int) ≤ (j : Int) := by omega
        have ym : y % 128 ≤ 127 := by omega
        have ypm : y % 128 * pv ≤ 127 * 16384 := Nat.mul_le_mul ym pk
        have yp : ((y : Int) % 128) * (pv : Int) = ((y % 128 * pv : Nat) : Int) := by push_cast; rfl
        obtain ⟨z, hz⟩ : ∃ z, y % 128 * pv = z := ⟨_, rfl⟩
        rw [hz] at yp HST1 ypm
        have HZ0 : Hid (y = 0 → z = 0) := fun e => by rw [← hz, e]; simp
        clear hz
        by_cases h2 : y < 128
        · by_cases h3 : y = 0 ∧ 0 < k
          · obtain ⟨h31, h32⟩ := h3
            have HR : Hid (rl zs q = none) := HST1.out.trans ((if_pos h2).trans (if_pos ⟨h31, h32⟩))
            have h31' : (y : Int) = 0 := by omega
            have h32' : (0 : Int) < (k : Int) := by omega
            clear HST1
            go_wp2
            go_ret2
            exact ⟨by rw [HR.out]; rfl, grown_trans HG.out (World.grownBy_alloc _ _ none)⟩
          · have HR : Hid (rl zs q = some (x + z, q + k + 1)) := HST1.out.trans ((if_pos h2).trans (if_neg h3))
            clear HST1
            by_cases h4 : y = 0
            · have h4' : (y : Int) = 0 := by omega
              have HZ1 := hid_intro (HZ0.out h4)
              have h32' : ¬ (0 : Int) < (k : Int) := by omega
              go_wp2
              go_ret2
              rw [HR.out]
              exact ⟨ret_pair (a := (x : Int)) (b := (j : Int) + 1) (by show _ = ((x + z : Nat) : Int); have := HZ1.out; omega) (by show _ = ((q + k + 1 : Nat) : Int); omega), grown_trans HG.out (World.grownBy_alloc _ _ none)⟩
            · have h4' : ¬ (y : Int) = 0 := by omega
              go_wp2
              go_ret2
              rw [HR.out]
              exact ⟨ret_pair (a := (x : Int) + (z : Int)) (b := (j : Int) + 1) (by show _ = ((x + z : Nat) : Int); omega) (by show _ = ((q + k + 1 : Nat) : Int); omega), grown_trans HG.out (World.grownBy_alloc _ _ none)⟩
        · have HR : Hid (rl zs q = rlA zs q (3 - (k + 1)) (k + 1) (x + z)) := HST1.out.trans (if_neg h2)
          have h2' : ¬ (y : Int) < 128 := by omega
          clear HST1
          go_wp2
          go_roundw
          case rel => exact ⟨k + 1, x + z, by omega, by go_num, by go_num, by omega, HR.out, grown_trans HG.out (World.grownBy_alloc _ _ none)⟩
          case measure => simp [intOf]; omega
    · obtain rfl : k = 3 := by omega
      have HR : Hid (rl zs q = none) := HRL.out
      go_wp2
      go_ret2
      exact ⟨by rw [HR.out]; rfl, HG.out⟩
end Go.Proofs.Ytomknmboapgmbaa
