import Derived.Test.YtdoclmmghdaaaaaGreatDoorSrM
namespace Go.Proofs.YtdoclmmghdaaaaaGreatDoor
open Go.RowKit

set_option maxHeartbeats 4000000 in
set_option maxRecDepth 100000 in
theorem indexRune_vs (s : ByteArray) (r : Int) (w : World) (hz4 : s.size < (Utf8.encode r).size) (h : 128 ≤ r) (h2 : r ≠ 65533) (h3 : validRune r = true) :
    Calls Tryz.prog 60 #[.string s, .int .i32 r] w fun en w' => en = .returned (.int .i64 (-1)) ∧ w.grownBy w' none := by
  have g1 : ¬ r < 128 := by omega
  have g2 : (r == 65533) = false := by rw [beq_eq_false_iff_ne]; exact h2
  have g3 : 0 ≤ r := by omega
  obtain ⟨e1, e2, e3⟩ := encode_facts r (by rw [validRune_eq]; exact h3) h
  generalize hE : Utf8.encode r = E at *
  obtain ⟨k, hk⟩ : ∃ k, E.size = k + 1 := ⟨E.size - 1, by omega⟩
  have k1 : ¬ (k : Int) < (s.size : Int) := by omega
  clear h2 e3
  go_enter Tryz.func60, Tryz.ntmps60
  go_wp2_with fail
  refine (validRune_any r w g3).mono ?_
  rintro en w ⟨rfl, rfl⟩
  rw [h3]
  go_wp2
  go_step3
  have hE1 : ((E.size : Nat) : Int) - 1 = (k : Int) := by omega
  go_wp2
  go_loopw [9, 10, 11, 12] (fun a b _ _ wr => a = .int .i64 (k : Nat) ∧ b = .int .i64 0 ∧ wr = w) (fun _ _ _ _ _ => 0)
  case atStart => exact ⟨rfl, rfl, rfl⟩
  case round =>
    obtain ⟨rfl, rfl, rfl⟩ := hrel
    go_wp2
    rw [Exit.noGoto_ret]
    go_wp2
    go_ret
    exact ⟨rfl, World.grownBy.refl _ _⟩
set_option maxHeartbeats 4000000 in
set_option maxRecDepth 100000 in
theorem indexRune_vl (s : ByteArray) (r : Int) (w : World) (hs : Asc s) (hz4 : (Utf8.encode r).size ≤ s.size) (h : 128 ≤ r) (h2 : r ≠ 65533) (h3 : validRune r = true) :
    Calls Tryz.prog 60 #[.string s, .int .i32 r] w fun en w' => en = .returned (.int .i64 (-1)) ∧ w.grownBy w' none := by
  have g1 : ¬ r < 128 := by omega
  have g2 : (r == 65533) = false := by rw [beq_eq_false_iff_ne]; exact h2
  have g3 : 0 ≤ r := by omega
  obtain ⟨e1, e2, e3⟩ := encode_facts r (by rw [validRune_eq]; exact h3) h
  generalize hE : Utf8.encode r = E at *
  obtain ⟨k, hk⟩ : ∃ k, E.size = k + 1 := ⟨E.size - 1, by omega⟩
  have k1 : (k : Int) < (s.size : Int) := by omega
  have k2 : k < s.size := by omega
  have k3 : k < E.size := by omega
  have hc : 128 ≤ (E[k]'k3).toNat := by
    have := e3 (by omega)
    have ek : E.size - 1 = k := by omega
    simp only [ek] at this
    exact this
  have hd : ((s[k]'k2) == (E[k]'k3)) = false := by
    rw [beq_eq_false_iff_ne]; intro e; have := hs.at k2; rw [e] at this; omega
  have HC : Hid (∀ W : World, Calls Tryz.prog 81 #[.string (s.extract (k + 1) s.size), .int .u8 ((E[k]'k3).toNat : Nat)] W fun e w' => e = .returned (.int .i64 (-1)) ∧ w' = W) := by
    intro W
    refine (indexByte_call (s.extract (k + 1) s.size) ((E[k]'k3).toNat : Nat) W).mono ?_
    rintro e w' ⟨rfl, rfl⟩
    have hh := asc_no hs (k + 1) s.size (E[k]'k3) hc
    have h2 : ((((E[k]'k3).toNat : Nat) : Int).toNat.toUInt8) = (E[k]'k3) := by simp
    rw [h2, hh]
    exact ⟨rfl, rfl⟩
  clear h2 e3
  go_enter Tryz.func60, Tryz.ntmps60
  go_wp2_with fail
  refine (validRune_any r w g3).mono ?_
  rintro en w ⟨rfl, rfl⟩
  rw [h3]
  go_wp2
  go_step3
  have hE1 : ((E.size : Nat) : Int) - 1 = (k : Int) := by omega
  go_wp2
  go_loopw [9, 10, 11, 12] (fun a b _ _ wr => a = .int .i64 (k : Nat) ∧ b = .int .i64 0 ∧ wr = w) (fun _ _ _ _ _ => 0)
  case atStart => exact ⟨rfl, rfl, rfl⟩
  case round =>
    obtain ⟨rfl, rfl, rfl⟩ := hrel
    go_wp2
    go_step3
    have hsk := hs.at k2
    have n1 : (((s[k]'k2).toNat : Int) == ((E[k]'k3).toNat : Int)) = false := by rw [beq_eq_false_iff_ne]; omega
    have n2 : ((s[k]'k2).toNat == (E[k]'k3).toNat) = false := by rw [beq_eq_false_iff_ne]; omega
    have n3 : (((s[k]'k2).toNat : Int) != ((E[k]'k3).toNat : Int)) = true := by simp only [bne, n1]; rfl
    have n4 : IntKind.i64.wrap ((k : Int) + 1) = (k : Int) + 1 := wrap_small _ (by omega) (by omega)
    have k4 : (k : Int) + 1 ≤ (s.size : Int) := by omega
    have k5 : k + 1 ≤ s.size := by omega
    have k6 : (k : Int) < (E.size : Int) := by omega
    have k7 : (0 : Int) ≤ (k : Int) + 1 := by omega
    have k8 : ((k : Int) + 1).toNat = k + 1 := by omega
    go_wp2
    clear hk hE1
    go_quiet (fail)
    go_upto_region 7 with fail
    generalize hw1 : wr.drewN _ = w1
    have HQ : Hid (Qt wr w1) := by rw [← hw1]; exact Qt.drewN _ _
    clear hw1
    go_quiet ((go_at_call 81; exact Calls.quiet_of_same (HC.out _)))
    go_wp2
    rw [Exit.noGoto_ret]
    go_wp2
    rw [Exit.noGoto_ret]
    go_wp2
    go_ret
    exact ⟨rfl, (HQ.out.trans (Qt.drewN _ _)).grown none⟩
/-- The blanks. -/
def blk2 : ByteArray := ⟨#[32, 9]⟩
theorem blk_asc : Asc blk2 := by
  intro b hb
  have : b ∈ [32, 9] := hb
  revert b
  decide
theorem ixr_blk (r : Nat) (h : r < 128) : (0 ≤ ixr blk2 (r : Nat)) = (isb (UInt8.ofNat r) = true) := by
  have : ∀ r : Fin 128, (0 ≤ ixr blk2 (r.1 : Nat)) = (isb (UInt8.ofNat r.1) = true) := by
    intro r
    apply propext
    revert r
    decide +kernel
  exact this ⟨r, h⟩
theorem indexRune_b (r : Int) (w : World) (h : 0 ≤ r) :
    Calls Tryz.prog 60 #[.string blk2, .int .i32 r] w fun en w' => en = .returned (.int .i64 (ixr blk2 r)) ∧ w.grownBy w' none := by
  unfold ixr
  by_cases h1 : r < 128
  · rw [if_pos h1]
    refine (indexRune_call blk2 r w h h1).mono ?_
    rintro en w' ⟨rfl, rfl⟩
    exact ⟨rfl, World.grownBy.refl _ _⟩
  · rw [if_neg h1]
    by_cases h2 : r = 65533
    · subst h2; exact indexRune_bad blk2 w blk_asc
    · cases h3 : validRune r with
      | false =>
        refine (indexRune_inv blk2 r w (by omega) h2 h3).mono ?_
        rintro en w' ⟨rfl, rfl⟩
        exact ⟨rfl, World.grownBy.refl _ _⟩
      | true =>
        by_cases hz : (Utf8.encode r).size ≤ blk2.size
        · exact indexRune_vl blk2 r w blk_asc hz (by omega) h2 h3
        · exact indexRune_vs blk2 r w (by omega) (by omega) h2 h3
end Go.Proofs.YtdoclmmghdaaaaaGreatDoor
