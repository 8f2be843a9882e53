import Derived.Test.YtnghkgnpbcadaaaDoorCrc4
namespace Go.Proofs.YtnghkgnpbcadaaaDoor
open Go.RowKit

set_option maxHeartbeats 400000 in
theorem refStep_any (r : Nat) (w : World) (hr : r < 4294967296) :
    Calls Tryd.prog 24 #[.int .u32 r] w fun e w' => e = .returned (.int .u32 ((stp r : Nat) : Int)) ∧ w' = w := by
  by_cases h : r % 2 = 1
  · have hx := u32_xor_nat (r / 2) 3988292384 (by omega) (by decide)
    have hs : stp r = (r / 2) ^^^ 3988292384 := by unfold stp; rw [if_pos h]
    rw [← hs] at hx
    have hx' : bits .xor .u32 ((r : Int) / 2) 3988292384 = ((stp r : Nat) : Int) := by rw [← hx]; rfl
    have h1 : (r : Int) % 2 = 1 := by omega
    clear hs hx
    go_enter Tryd.func24, Tryd.ntmps24
    go_wp2
    go_ret
    exact ⟨rfl, rfl⟩
  · have hs : stp r = r / 2 := by unfold stp; rw [if_neg h]
    have h1 : (r : Int) % 2 ≠ 1 := by omega
    rw [hs]
    go_enter Tryd.func24, Tryd.ntmps24
    go_wp2
    go_ret
    exact ⟨rfl, rfl⟩

theorem stps_snoc (k r : Nat) : stps (k + 1) r = stp (stps k r) := by rw [stps_add k 1 r]; rfl

set_option maxHeartbeats 2000000 in
theorem refUpdate_any (c : Nat) (ao : Option Addr) (n cap : Nat) (zs : List Int) (w : World) (hc : c < 4294967296) (hb : Byt w ao n cap zs) (bt : Bt zs) (hn : n ≤ 140737488351232) :
    Calls Tryd.prog 16 #[.int .u32 c, .slice ao n cap] w fun e w' => e = .returned (.int .u32 ((upd c zs : Nat) : Int)) ∧ w' = w := by
  have HB : Hid (Byt w ao n cap zs) := hb
  have HL : Hid (zs.length = n) := hb.len
  clear hb
  go_enter Tryd.func16, Tryd.ntmps16
  go_wp2
  go_loopw [5, 6] (fun sr si wr => ∃ i : Nat, i ≤ n ∧ si = .int .i64 i ∧ sr = .int .u32 ((runs (4294967295 - c) (zs.take i) : Nat) : Int) ∧ wr = w) (fun _ si _ => n - (intOf si).toNat)
  case atStart => exact ⟨0, by omega, rfl, by rw [List.take_zero, runs_nil]; go_num, rfl⟩
  case round =>
    obtain ⟨i, hi, rfl, rfl, rfl⟩ := hrel
    have hrl : runs (4294967295 - c) (zs.take i) < 4294967296 := runs_lt (bts (bt.take i)) (by omega)
    by_cases hlt : i < n
    · obtain ⟨b, off, rfl, hbs, hcell⟩ := HB.out.at (by omega)
      have hci := hcell i hlt
      have hz := bt.getD i
      obtain ⟨z, hzz⟩ : ∃ z : Nat, zs.getD i 0 = (z : Int) := ⟨(zs.getD i 0).toNat, by omega⟩
      have hx := u32_xor_nat (runs (4294967295 - c) (zs.take i)) z hrl (by omega)
      have hlx := xor_lt hrl (show z < 4294967296 by omega)
      rw [hzz] at hci
      have hz2 : z ≤ 255 := by omega
      have hr2 : runs (4294967295 - c) (zs.take (i + 1)) = stps 8 (runs (4294967295 - c) (zs.take i) ^^^ z) := by
        rw [take_snoc zs i (by have := HL.out; omega), runs_snoc, hzz, Int.toNat_natCast]
      clear hcell hz hzz
      have HR := hid_intro hr2
      clear hr2
      generalize runs (4294967295 - c) (zs.take i) = r at *
      generalize r ^^^ z = q at *
      go_wp2
      have hw0 : ∃ w0, w0 = wr := ⟨_, rfl⟩
      obtain ⟨w0, hw0⟩ := hw0
      rw [← hw0]
      have HW0 := hid_intro hw0
      clear hw0
      go_loopw [5, 7] (fun sr sk W => ∃ k : Nat, k ≤ 8 ∧ sk = .int .i64 k ∧ sr = .int .u32 ((stps k q : Nat) : Int) ∧ W = w0) (fun _ sk _ => 8 - (intOf sk).toNat)
      case atStart => exact ⟨0, by omega, rfl, rfl, rfl⟩
      case round =>
        obtain ⟨k, hk, rfl, rfl, hW⟩ := hrel
        rw [hW]
        clear hW
        have hkl := stps_lt k hlx
        have HK := hid_intro (stps_snoc k q)
        by_cases hk8 : k < 8
        · generalize stps k q = s at *
          go_wp2_with fail
          refine (refStep_any s w0 hkl).mono ?_
          rintro e w' ⟨rfl, hw'⟩
          have HW' := hid_intro hw'
          clear hw'
          have hsl := stp_lt hkl
          go_wp2
          go_roundw
          case rel => exact ⟨k + 1, by omega, by go_num, by rw [HK.out], HW'.out⟩
          case measure => simp [intOf]; omega
        · have hk9 : k = 8 := by omega
          rw [hk9] at hkl ⊢
          clear HK
          generalize stps 8 q = s at *
          go_wp2
          go_roundw
          case rel => exact ⟨i + 1, by omega, by go_num, by rw [HR.out], HW0.out⟩
          case measure => simp [intOf]; omega
    · have htk : zs.take i = zs := List.take_of_length_le (by have := HL.out; omega)
      rw [htk] at hrl ⊢
      clear htk
      generalize hgen : runs (4294967295 - c) zs = r at *
      have HG := hid_intro hgen
      clear hgen
      go_wp2
      go_ret
      refine ⟨congrArg Ending.returned (congrArg (Value.int IntKind.u32) ?_), rfl⟩
      unfold upd
      rw [HG.out]
      omega
end Go.Proofs.YtnghkgnpbcadaaaDoor
