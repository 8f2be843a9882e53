import Derived.Test.YtlhjociijkhimaaGreatDoorRows
import Derived.Lib.BitFns
import Derived.Lib.ItoaNum
import Derived.Test.YtlhjociijkhimaaGreatDoorMem
import Derived.Test.YtlhjociijkhimaaGreatDoorMath
namespace Go.Proofs.YtlhjociijkhimaaGreatDoor
open Go.RowKit

theorem tab_size : (Lib.len8tab.size : Int) = 256 := by decide +kernel
theorem tab_fin : ∀ i : Fin Lib.len8tab.size, Lib.len8tab[i.val].toNat = Lib.bitLen i.val ∧ Lib.bitLen i.val ≤ 8 := by decide +kernel
theorem tab_at (i : Nat) (h : i < Lib.len8tab.size) : Lib.len8tab[i].toNat = Lib.bitLen i ∧ Lib.bitLen i ≤ 8 := tab_fin ⟨i, h⟩

/-- One way's end: the table's byte, behind a shift by k bits. -/
theorem way_end (k p : Nat) (x : Int) (i : Nat) (h : i < Lib.len8tab.size) (hp : p = 2 ^ k) (h0 : 0 ≤ x) (h1 : x ≤ 18446744073709551615) (hk : k ≤ 56) (hlo : p ≤ x.toNat) (hi : i = x.toNat / p) :
    wrap64 ((k : Int) + wrap64 (Lib.len8tab[i].toNat : Int)) = (Lib.bitLen x.toNat : Int) := by
  obtain ⟨e, l⟩ := tab_at i h
  rw [e]
  have hb : Lib.bitLen x.toNat = k + Lib.bitLen i := by
    rw [hi, hp]; exact Lib.bitLen_shift k x.toNat (by omega) (by omega)
  rw [IntWalk.wrap64_in (Lib.bitLen i : Int) ⟨by omega, by omega⟩, IntWalk.wrap64_in _ ⟨by omega, by omega⟩, hb]
  omega
theorem way_end0 (x : Int) (h : x.toNat < Lib.len8tab.size) : wrap64 (wrap64 (Lib.len8tab[x.toNat].toNat : Int)) = (Lib.bitLen x.toNat : Int) := by
  obtain ⟨e, l⟩ := tab_at x.toNat h
  rw [e, IntWalk.wrap64_in (Lib.bitLen x.toNat : Int) ⟨by omega, by omega⟩, IntWalk.wrap64_in _ ⟨by omega, by omega⟩]

set_option maxHeartbeats 1000000 in
set_option maxRecDepth 100000 in
theorem len64_any (x : Int) (w : World) (h0 : 0 ≤ x) (h1 : x ≤ 18446744073709551615) :
    Calls Tryz.prog 90 #[.int .u64 x] w fun e w' => e = .returned (.int .i64 (Lib.bitLen x.toNat)) ∧ w' = w := by
  have hts := tab_size
  go_enter Tryz.func90, Tryz.ntmps90
  go_wp2
  all_goals (go_ret; refine ⟨congrArg Ending.returned (congrArg (Value.int IntKind.i64) ?_), rfl⟩)
  · exact way_end 56 72057594037927936 x _ _ rfl h0 h1 (by omega) (by omega) (by omega)
  · exact way_end 48 281474976710656 x _ _ rfl h0 h1 (by omega) (by omega) (by omega)
  · exact way_end 40 1099511627776 x _ _ rfl h0 h1 (by omega) (by omega) (by omega)
  · exact way_end 32 4294967296 x _ _ rfl h0 h1 (by omega) (by omega) (by omega)
  · exact way_end 24 16777216 x _ _ rfl h0 h1 (by omega) (by omega) (by omega)
  · exact way_end 16 65536 x _ _ rfl h0 h1 (by omega) (by omega) (by omega)
  · exact way_end 8 256 x _ _ rfl h0 h1 (by omega) (by omega) (by omega)
  · exact way_end0 x _


theorem wbits_u8 : IntKind.u64.wrap (bits BinOp.xor IntKind.u8 IntKind.u8.max 0) = 255 := by decide +kernel
theorem wlen_u8 : Lib.bitLen (Int.toNat 255) = 8 := by decide +kernel
set_option maxHeartbeats 400000 in
theorem width_u8 (w : World) : Calls Tryz.prog 28 #[] w fun e w' => e = .returned (.int .i64 1) ∧ w' = w := by
  go_enter Tryz.func28, Tryz.ntmps28
  go_wp2_with fail
  rw [wbits_u8]
  refine (len64_any _ _ (by omega) (by omega)).mono ?_
  rintro e w' ⟨rfl, rfl⟩
  rw [wlen_u8]
  go_wp2
  go_ret
  exact ⟨rfl, rfl⟩

theorem wbits_u16 : IntKind.u64.wrap (bits BinOp.xor IntKind.u16 IntKind.u16.max 0) = 65535 := by decide +kernel
theorem wlen_u16 : Lib.bitLen (Int.toNat 65535) = 16 := by decide +kernel
theorem wbits_u32 : IntKind.u64.wrap (bits BinOp.xor IntKind.u32 IntKind.u32.max 0) = 4294967295 := by decide +kernel
theorem wlen_u32 : Lib.bitLen (Int.toNat 4294967295) = 32 := by decide +kernel
set_option maxHeartbeats 400000 in
theorem width_u32 (w : World) : Calls Tryz.prog 92 #[] w fun e w' => e = .returned (.int .i64 4) ∧ w' = w := by
  go_enter Tryz.func92, Tryz.ntmps92
  go_wp2_with fail
  rw [wbits_u32]
  refine (len64_any _ _ (by omega) (by omega)).mono ?_
  rintro e w' ⟨rfl, rfl⟩
  rw [wlen_u32]
  go_wp2
  go_ret
  exact ⟨rfl, rfl⟩

theorem wbits_u64 : bits BinOp.xor IntKind.u64 IntKind.u64.max 0 = 18446744073709551615 := by decide +kernel
theorem wlen_u64 : Lib.bitLen (Int.toNat 18446744073709551615) = 64 := by decide +kernel
set_option maxHeartbeats 400000 in
theorem width_u64 (w : World) : Calls Tryz.prog 91 #[] w fun e w' => e = .returned (.int .i64 8) ∧ w' = w := by
  go_enter Tryz.func91, Tryz.ntmps91
  go_wp2_with fail
  rw [wbits_u64]
  refine (len64_any _ _ (by omega) (by omega)).mono ?_
  rintro e w' ⟨rfl, rfl⟩
  rw [wlen_u64]
  go_wp2
  go_ret
  exact ⟨rfl, rfl⟩

theorem or_u64_one (x : Nat) (h : x < 18446744073709551616) : bits BinOp.or IntKind.u64 (x : Int) 1 = ((x ||| 1 : Nat) : Int) := by
  have := u64_or_nat x 1 h (by omega)
  simpa using this

end Go.Proofs.YtlhjociijkhimaaGreatDoor
