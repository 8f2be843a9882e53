import Derived.Test.YtlhjociijkhimaaGreatDoorPut
namespace Go.Proofs.YtlhjociijkhimaaGreatDoor
open Go.RowKit

theorem shift_byte (x k : Nat) : (x : Int) / 2 ^ (8 * k) % 256 = ((x / 256 ^ k % 256 : Nat) : Int) := by
  have e : (2 : Nat) ^ (8 * k) = 256 ^ k := by rw [Nat.pow_mul]
  have e2 : (2 : Int) ^ (8 * k) = ((256 ^ k : Nat) : Int) := by rw [← e]; simp
  rw [e2]; simp

set_option maxHeartbeats 1000000 in
set_option maxRecDepth 100000 in
theorem put_u8 (ao : Option Addr) (n cap : Nat) (zs : List Int) (x : Nat) (w : World) (hb : Byt w ao n cap zs) (hn : n ≤ 140737488351232) (hx : x < 256) :
    Calls Tryz.prog 14 #[.slice ao n cap, .int .u8 x] w fun e w' =>
      e = .returned (.slice (some ⟨w.heap.size, 0, none⟩) (n + 1) (n + 1)) ∧
      w'.ownsRow w.heap.size 5 1 (.slice (some ⟨w.heap.size, 0, none⟩) (n + 1) (n + 1)) (n + 1) ((zs ++ lb 1 x).map (Value.int .u8)) ∧ w.grownBy w' none ∧ w.heap.size < w'.heap.size := by
  obtain ⟨i0, hi, hz0, hz1, hz2⟩ := info_parts info_u8
  go_enter Tryz.func14, Tryz.ntmps14
  go_wp2_with fail
  refine (width_u8 _).mono ?_
  rintro e w' ⟨rfl, rfl⟩
  go_wp2_with fail
  refine (copy_any ao n cap zs 1 _ hb (by omega) hn).mono ?_
  rintro e w0 ⟨rfl, hown0, hg0, hs0⟩
  clear hb
  go_wp2
  go_loopw [6, 13] (fun out si wr => ∃ (k : Nat), k ≤ 1 ∧ si = .int .i64 k ∧
      out = .slice (some ⟨w'.heap.size, 0, none⟩) (n + k) (n + 1) ∧
      wr.ownsRow w'.heap.size 5 1 (.slice (some ⟨w'.heap.size, 0, none⟩) (n + k) (n + 1)) (n + k) ((zs ++ lb k x).map (Value.int .u8)) ∧ w'.grownBy wr none ∧ w'.heap.size < wr.heap.size)
    (fun _ si _ => 1 - (intOf si).toNat)
  case atStart => exact ⟨0, by omega, rfl, rfl, by simpa [lb] using hown0, hg0, hs0⟩
  case round =>
    obtain ⟨k, hk, rfl, rfl, hown, hg, hs⟩ := hrel
    by_cases hlt : k < 1
    · go_wp2_with (at_builtin; refine wpList_append_fits _ rfl _ _ 41 rfl w'.heap.size 5 i0 1 Tryz.underlying41 hi hz1 w'.heap.size (n + k) (n + 1) _ rfl (hown.alloc _) ⟨wr.heap.size, 0, none⟩ 1 1 [.int .u8 ((x : Int) / 2 ^ (8 * k) % 256)] rfl rfl (cell_one_new _ _ _) (by intro u hu; simp at hu; subst hu; rfl) (by omega) ?_)
      intro w1 hown1 hg1
      obtain ⟨hg2, hs2⟩ := grown_step _ hg hs hg1
      clear hg1 hown
      have hown2 : w1.ownsRow w'.heap.size 5 1 (.slice (some ⟨w'.heap.size, 0, none⟩) (n + (k + 1)) (n + 1)) (n + (k + 1)) ((zs ++ lb (k + 1) x).map (Value.int .u8)) := by
        rw [lb_snoc, List.map_append, List.map_append, ← Nat.add_assoc, ← shift_byte]; exact hown1
      clear hown1
      go_wp2
      go_roundw
      case rel => exact ⟨k + 1, by omega, by go_num, rfl, hown2, hg2, hs2⟩
      case measure => simp [intOf]; omega
    · have hk2 : k = 1 := by omega
      subst hk2
      go_wp2
      go_ret
      exact ⟨rfl, hown, hg, hs⟩

set_option maxHeartbeats 1000000 in
set_option maxRecDepth 100000 in
theorem put_u32 (ao : Option Addr) (n cap : Nat) (zs : List Int) (x : Nat) (w : World) (hb : Byt w ao n cap zs) (hn : n ≤ 140737488351232) (hx : x < 4294967296) :
    Calls Tryz.prog 31 #[.slice ao n cap, .int .u32 x] w fun e w' =>
      e = .returned (.slice (some ⟨w.heap.size, 0, none⟩) (n + 4) (n + 4)) ∧
      w'.ownsRow w.heap.size 5 1 (.slice (some ⟨w.heap.size, 0, none⟩) (n + 4) (n + 4)) (n + 4) ((zs ++ lb 4 x).map (Value.int .u8)) ∧ w.grownBy w' none ∧ w.heap.size < w'.heap.size := by
  obtain ⟨i0, hi, hz0, hz1, hz2⟩ := info_parts info_u8
  go_enter Tryz.func31, Tryz.ntmps31
  go_wp2_with fail
  refine (width_u32 _).mono ?_
  rintro e w' ⟨rfl, rfl⟩
  go_wp2_with fail
  refine (copy_any ao n cap zs 4 _ hb (by omega) hn).mono ?_
  rintro e w0 ⟨rfl, hown0, hg0, hs0⟩
  clear hb
  go_wp2
  go_loopw [6, 13] (fun out si wr => ∃ (k : Nat), k ≤ 4 ∧ si = .int .i64 k ∧
      out = .slice (some ⟨w'.heap.size, 0, none⟩) (n + k) (n + 4) ∧
      wr.ownsRow w'.heap.size 5 1 (.slice (some ⟨w'.heap.size, 0, none⟩) (n + k) (n + 4)) (n + k) ((zs ++ lb k x).map (Value.int .u8)) ∧ w'.grownBy wr none ∧ w'.heap.size < wr.heap.size)
    (fun _ si _ => 4 - (intOf si).toNat)
  case atStart => exact ⟨0, by omega, rfl, rfl, by simpa [lb] using hown0, hg0, hs0⟩
  case round =>
    obtain ⟨k, hk, rfl, rfl, hown, hg, hs⟩ := hrel
    by_cases hlt : k < 4
    · go_wp2_with (at_builtin; refine wpList_append_fits _ rfl _ _ 41 rfl w'.heap.size 5 i0 1 Tryz.underlying41 hi hz1 w'.heap.size (n + k) (n + 4) _ rfl (hown.alloc _) ⟨wr.heap.size, 0, none⟩ 1 1 [.int .u8 ((x : Int) / 2 ^ (8 * k) % 256)] rfl rfl (cell_one_new _ _ _) (by intro u hu; simp at hu; subst hu; rfl) (by omega) ?_)
      intro w1 hown1 hg1
      obtain ⟨hg2, hs2⟩ := grown_step _ hg hs hg1
      clear hg1 hown
      have hown2 : w1.ownsRow w'.heap.size 5 1 (.slice (some ⟨w'.heap.size, 0, none⟩) (n + (k + 1)) (n + 4)) (n + (k + 1)) ((zs ++ lb (k + 1) x).map (Value.int .u8)) := by
        rw [lb_snoc, List.map_append, List.map_append, ← Nat.add_assoc, ← shift_byte]; exact hown1
      clear hown1
      go_wp2
      go_roundw
      case rel => exact ⟨k + 1, by omega, by go_num, rfl, hown2, hg2, hs2⟩
      case measure => simp [intOf]; omega
    · have hk2 : k = 4 := by omega
      subst hk2
      go_wp2
      go_ret
      exact ⟨rfl, hown, hg, hs⟩

set_option maxHeartbeats 1000000 in
set_option maxRecDepth 100000 in
theorem put_u64 (ao : Option Addr) (n cap : Nat) (zs : List Int) (x : Nat) (w : World) (hb : Byt w ao n cap zs) (hn : n ≤ 140737488351232) (_hx : x < 18446744073709551616) :
    Calls Tryz.prog 30 #[.slice ao n cap, .int .u64 x] w fun e w' =>
      e = .returned (.slice (some ⟨w.heap.size, 0, none⟩) (n + 8) (n + 8)) ∧
      w'.ownsRow w.heap.size 5 1 (.slice (some ⟨w.heap.size, 0, none⟩) (n + 8) (n + 8)) (n + 8) ((zs ++ lb 8 x).map (Value.int .u8)) ∧ w.grownBy w' none ∧ w.heap.size < w'.heap.size := by
  obtain ⟨i0, hi, hz0, hz1, hz2⟩ := info_parts info_u8
  go_enter Tryz.func30, Tryz.ntmps30
  go_wp2_with fail
  refine (width_u64 _).mono ?_
  rintro e w' ⟨rfl, rfl⟩
  go_wp2_with fail
  refine (copy_any ao n cap zs 8 _ hb (by omega) hn).mono ?_
  rintro e w0 ⟨rfl, hown0, hg0, hs0⟩
  clear hb
  go_wp2
  go_loopw [6, 13] (fun out si wr => ∃ (k : Nat), k ≤ 8 ∧ si = .int .i64 k ∧
      out = .slice (some ⟨w'.heap.size, 0, none⟩) (n + k) (n + 8) ∧
      wr.ownsRow w'.heap.size 5 1 (.slice (some ⟨w'.heap.size, 0, none⟩) (n + k) (n + 8)) (n + k) ((zs ++ lb k x).map (Value.int .u8)) ∧ w'.grownBy wr none ∧ w'.heap.size < wr.heap.size)
    (fun _ si _ => 8 - (intOf si).toNat)
  case atStart => exact ⟨0, by omega, rfl, rfl, by simpa [lb] using hown0, hg0, hs0⟩
  case round =>
    obtain ⟨k, hk, rfl, rfl, hown, hg, hs⟩ := hrel
    by_cases hlt : k < 8
    · go_wp2_with (at_builtin; refine wpList_append_fits _ rfl _ _ 41 rfl w'.heap.size 5 i0 1 Tryz.underlying41 hi hz1 w'.heap.size (n + k) (n + 8) _ rfl (hown.alloc _) ⟨wr.heap.size, 0, none⟩ 1 1 [.int .u8 ((x : Int) / 2 ^ (8 * k) % 256)] rfl rfl (cell_one_new _ _ _) (by intro u hu; simp at hu; subst hu; rfl) (by omega) ?_)
      intro w1 hown1 hg1
      obtain ⟨hg2, hs2⟩ := grown_step _ hg hs hg1
      clear hg1 hown
      have hown2 : w1.ownsRow w'.heap.size 5 1 (.slice (some ⟨w'.heap.size, 0, none⟩) (n + (k + 1)) (n + 8)) (n + (k + 1)) ((zs ++ lb (k + 1) x).map (Value.int .u8)) := by
        rw [lb_snoc, List.map_append, List.map_append, ← Nat.add_assoc, ← shift_byte]; exact hown1
      clear hown1
      go_wp2
      go_roundw
      case rel => exact ⟨k + 1, by omega, by go_num, rfl, hown2, hg2, hs2⟩
      case measure => simp [intOf]; omega
    · have hk2 : k = 8 := by omega
      subst hk2
      go_wp2
      go_ret
      exact ⟨rfl, hown, hg, hs⟩

end Go.Proofs.YtlhjociijkhimaaGreatDoor
