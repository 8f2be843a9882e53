import Derived.Test.YtgipnfbojnllnaaGreatDoorCrc4
namespace Go.Proofs.YtgipnfbojnllnaaGreatDoor
open Go.RowKit

/-- The bytes, cut or with zeros behind them, N in all. -/
def padL (zs : List Int) (N : Nat) : List Int := zs.take N ++ (List.replicate N 0).drop (zs.take N).length
theorem padL_len (zs : List Int) (N : Nat) : (padL zs N).length = N := by
  unfold padL
  rw [List.length_append, List.length_drop, List.length_replicate, List.length_take]
  omega
theorem padL_bt {zs : List Int} (h : Bt zs) (N : Nat) : Bt (padL zs N) := (h.take N).app ((bt_zeros N).drop _)

set_option maxHeartbeats 1000000 in
theorem padded_any (ao : Option Addr) (n cap N : Nat) (zs : List Int) (w : World) (hb : Byt w ao n cap zs) (hN : N ≤ 5000) :
    Calls Tryz.prog 16 #[.slice ao n cap, .int .i64 N] w fun e w' =>
      e = .returned (.slice (some ⟨w.heap.size, 0, none⟩) N N) ∧ Rw w' w.heap.size (padL zs N) ∧ w.grownBy w' none := by
  obtain ⟨i0, hi, hz0, hz1, hz2⟩ := info_parts info_u8
  have HB := hid_intro hb
  clear hb
  go_enter Tryz.func16, Tryz.ntmps16
  go_wp2_with (at_make; refine wpList_make_full _ rfl _ _ 22 rfl w.heap.size 5 i0 (.int .u8 0) 1 Tryz.underlying22 hi hz0 hz1 _ _ _ _ N rfl rfl rfl rfl (by rw [hz2]; omega) (by unfold maxLen; omega) (Nat.le_refl _) ?_)
  intro w0 hown0 hg0
  obtain ⟨X, hX⟩ : ∃ X, X = (zs.take N).map (Value.int .u8) := ⟨_, rfl⟩
  obtain ⟨Z, hZ⟩ : ∃ Z, Z = (List.replicate N (0 : Int)).map (Value.int .u8) := ⟨_, rfl⟩
  have hXl : X.length = Nat.min n N := by rw [hX, List.length_map, List.length_take, HB.out.len]; exact Nat.min_comm _ _
  have hZl : Z.length = N := by rw [hZ, List.length_map, List.length_replicate]
  have hX1 : ∀ v ∈ X, v.oneCell' = true := by rw [hX]; exact ints_oneCell _ _
  have R0' : Hid (w0.heap[w.heap.size]? = some (.cells Z.toArray 5 (0, 0))) := by
    show _ = _
    have h1 : w0.ownsRow w.heap.size 5 1 (.slice (some ⟨w.heap.size, 0, none⟩) N N) N ((List.replicate N (0 : Int)).map (Value.int .u8)) := by rw [← made]; simpa using hown0
    rw [hZ]; exact Rw.of_owns h1
  have hc0 : Hid (0 < X.length → ∃ ad, ao = some ad ∧ ∀ j v, X[j]? = some v → w0.cell? (ad.add j) = some v) := by
    intro hpos
    cases ao with
    | none => have := (HB.out.nil rfl).1; rw [hXl, this] at hpos; simp at hpos
    | some ad =>
      refine ⟨ad, rfl, fun j v hv => ?_⟩
      rw [hX, List.map_take, List.getElem?_take] at hv
      split at hv
      · exact (HB.out.keptN hg0).cells ad rfl j v hv
      · cases hv
  have HX := hid_intro hX
  have HZ := hid_intro hZ
  have G0 := hid_intro hg0
  have hXN : X.length ≤ N := by rw [hXl]; exact Nat.min_le_right _ _
  clear hX hZ hown0 hg0 HB
  go_wp2_with (refine wpList_copy_splice rfl _ _ 22 22 rfl 5 Tryz.underlying22 (by rw [hi]; exact congrArg some hz1) _ _ _ _ _ _ rfl rfl w.heap.size 0 Z 5 R0'.out X hXl (fun h => ⟨rfl, hc0.out h⟩) (by omega) hX1 w.heap.size w (Below_of' G0.out) (Nat.le_refl _) ?_)
  intro w1 HR1 hB1
  go_wp2
  go_ret
  refine ⟨rfl, ?_, grown_of_below hB1⟩
  have e : splice Z 0 X = (padL zs N).map (Value.int .u8) := by
    unfold splice padL
    rw [List.take_zero, List.nil_append, Nat.zero_add, List.map_append, ← HX.out, HZ.out, ← List.map_drop, HX.out, List.length_map]
  unfold Rw
  rw [← e]
  exact HR1.out

end Go.Proofs.YtgipnfbojnllnaaGreatDoor
