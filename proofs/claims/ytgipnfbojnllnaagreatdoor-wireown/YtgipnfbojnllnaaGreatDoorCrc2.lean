import Derived.Test.YtgipnfbojnllnaaGreatDoorCrc1
import Derived.Laws.CopyOwn
namespace Go.Proofs.YtgipnfbojnllnaaGreatDoor
open Go.RowKit

/-- The block g holds just the bytes zs. -/
def Rw (w : World) (g : Nat) (zs : List Int) : Prop := w.heap[g]? = some (.cells (zs.map (Value.int .u8)).toArray 5 (0, 0))
theorem Rw.lt {w : World} {g : Nat} {zs : List Int} (h : Rw w g zs) : g < w.heap.size := (Array.getElem?_eq_some_iff.1 h).1
theorem Rw.cell {w : World} {g : Nat} {zs : List Int} (h : Rw w g zs) (i : Nat) (hi : i < zs.length) : w.cell? ⟨g, i, none⟩ = some (.int .u8 (zs.getD i 0)) := by
  rw [cell_of_row w g i _ _ (0, 0) h]
  simp [List.getD, List.getElem?_eq_getElem hi]
theorem Rw.byt {w : World} {g : Nat} {zs : List Int} (h : Rw w g zs) (off n cap : Nat) (hn : off + n ≤ zs.length) : Byt w (some ⟨g, off, none⟩) n cap ((zs.drop off).take n) := by
  refine Byt.of_cells (by rw [List.length_take, List.length_drop]; omega) fun i hi => ?_
  rw [h.cell (off + i) (by omega)]
  simp [List.getD, hi]
theorem Rw.all {w : World} {g : Nat} {zs : List Int} (h : Rw w g zs) (n cap : Nat) (hn : n = zs.length) : Byt w (some ⟨g, 0, none⟩) n cap zs := by
  have := h.byt 0 n cap (by omega)
  rwa [List.drop_zero, List.take_of_length_le (by omega)] at this
theorem Rw.kept {w w' : World} {row : Option Nat} {g : Nat} {zs : List Int} (h : Rw w g zs) (hg : w.grownBy w' row) (hne : some g ≠ row) : Rw w' g zs := (hg.block g h.lt hne).trans h
theorem Rw.keptN {w w' : World} {g : Nat} {zs : List Int} (h : Rw w g zs) (hg : w.grownBy w' none) : Rw w' g zs := h.kept hg (by simp)
theorem Rw.of_owns {w : World} {base g n : Nat} {zs : List Int} (h : w.ownsRow base 5 1 (.slice (some ⟨g, 0, none⟩) n n) n (zs.map (Value.int .u8))) : Rw w g zs := by
  rcases h with ⟨hl, ⟨h0, _⟩ | ⟨g', cap, cur, hv, _, hg, _, _, hs, ht⟩⟩
  · cases h0
  · injection hv with e1 e2 e3
    injection e1 with e1
    injection e1 with e4
    subst e4 e3
    have : cur.toList = zs.map (Value.int .u8) := by
      rw [← ht, List.take_of_length_le (by simp [hs])]
    unfold Rw
    rw [hg, ← this]
theorem made (n : Nat) : (madeCells #[Value.int .u8 0] n).toList = (List.replicate n (0 : Int)).map (Value.int .u8) := by
  refine List.ext_getElem (by simp [madeCells]) fun i h1 h2 => ?_
  simp [madeCells, Nat.mod_one]
theorem Below_of' {w w' : World} (h : w.grownBy w' none) : Below w.heap.size w w' := ⟨h.os, h.tape, h.output, h.size, fun k hk => h.block k hk (by simp)⟩
theorem grown_of_below {w w' : World} (h : Below w.heap.size w w') : w.grownBy w' none := ⟨h.os, h.tape, h.output, h.size, fun k hk _ => h.block k hk⟩

theorem splice_page {Z X C : List Value} (hZ : Z.length = 4096) (hX : X.length = 4092) (hC : C.length = 4) : splice (splice Z 0 X) 4092 C = X ++ C := by
  unfold splice
  rw [List.take_zero, List.nil_append, Nat.zero_add, List.take_left' hX, hC, List.drop_eq_nil_of_le (by rw [List.length_append, List.length_drop]; omega), List.append_nil]

set_option maxHeartbeats 1000000 in
theorem seal_bad (ao : Option Addr) (n cap : Nat) (w : World) (h : n ≠ 4092) :
    Calls Tryz.prog 17 #[.slice ao n cap] w fun e w' => e = .returned (.tuple #[.slice none 0 0, .int .i64 20]) ∧ w' = w := by
  go_enter Tryz.func17, Tryz.ntmps17
  go_wp2
  go_ret2
  exact ⟨rfl, rfl⟩

set_option maxHeartbeats 1000000 in
theorem seal_ok (ao : Option Addr) (cap : Nat) (zs : List Int) (w : World) (hb : Byt w ao 4092 cap zs) (bt : Bt zs) (ht : Tab w) :
    Calls Tryz.prog 17 #[.slice ao 4092 cap] w fun e w' =>
      e = .returned (.tuple #[.slice (some ⟨w.heap.size, 0, none⟩) 4096 4096, .int .i64 0]) ∧ Rw w' w.heap.size (zs ++ low4 (upd 0 zs)) ∧ w.grownBy w' none := by
  obtain ⟨i0, hi, hz0, hz1, hz2⟩ := info_parts info_u8
  have HB := hid_intro hb
  have HT := hid_intro ht
  have hao : ∃ ad, ao = some ad := by
    cases ao with
    | none => have := (hb.nil rfl).1; omega
    | some ad => exact ⟨ad, rfl⟩
  obtain ⟨ad, rfl⟩ := hao
  clear hb ht
  go_enter Tryz.func17, Tryz.ntmps17
  go_wp2_with (at_make; refine wpList_make_full _ rfl _ _ 22 rfl w.heap.size 5 i0 (.int .u8 0) 1 Tryz.underlying22 hi hz0 hz1 _ _ _ _ 4096 rfl rfl rfl rfl ?b2 ?b3 (Nat.le_refl _) ?_)
  case b2 => rw [hz2]; omega
  case b3 => unfold maxLen; omega
  intro w0 hown0 hg0
  rw [made] at hown0
  have R0 := hid_intro (Rw.of_owns hown0)
  have G0 := hid_intro hg0
  clear hown0 hg0
  obtain ⟨X, hX⟩ : ∃ X, X = zs.map (Value.int .u8) := ⟨_, rfl⟩
  obtain ⟨Z, hZ⟩ : ∃ Z, Z = (List.replicate 4096 (0 : Int)).map (Value.int .u8) := ⟨_, rfl⟩
  have hXl : X.length = 4092 := by rw [hX, List.length_map]; exact HB.out.len
  have hZl : Z.length = 4096 := by rw [hZ, List.length_map, List.length_replicate]
  have hX1 : ∀ v ∈ X, v.oneCell' = true := by rw [hX]; exact ints_oneCell _ _
  have HX := hid_intro hX
  have HZ := hid_intro hZ
  have R0' : Hid (w0.heap[w.heap.size]? = some (.cells Z.toArray 5 (0, 0))) := by show _ = _; rw [hZ]; exact R0.out
  have hc0 : Hid (∀ j v, X[j]? = some v → w0.cell? (ad.add j) = some v) := by show ∀ j v, _; rw [hX]; exact (HB.out.keptN G0.out).cells ad rfl
  clear hX hZ R0
  go_wp2_with (refine wpList_copy_splice rfl _ _ 22 22 rfl 5 Tryz.underlying22 (by rw [hi]; exact congrArg some hz1) _ _ _ _ _ _ rfl rfl w.heap.size 0 Z 5 R0'.out X (by rw [hXl]; rfl) (fun _ => ⟨rfl, ad, rfl, hc0.out⟩) (by omega) hX1 w.heap.size w (Below_of' G0.out) (Nat.le_refl _) ?_)
  intro w1 HR1 hB1
  have G1 := hid_intro (grown_of_below hB1)
  clear hB1 hc0 R0' G0
  go_wp2_with fail
  refine (sumBytes_any (some ad) 4092 cap zs w1 (HB.out.keptN G1.out) bt (HT.out.keptN G1.out) (by omega)).mono ?_
  rintro e w2 ⟨rfl, hg2⟩
  have hs2 : w.heap.size < w2.heap.size := Nat.lt_of_lt_of_le (Array.getElem?_eq_some_iff.1 HR1.out).1 hg2.size
  have HR2 : Hid (w2.heap[w.heap.size]? = some (.cells (splice Z 0 X).toArray 5 (0, 0))) := (hg2.block _ (Array.getElem?_eq_some_iff.1 HR1.out).1 (by simp)).trans HR1.out
  have G2 := hid_intro (grown_trans G1.out hg2)
  clear hg2 G1 HR1
  have hl := upd_lt 0 zs
  generalize hs : upd 0 zs = s at *
  have HS := hid_intro hs
  clear hs
  unfold arr4
  obtain ⟨P1, hP1⟩ : ∃ P1, P1 = splice Z 0 X := ⟨_, rfl⟩
  have HP1 := hid_intro hP1
  rw [← hP1] at HR2
  have hP1l : P1.length = 4096 := by rw [hP1, length_splice _ _ _ (by omega)]; exact hZl
  clear hP1
  obtain ⟨C, hC⟩ : ∃ C, C = (low4 s).map (Value.int .u8) := ⟨_, rfl⟩
  have hCl : C.length = 4 := by rw [hC]; rfl
  have hC1 : ∀ v ∈ C, v.oneCell' = true := by rw [hC]; exact ints_oneCell _ _
  have HC := hid_intro hC
  have HW : Hid (∀ W : World, W.heap = (w2.alloc (.cells #[Value.int IntKind.u8 ((s : Int) % 256), Value.int IntKind.u8 ((s : Int) / 256 % 256), Value.int IntKind.u8 ((s : Int) / 65536 % 256), Value.int IntKind.u8 ((s : Int) / 16777216 % 256)] 74 (0, 0))).heap →
      W.heap[w.heap.size]? = some (.cells P1.toArray 5 (0, 0)) ∧ ∀ j v, C[j]? = some v → W.cell? ((⟨w2.heap.size, 0, none⟩ : Addr).add j) = some v) := by
    intro W hW
    rw [hW]
    refine ⟨(heap_alloc_old w2 _ hs2).trans HR2.out, fun j v hv => ?_⟩
    rw [Addr.add_lit, Nat.zero_add, cell_of_row W w2.heap.size j _ _ (0, 0) (by rw [hW]; exact heap_alloc_new w2 _)]
    rw [hC] at hv
    simpa [low4] using hv
  have G3 := fun o => hid_intro (grown_trans G2.out (World.grownBy_alloc w2 o none))
  clear hC HR2 G2
  go_wp2_with fail
  go_region_law
    (refine step_copy_splice rfl (.tmp 16) (.tmp 17) 22 22 (by rfl) 5 Tryz.underlying22 (by rw [hi]; exact congrArg some hz1) _ _ _ _ _ _ (by rfl) (by rfl) w.heap.size 4092 P1 5 (by exact (HW.out _ rfl).1) C (by rw [hCl]; rfl) (fun _ => ⟨rfl, _, rfl, by exact (HW.out _ rfl).2⟩) (by omega) hC1 w.heap.size w (by have h := Below_of' (G3 (.cells #[Value.int IntKind.u8 ((s : Int) % 256), Value.int IntKind.u8 ((s : Int) / 256 % 256), Value.int IntKind.u8 ((s : Int) / 65536 % 256), Value.int IntKind.u8 ((s : Int) / 16777216 % 256)] 74 (0, 0))).out; exact ⟨h.os, h.tape, h.output, h.size, h.block⟩) (Nat.le_refl _) ?_; intro w4 HR4 hB4)
  all_goals
    go_wp2
    go_ret2
    rw [HS.out]
    refine ⟨rfl, ?_, grown_of_below hB4⟩
    unfold Rw
    rw [List.map_append, ← HX.out, ← HC.out, ← splice_page hZl hXl hCl, ← HP1.out]
    exact HR4.out
end Go.Proofs.YtgipnfbojnllnaaGreatDoor
