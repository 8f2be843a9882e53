import Derived.Test.YtgipnfbojnllnaaGreatDoorBase
import Derived.Test.YtgipnfbojnllnaaGreatDoorCrcM
import Derived.Laws.BitsAllLaws
namespace Go.Proofs.YtgipnfbojnllnaaGreatDoor
open Go.RowKit

/-- The table lies in its variable. -/
def Tab (w : World) : Prop := ∀ i, i < 16 → w.cell? ⟨0, i, none⟩ = some (.int .u32 ((tab.getD i 0 : Nat) : Int))
theorem Tab.kept {w w' : World} {row : Option Nat} (h : Tab w) (hg : w.grownBy w' row) (hne : row ≠ some 0) : Tab w' := by
  intro i hi
  exact hg.cell (h i hi) (by intro e; exact hne e.symm)
theorem Tab.keptN {w w' : World} (h : Tab w) (hg : w.grownBy w' none) : Tab w' := h.kept hg (by simp)
theorem Tab.qt {w w' : World} (h : Tab w) (hq : Qt w w') : Tab w' := h.keptN (hq.grown none)

set_option maxHeartbeats 400000 in
theorem stepFour_any (r : Nat) (w : World) (hr : r < 4294967296) (ht : Tab w) :
    Calls Tryz.prog 98 #[.int .u32 r] w fun e w' => e = .returned (.int .u32 ((stps 4 r : Nat) : Int)) ∧ w' = w := by
  have hc : w.cell? ⟨0, r % 16, none⟩ = some (.int .u32 ((tab.getD (r % 16) 0 : Nat) : Int)) := ht _ (Nat.mod_lt _ (by decide))
  have hx := u32_xor_nat (r / 16) (tab.getD (r % 16) 0) (by omega) (tab_lt _)
  rw [← four_steps] at hx
  clear ht
  go_enter Tryz.func98, Tryz.ntmps98
  go_wp2
  go_ret
  refine ⟨congrArg Ending.returned (congrArg (Value.int IntKind.u32) ?_), rfl⟩
  rw [← hx]
  simp [List.getD]

theorem u32_not (c : Nat) (h : c < 4294967296) : bits .xor .u32 4294967295 (c : Int) = ((4294967295 - c : Nat) : Int) := by
  have := u32_xor_nat 4294967295 c (by decide) h
  rw [← not_xor h] at this
  exact this

theorem runs_snoc (r : Nat) (zs : List Int) (z : Int) : runs r (zs ++ [z]) = stps 8 (runs r zs ^^^ z.toNat) := by
  rw [runs_app, runs_cons, runs_nil]
theorem take_snoc (zs : List Int) (i : Nat) (h : i < zs.length) : zs.take (i + 1) = zs.take i ++ [zs.getD i 0] := by
  rw [List.take_add_one, List.getElem?_eq_getElem h]; simp [List.getD, List.getElem?_eq_getElem h]
theorem bts {zs : List Int} (h : Bt zs) : Bts zs := h

set_option maxHeartbeats 1000000 in
theorem update_any (c : Nat) (ao : Option Addr) (n cap : Nat) (zs : List Int) (w : World) (hc : c < 4294967296) (hb : Byt w ao n cap zs) (bt : Bt zs) (ht : Tab w) (hn : n ≤ 140737488351232) :
    Calls Tryz.prog 38 #[.int .u32 c, .slice ao n cap] w fun e w' => e = .returned (.int .u32 ((upd c zs : Nat) : Int)) ∧ w' = w := by
  have HB : Hid (Byt w ao n cap zs) := hb
  have HT : Hid (Tab w) := ht
  have HL : Hid (zs.length = n) := hb.len
  have hnot := u32_not c hc
  clear hb ht
  go_enter Tryz.func38, Tryz.ntmps38
  go_wp2
  go_loopw [5, 12] (fun sr si wr => ∃ i : Nat, i ≤ n ∧ si = .int .i64 i ∧ sr = .int .u32 ((runs (4294967295 - c) (zs.take i) : Nat) : Int) ∧ wr = w) (fun _ si _ => n - (intOf si).toNat)
  case atStart => exact ⟨0, by omega, rfl, by rw [List.take_zero, runs_nil, ← hnot]; rfl, rfl⟩
  case round =>
    obtain ⟨i, hi, rfl, rfl, rfl⟩ := hrel
    have hrl : runs (4294967295 - c) (zs.take i) < 4294967296 := runs_lt (bts (bt.take i)) (by omega)
    by_cases hlt : i < n
    · obtain ⟨b, off, rfl, hbs, hcell⟩ := HB.out.at (by omega)
      have hci := hcell i hlt
      have hz := bt.getD i
      obtain ⟨z, hzz⟩ : ∃ z : Nat, zs.getD i 0 = (z : Int) := ⟨(zs.getD i 0).toNat, by omega⟩
      have hx := u32_xor_nat (runs (4294967295 - c) (zs.take i)) z hrl (by omega)
      have hlx := xor_lt hrl (show z < 4294967296 by omega)
      rw [hzz] at hci
      have hz2 : z ≤ 255 := by omega
      have hr2 : runs (4294967295 - c) (zs.take (i + 1)) = stps 4 (stps 4 (runs (4294967295 - c) (zs.take i) ^^^ z)) := by
        rw [take_snoc zs i (by have := HL.out; omega), runs_snoc, hzz, Int.toNat_natCast, show (8 : Nat) = 4 + 4 by decide, stps_add]
      clear hcell hz hzz
      have HR := hid_intro hr2
      clear hr2
      generalize runs (4294967295 - c) (zs.take i) = r at *
      go_wp2_with fail
      refine (stepFour_any _ _ hlx HT.out).mono ?_
      rintro e w' ⟨rfl, rfl⟩
      have hl2 := stps_lt 4 hlx
      go_wp2_with fail
      refine (stepFour_any _ _ hl2 HT.out).mono ?_
      rintro e w' ⟨rfl, rfl⟩
      go_wp2
      go_roundw
      case rel => exact ⟨i + 1, by omega, by go_num, by rw [HR.out], by trivial⟩
      case measure => simp [intOf]; omega
    · have hin : i = n := by omega
      have htk : zs.take i = zs := List.take_of_length_le (by have := HL.out; omega)
      rw [htk] at hrl ⊢
      have hnot2 := u32_not _ hrl
      have HR := hid_intro hnot2
      clear hnot2 htk
      generalize hgen : runs (4294967295 - c) zs = r at *
      have HG := hid_intro hgen
      clear hgen
      go_wp2
      go_ret
      refine ⟨congrArg Ending.returned (congrArg (Value.int IntKind.u32) ?_), rfl⟩
      have h2 := HR.out
      unfold upd
      rw [HG.out, ← h2]; rfl

set_option maxHeartbeats 400000 in
theorem sum_any (ao : Option Addr) (n cap : Nat) (zs : List Int) (w : World) (hb : Byt w ao n cap zs) (bt : Bt zs) (ht : Tab w) (hn : n ≤ 140737488351232) :
    Calls Tryz.prog 37 #[.slice ao n cap] w fun e w' => e = .returned (.int .u32 ((upd 0 zs : Nat) : Int)) ∧ w' = w := by
  go_enter Tryz.func37, Tryz.ntmps37
  go_wp2_with fail
  refine (update_any 0 ao n cap zs w (by decide) hb bt ht hn).mono ?_
  rintro e w' ⟨rfl, rfl⟩
  have hl := upd_lt 0 zs
  generalize hs : upd 0 zs = s at *
  have HS := hid_intro hs
  clear hs hb bt ht
  go_wp2
  go_ret
  rw [HS.out]
  exact ⟨rfl, rfl⟩

/-- The four bytes, as an array. -/
def arr4 (s : Nat) : Value := .agg #[.int .u8 ((s % 256 : Nat) : Int), .int .u8 ((s / 256 % 256 : Nat) : Int), .int .u8 ((s / 65536 % 256 : Nat) : Int), .int .u8 ((s / 16777216 % 256 : Nat) : Int)]

set_option maxHeartbeats 1000000 in
theorem sumBytes_any (ao : Option Addr) (n cap : Nat) (zs : List Int) (w : World) (hb : Byt w ao n cap zs) (bt : Bt zs) (ht : Tab w) (hn : n ≤ 140737488351232) :
    Calls Tryz.prog 39 #[.slice ao n cap] w fun e w' => e = .returned (arr4 (upd 0 zs)) ∧ w.grownBy w' none := by
  go_enter Tryz.func39, Tryz.ntmps39
  go_wp2_with fail
  refine (sum_any ao n cap zs _ (hb.keptN (World.grownBy_alloc w _ none)) bt (ht.keptN (World.grownBy_alloc w _ none)) hn).mono ?_
  rintro e w' ⟨rfl, rfl⟩
  have hl := upd_lt 0 zs
  generalize hs : upd 0 zs = s at *
  have HS := hid_intro hs
  clear hs hb bt ht
  go_wp2
  refine bodyPost_ret (results_cell_row rfl _ _ w.heap.size 74 _ (0, 0) _ rfl (heap_alloc_new _ _) Tryz.underlying74 rfl (by kernel_rfl)) rfl ?_
  rw [HS.out]
  refine ⟨?_, World.grownBy_alloc w _ none⟩
  unfold arr4
  have h1 : ((s % 256 : Nat) : Int) = (s : Int) % 256 := by omega
  have h2 : ((s / 256 % 256 : Nat) : Int) = (s : Int) / 256 % 256 := by omega
  have h3 : ((s / 65536 % 256 : Nat) : Int) = (s : Int) / 65536 % 256 := by omega
  have h4 : ((s / 16777216 % 256 : Nat) : Int) = (s : Int) / 16777216 := by omega
  rw [h1, h2, h3, h4]
end Go.Proofs.YtgipnfbojnllnaaGreatDoor
