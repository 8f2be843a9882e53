import Derived.Test.YtoecgpckkodmcaaGreatQ32
import Derived.Test.YtoecgpckkodmcaaGreatQ42
namespace Go.Proofs.YtoecgpckkodmcaaGreat
open Go.RowKit
def RmP (w : World) (b : List Int) (n : Nat) (en : Ending) (w' : World) : Prop := ∃ g c, en = .returned (.slice (some ⟨g, 0, none⟩) n c) ∧ w.heap.size ≤ g ∧ w'.ownsRow w.heap.size 5 1 (.slice (some ⟨g, 0, none⟩) (n + 2) c) (n + 2) ((b ++ [201, 202]).map (Value.int .u8)) ∧ w.grownBy w' none
set_option maxHeartbeats 2000000 in
set_option maxRecDepth 100000 in
theorem roomy11 (ao : Option Addr) (n c : Nat) (b : List Int) (w : World) (hb : Byt w ao n c b) (hn : n ≤ 1000) :
  Calls Tryz.prog 12 #[.slice ao n c] w fun en w' => RmP w b n en w' := by
 obtain ⟨i0, hi, hz0, hz1, hz2⟩ := info_parts info_u8
 have BC := hid_intro (refBytes_any ao n c b w hb (by omega))
 clear hb
 go_enter Tryz.func12, Tryz.ntmps12
 go_wp2_with fail
 refine BC.out.mono ?_
 rintro en w1 ⟨rfl, ho1, hg1, hs1⟩
 have O1 := hid_intro ho1
 have G1 := hid_intro hg1
 have hz := hg1.size
 clear ho1 hg1 BC
 go_wp2_with (at_builtin; refine append_at10 rfl _ _ 23 rfl w.heap.size 5 i0 (.int .u8 0) 1 1 Tryz.underlying23 hi hz0 hz1 hz2 rfl (by decide) (.slice (some ⟨w.heap.size, 0, none⟩) n n) n (b.map (Value.int .u8)) rfl (O1.out.alloc _) ⟨w1.heap.size, 0, none⟩ 2 2 [.int .u8 201, .int .u8 202] rfl rfl ?c1 ?c2 ?c3 ?c4 ?c5 ?_)
 case c1 =>
  intro j u hu
  rw [Addr.add_lit, cell_of_row _ w1.heap.size _ _ _ (0, 0) (heap_alloc_new w1 _), Nat.zero_add]
  simpa using hu
 case c2 => simp [Value.oneCell']
 case c3 => unfold maxLen; omega
 case c4 => omega
 case c5 => first | omega | (simp; omega)
 intro v9 w9 ho9 hg9 _
 have G9 : Hid (w.grownBy w9 none) := gr_turn (grown_al G1.out _) hg9 (fun r e => by have := (own_lt10 O1.out e).1; omega)
 obtain ⟨g, c9, hv9, hg10, hc9⟩ : ∃ g c9, v9 = .slice (some ⟨g, 0, none⟩) (n + 2) c9 ∧ w.heap.size ≤ g ∧ n + 2 ≤ c9 := by
  rcases ho9.2 with ⟨_, e⟩ | ⟨g, cap, cur, e1, e2, _, e4, _⟩
  ·omega
  ·exact ⟨g, cap, e1, e2, e4⟩
 subst hv9
 have O9 : Hid (w9.ownsRow w.heap.size 5 1 (.slice (some ⟨g, 0, none⟩) (n + 2) c9) (n + 2) ((b ++ [201, 202]).map (Value.int .u8))) := by
  show World.ownsRow _ _ _ _ _ _ _
  rw [List.map_append]
  exact ho9
 have q0 : (0 : Int) ≤ (n : Int) := by omega
 have q1 : (n : Int) ≤ (c9 : Int) := by omega
 clear ho9 hg9
 go_wp2
 go_ret
 exact ⟨g, c9, rfl, hg10, O9.out, G9.out⟩
theorem own_cellW {w : World} {base g n c : Nat} {zs : List Int} (h : w.ownsRow base 5 1 (.slice (some ⟨g, 0, none⟩) n c) n (zs.map (Value.int .u8))) {i : Nat} {z : Int} (hz : zs[i]? = some z) : w.cell? ⟨g, i, none⟩ = some (.int .u8 z) := by
 have hb := (own_bytT h).cells ⟨g, 0, none⟩ rfl i (.int .u8 z) (by simp [hz])
 rw [Addr.add_lit, Nat.zero_add] at hb
 exact hb
set_option maxHeartbeats 4000000 in
set_option maxRecDepth 100000 in
theorem marked11 (g n c base : Nat) (b : List Int) (bo : Option Addr) (d : Nat) (w : World) (ho : w.ownsRow base 5 1 (.slice (some ⟨g, 0, none⟩) (n + 2) c) (n + 2) ((b ++ [201, 202]).map (Value.int .u8))) (hb : Byt w bo n d b) (hn : n ≤ 1000) :
  Calls Tryz.prog 15 #[.slice (some ⟨g, 0, none⟩) n c, .slice bo n d] w fun en w' => en = .returned (.bool true) ∧ w.grownBy w' (some g) := by
 have lb := hb.len
 have hc : n + 2 ≤ c := by
  rcases ho.2 with ⟨_, e⟩ | ⟨g', cap, cur, e1, _, _, e4, _⟩
  ·omega
  ·injection e1 with _ _ e5; omega
 have c0 := own_cellW ho (i := n) (z := 201) (by rw [List.getElem?_append_right (by omega), lb]; simp)
 have c1 := own_cellW ho (i := n + 1) (z := 202) (by rw [List.getElem?_append_right (by omega), lb]; simp)
 have hbl : Byt w (some ⟨g, 0, none⟩) n c b := by
  have h1 := own_bytT ho
  refine ⟨lb, (fun e => by cases e), fun ad e j u hu => h1.cells ad e j u ?_⟩
  rw [List.map_append, List.getElem?_append_left (by simpa using (List.getElem?_eq_some_iff.1 hu).1)]
  exact hu
 have SC := hid_intro (same_yes (some ⟨g, 0, none⟩) bo n n c d b b w hbl hb rfl)
 have W0 : Hid (WrP w w base (.slice (some ⟨g, 0, none⟩) (n + 2) c) (n + 2)) := ⟨⟨_, ho⟩, fun _ _ => rfl, KeepsOthers.refl _, World.grownBy.refl _ _⟩
 have q0 : (n : Int) + 2 = ((n + 2 : Nat) : Int) := by omega
 obtain ⟨N, hN⟩ : ∃ N, n + 2 = N := ⟨_, rfl⟩
 rw [hN] at q0 W0 hc
 have q1 : IntKind.i64.wrap (N : Int) = (N : Int) := by rw [IntKind.wrap_i64]; omega
 have q2 : (0 : Int) ≤ (N : Int) := by omega
 have q3 : (N : Int) ≤ (c : Int) := by omega
 have q4 : (0 : Int) ≤ (n : Int) := by omega
 have q5 : (n : Int) < (N : Int) := by omega
 obtain ⟨K, hK⟩ : ∃ K, n + 1 = K := ⟨_, rfl⟩
 rw [hK] at c1
 have q6 : (n : Int) + 1 = (K : Int) := by omega
 have q7 : IntKind.i64.wrap (K : Int) = (K : Int) := by rw [IntKind.wrap_i64]; omega
 have q8 : (0 : Int) ≤ (K : Int) := by omega
 have q9 : (K : Int) < (N : Int) := by omega
 have hN2 : N ≤ 1002 := by omega
 clear ho hb hbl lb hN hK
 go_enter Tryz.func15, Tryz.ntmps15
 go_wp2_with fail
 refine SC.out.mono ?_
 rintro en w2 ⟨rfl, hw⟩
 rw [hw]
 clear hw SC
 go_wp2_with fail
 go_loopw [8] (fun si wr => ∃ i : Nat, i ≤ N ∧ si = .int .i64 (i : Nat) ∧ WrP w wr base (.slice (some ⟨g, 0, none⟩) N c) N) (fun si _ => N - (intOf si).toNat)
 case atStart => exact ⟨0, Nat.zero_le _, rfl, W0.out⟩
 case round =>
  obtain ⟨i, hi, rfl, hwp⟩ := hrel
  by_cases hlt : i < N
  ·obtain ⟨zs, hz⟩ := hwp.ow
   obtain ⟨g', v0, e0, hc0, hf0⟩ := own_atW hz hlt
   cases e0
   have r0 : (0 : Int) ≤ (i : Int) := by omega
   have r1 : (i : Int) < (N : Int) := by omega
   have WP := hid_intro hwp
   clear hwp hz
   go_wp2
   go_roundw
   case rel => exact ⟨i + 1, by omega, by go_num, WP.out.put⟩
   case measure => simp [intOf]; omega
  ·have r1 : ¬ (i : Int) < (N : Int) := by omega
   have WP := hid_intro hwp
   clear hwp
   go_wp2
   go_ret
   exact ⟨rfl, WP.out.gr⟩
end Go.Proofs.YtoecgpckkodmcaaGreat
