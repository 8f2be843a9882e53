import Derived.Test.YtoecgpckkodmcabGreatQ51
import Derived.Test.YtoecgpckkodmcabGreatQ19
import Derived.Test.YtoecgpckkodmcabGreatQ48
import Derived.Test.YtoecgpckkodmcabGreatQ39
import Derived.Test.YtoecgpckkodmcabGreatQ31
namespace Go.Proofs.YtoecgpckkodmcabGreat
open Go.RowKit
set_option maxHeartbeats 4000000 in
set_option maxRecDepth 100000 in
theorem grow_tb (n : Nat) (w : World) (hn : n ≤ 100000) :
  Calls Tryz.prog 47 #[.slice none 0 0, .int .i64 n] w fun en w' => ∃ v, en = .returned v ∧ w'.ownsRow w.heap.size 5 1 v 0 [] ∧ w.grownBy w' none := by
 by_cases h0 : n = 0
 ·subst h0
  go_enter Tryz.func47, Tryz.ntmps47
  go_wp2
  go_ret
  exact ⟨_, rfl, ⟨rfl, .inl ⟨rfl, rfl⟩⟩, World.grownBy.refl _ _⟩
 ·obtain ⟨i0, hi, hz0, hz1, hz2⟩ := info_parts info_u8
  have hpos : 0 < n := by omega
  have hr : ∀ ty, (Builtin.append_ #[23, 3] ty #[.slice none 0 0, .int .i64 n]).run Tryz.prog w = _ := fun ty =>
   Go.Lib.run_append_nil_zeros w 23 3 ty 5 i0 _ .i64 .i64 Tryz.underlying23 Tryz.underlying3 hi hz0 n hpos (by omega) (by omega) (by rw [hz2]; omega)
  have hG := grownCap_ge w n 0 5
  have hM := grownCap_le_maxLen w n 0 5 (by unfold maxLen; omega)
  generalize grownCap w n 0 5 = G at hr hG hM
  have hM2 : (G : Int) ≤ 9223372036854775807 := by unfold maxLen at hM; omega
  have hsz : (Builtin.zeroCells (Value.cells (.int .u8 0)) n ++ Builtin.zeroCells (Value.cells (.int .u8 0)) (G - n)).size = G * 1 := by
   rw [Array.size_append, zeros_len, zeros_len]
   show n * 1 + (G - n) * 1 = G * 1
   omega
  generalize (Builtin.zeroCells (Value.cells (.int .u8 0)) n ++ Builtin.zeroCells (Value.cells (.int .u8 0)) (G - n)) = Z at hr hsz
  have HO : Hid ((w.drew.alloc (.cells Z 5)).ownsRow w.heap.size 5 1 (.slice (some ⟨w.heap.size, 0, none⟩) 0 G) 0 []) :=
   ⟨rfl, .inr ⟨w.heap.size, G, Z, rfl, Nat.le_refl _, heap_alloc_new w.drew _, by omega, hM, hsz, by simp⟩⟩
  have HG : Hid (w.grownBy (w.drew.alloc (.cells Z 5)) none) := grown_trans ((Qt.refl w).drew.grown none) (World.grownBy_alloc _ _ none)
  clear hM hsz
  go_enter Tryz.func47, Tryz.ntmps47
  go_wp2_with (at_builtin; refine Go.Lib.wpList_append_run _ rfl _ _ _ _ rfl _ _ rfl rfl _ _ (hr _) ?_)
  all_goals (go_ret; exact ⟨_, rfl, HO.out, HG.out⟩)
def sgC (key : List Int) : Nat → List Int
 | 0 => key
 | _ => [0]
def prC (key : List Int) : Nat → List Int
 | 0 => []
 | 1 => key
 | _ => key ++ [0]
theorem prC_succ {key : List Int} {j : Nat} (h : j < 2) : prC key (j + 1) = prC key j ++ sgC key j := by
 match j, h with
 | 0, _ => simp [prC, sgC]
 | 1, _ => rfl
theorem prC_le (key : List Int) (j : Nat) : (prC key j).length ≤ key.length + 1 := by
 match j with
 | 0 => simp [prC]
 | 1 => simp [prC]
 | _ + 2 => simp [prC]
theorem sgC_le (key : List Int) (j : Nat) : (sgC key j).length ≤ key.length + 1 := by
 match j with
 | 0 => simp [sgC]
 | _ + 1 => simp [sgC]
set_option maxHeartbeats 8000000 in
set_option maxRecDepth 100000 in
theorem concat01 (q z : Nat) (ka : Option Addr) (kn kc : Nat) (key : List Int) (w : World) (c0 : w.cell? ⟨q, 0, none⟩ = some (.slice ka kn kc)) (c1 : w.cell? ⟨q, 1, none⟩ = some (.slice (some ⟨z, 0, none⟩) 1 1)) (hk : Byt w ka kn kc key) (hz : Byt w (some ⟨z, 0, none⟩) 1 1 [0]) (hn : kn ≤ 10000) :
  Calls Tryz.prog 32 #[.slice (some ⟨q, 0, none⟩) 2 2] w fun en w' => ∃ a c, en = .returned (.slice a (kn + 1) c) ∧ Byt w' a (kn + 1) c (key ++ [0]) ∧ w.grownBy w' none := by
 have lk := hk.len
 have HS : Hid (∀ j, j < 2 → ∃ a n c, w.cell? ⟨q, j, none⟩ = some (.slice a n c) ∧ Byt w a n c (sgC key j)) := fun j hj => by
  match j, hj with
  | 0, _ => exact ⟨_, _, _, c0, hk⟩
  | 1, _ => exact ⟨_, _, _, c1, hz⟩
 have HLK := hid_intro lk
 clear c0 c1 hk hz lk
 go_enter Tryz.func32, Tryz.ntmps32
 go_wp2_with fail
 go_loopw [3, 5, 11] (fun s3 _ s11 wr => ∃ (j m : Nat), j ≤ 2 ∧ s11 = .int .i64 (j : Nat) ∧ s3 = .int .i64 (m : Nat) ∧ m = (prC key j).length ∧ wr = w) (fun _ _ s11 _ => 2 - (intOf s11).toNat)
 case atStart => exact ⟨0, 0, by omega, rfl, rfl, rfl, rfl⟩
 case round =>
  obtain ⟨j, m, hj, rfl, rfl, hm, hwr⟩ := hrel
  by_cases hlt : j < 2
  ·obtain ⟨a, n, c, hc, hb⟩ := HS.out j hlt
   have hn1 := hb.len
   have hs1 := sgC_le key j
   have hp1 := prC_le key j
   have hl := HLK.out
   have HE : Hid ((prC key (j + 1)).length = m + n) := by show _ = _; rw [prC_succ hlt, List.length_append]; omega
   rw [← hwr] at hc
   have i0 : (0 : Int) ≤ (j : Int) := by omega
   have i1 : (j : Int) < 2 := by omega
   have i2 : ((m + n : Nat) : Int) = (m : Int) + (n : Int) := by omega
   obtain ⟨S, hS⟩ : ∃ S, m + n = S := ⟨_, rfl⟩
   have i3 : (m : Int) + (n : Int) = (S : Int) := by omega
   have i4 : IntKind.i64.wrap (S : Int) = (S : Int) := by rw [IntKind.wrap_i64]; omega
   have i5 : ¬ (S : Int) < 0 := by omega
   have HS1 := hid_intro hS
   have HM := hid_intro hm
   have HW := hid_intro hwr
   clear hm hb hn1 hs1 hp1 hl i2 hS hwr
   go_wp2_with fail
   go_roundw
   case rel => exact ⟨j + 1, S, by omega, by go_num, rfl, by rw [HE.out, HS1.out], HW.out⟩
   case measure => simp [intOf]; omega
  ·have hj2 : j = 2 := by omega
   have i1 : ¬ (j : Int) < 2 := by omega
   have hl := HLK.out
   have hm2 : m = kn + 1 := by rw [hm, hj2]; simp [prC, hl]
   have hp := prC_le key j
   have GC := hid_intro (grow_tb m wr (by omega))
   have HM2 := hid_intro hm2
   have HW := hid_intro hwr
   clear hm hj2 hm2 hp hl hwr
   go_wp2_with fail
   refine GC.out.mono ?_
   rintro en w1 ⟨v1, rfl, ho1, hg1⟩
   obtain ⟨va, vc, hv1⟩ := own_shape10 ho1
   subst hv1
   have O1 := hid_intro ho1
   have G1 := hid_intro (HW.out ▸ hg1)
   have hz1 : w.heap.size ≤ w1.heap.size := G1.out.size
   have O1' : Hid (w1.ownsRow w.heap.size 5 1 (.slice va 0 vc) 0 (([] : List Int).map (Value.int .u8))) := by rw [← HW.out]; exact ho1
   clear ho1 hg1 GC O1
   go_wp2_with fail
   go_loopw [6, 8, 27] (fun s6 _ s27 wr => ∃ (j : Nat), j ≤ 2 ∧ s27 = .int .i64 (j : Nat) ∧ w.grownBy wr none ∧ wr.ownsRow w.heap.size 5 1 s6 (prC key j).length ((prC key j).map (Value.int .u8))) (fun _ _ s27 _ => 2 - (intOf s27).toNat)
   case atStart => exact ⟨0, by omega, rfl, G1.out, O1'.out⟩
   case round =>
    obtain ⟨j2, hj2, rfl, hg, ho⟩ := hrel
    obtain ⟨xa, xc, hv⟩ := own_shape10 ho
    subst hv
    have HG := hid_intro hg
    have HO := hid_intro ho
    have hsz := hg.size
    by_cases hlt2 : j2 < 2
    ·obtain ⟨a, n, c, hc, hb⟩ := HS.out j2 hlt2
     have hn1 := hb.len
     have hs1 := sgC_le key j2
     have hp1 := prC_le key j2
     have hl := HLK.out
     have d1 := hg.cell hc (by simp)
     have B1 := hid_intro (hb.keptN hg)
     have HE := hid_intro (prC_succ (key := key) hlt2)
     obtain ⟨M, hM⟩ : ∃ M, (prC key j2).length = M := ⟨_, rfl⟩
     rw [hM] at HO hp1 ⊢
     have HMM := hid_intro hM
     have HN1 := hid_intro hn1
     have i0 : (0 : Int) ≤ (j2 : Int) := by omega
     have i2 : (j2 : Int) < 2 := by omega
     have hb1 : M + n ≤ 140737488355328 := by omega
     clear hg ho hb hc hM hn1 hs1 hl hp1
     go_wp2_with (at_builtin; refine wpList_append_byt rfl _ _ rfl w.heap.size (.slice xa M xc) M (prC key j2) rfl HO.out a n c (sgC key j2) rfl B1.out hb1 hsz ?_)
     intro v9 w9 ho9 hg9
     have O9 := hid_intro ho9
     have G9 : Hid (w.grownBy w9 none) := gr_turn HG.out hg9 (fun r e => (own_lt10 HO.out e).1)
     clear ho9 hg9
     go_wp2_with fail
     go_roundw
     case rel => exact ⟨j2 + 1, by omega, by go_num, G9.out, by rw [HE.out, List.length_append, HMM.out, HN1.out, List.map_append]; exact O9.out⟩
     case measure => simp [intOf]; omega
    ·have hj3 : j2 = 2 := by omega
     have i2 : ¬ (j2 : Int) < 2 := by omega
     have hl := HLK.out
     have e1 : prC key j2 = key ++ [0] := by rw [hj3]; rfl
     rw [e1] at HO
     have e2 : (key ++ [0]).length = kn + 1 := by simp [hl]
     rw [e2] at HO
     have B9 := hid_intro (own_bytT HO.out)
     have HE1 : Hid ((prC key j2).length = kn + 1) := by show _ = _; rw [e1, e2]
     rw [HE1.out]
     clear hg ho hj3 hl e1 e2 HO HE1
     go_wp2
     go_ret
     exact ⟨_, _, rfl, B9.out, HG.out⟩
theorem cmp_next (a k : List Int) (hb : Bt a) : cmpZ a (k ++ [0]) < 0 ↔ cmpZ a k ≤ 0 := by
 induction a generalizing k with
 | nil =>
  cases k with
  | nil => simp [cmpZ]
  | cons y k => simp [cmpZ]
 | cons x a ih =>
  cases k with
  | nil =>
   have hx := hb x List.mem_cons_self
   show cmpZ (x :: a) [0] < 0 ↔ _
   rw [cmp_cons]
   have h1 : cmpZ (x :: a) [] = 1 := by simp [cmpZ]
   rw [h1]
   rw [if_neg (by omega)]
   by_cases h : 0 < x
   ·rw [if_pos h]
    omega
   ·rw [if_neg h]
    cases a with
    | nil => simp [cmpZ]
    | cons y a => simp [cmpZ]
  | cons y k =>
   rw [List.cons_append, cmp_cons, cmp_cons]
   split
   ·omega
   ·split
    ·omega
    ·exact ih k (fun z hz => hb z (List.mem_cons_of_mem _ hz))
end Go.Proofs.YtoecgpckkodmcabGreat
