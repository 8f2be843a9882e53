import Derived.Test.YtoecgpckkodmcabGreatQ42
import Derived.Test.YtoecgpckkodmcabGreatQ40
import Derived.Test.YtoecgpckkodmcabGreatQ47
import Derived.Test.YtoecgpckkodmcabGreatQ41
import Derived.WalkKit
import Derived.ProofKit
import Derived.OpenShut
import Derived.ShutString
import Derived.ChangeOld
import Derived.Below
import Derived.SizedLaws
import Derived.Deep.Slices
import Derived.Test.YtoecgpckkodmcabGreatRows
namespace Go.Proofs.YtoecgpckkodmcabGreat
open Go.RowKit
set_option maxHeartbeats 16000000 in
set_option maxRecDepth 100000 in
theorem walkTaken_walk (a : Option Addr) (n c : Nat) (C : List CgT) (la : Option Addr) (ln lc : Nat) (lo : List Int) (ha : Option Addr) (hn hc : Nat) (hi : List Int) (lim : Int) (w : World) (hC : CgW w a C) (hCn : C.length = n) (hlo : Byt w la ln lc lo) (btl : Bt lo) (hhi : Byt w ha hn hc hi) (bth : Bt hi) :
  Calls Tryz.prog 4 #[.slice a n c, .slice la ln lc, .slice ha hn hc, .int .i64 lim] w fun en w' => en = .returned (.bool true) ∧ w.grownBy w' none := by
 have HC := hid_intro hC
 have HLO := hid_intro hlo
 have HHI := hid_intro hhi
 have HN := hid_intro hCn
 clear hC hlo hhi hCn
 go_enter Tryz.func4, Tryz.ntmps4
 go_wp2_with fail
 refine (first11 w).mono ?_
 rintro en w1 ⟨rfl, hg1⟩
 have G1 := hid_intro hg1
 clear hg1
 go_wp2_with fail
 refine (grown_law a n c C w1 (HC.out.cef (CeF.of G1.out)) HN.out).mono ?_
 rintro en w2 ⟨p, t, ma, mn, mc, rfl, ht2, hw2, _, hg2⟩
 have HT := hid_intro ht2
 have HW := hid_intro hw2
 have G2 := hid_intro (grown_trans G1.out hg2)
 clear ht2 hw2 hg2 HC
 go_wp2_with fail
 refine (short11 la ha ln hn lc hc w2).mono ?_
 rintro en w3 ⟨rfl, hw⟩
 rw [hw]
 clear hw
 by_cases hs : ln ≤ 1000 ∧ hn ≤ 1000
 ·have e1 : (decide (ln ≤ 1000) && decide (hn ≤ 1000)) = true := by simp [hs.1, hs.2]
  rw [e1]
  obtain ⟨hs1, hs2⟩ := hs
  clear e1
  have KW := hid_intro (HW.out.walk (Nat.le_refl _))
  have HFL := hid_intro HW.out.fl
  have LC := hid_intro (len_any t p w2 HT.out HW.out.ok (by rw [HFL.out]; have := HW.out.le; omega))
  rw [HFL.out] at LC
  have hle := HW.out.le
  have HGW := hid_intro HW.out
  have hwl := (within_sub (grG C) lo hi).length_le
  generalize grG C = L at *
  obtain ⟨M, hM⟩ : ∃ M, L.length = M := ⟨_, rfl⟩
  rw [hM] at LC hle hwl
  clear hM HW
  go_wp2_with fail
  refine LC.out.mono ?_
  rintro en w4 ⟨rfl, hg4⟩
  have G4 := hid_intro (grown_trans G2.out hg4)
  have T4 := hid_intro (HT.out.kept (FrT.of hg4))
  have L4 := hid_intro (HLO.out.keptN G4.out)
  have H4 := hid_intro (HHI.out.keptN G4.out)
  clear hg4 LC HT
  have R5 := hid_intro (range_any p la ln lc lo ha hn hc hi w4 L4.out H4.out (by omega) (by omega))
  go_wp2_with fail
  refine R5.out.mono ?_
  rintro en w5 ⟨A1, A2, A3, rfl, hr5⟩
  have RR := hid_intro hr5
  have F5 := hid_intro hr5.gr
  clear hr5 R5
  obtain ⟨M1, hM1⟩ : ∃ M1, M + 1 = M1 := ⟨_, rfl⟩
  have i1 : (M : Int) + 1 = (M1 : Int) := by omega
  have i2 : IntKind.i64.wrap (M1 : Int) = (M1 : Int) := by rw [IntKind.wrap_i64]; omega
  have hM2 : M1 ≤ 1000 := by omega
  have GC := hid_intro (gather_range HGW.out RR.out T4.out btl bth M1 (by omega) (by omega))
  have hta : (withinT L lo hi).take M1 = withinT L lo hi := List.take_of_length_le (by omega)
  rw [hta] at GC
  have T1 := hid_intro (take_any t p la ln lc lo ha hn hc hi lim)
  have T2 := hid_intro (take_any t p la ln lc lo ha hn hc hi (M1 : Int))
  rw [HFL.out] at T1 T2
  have htb : (withinT L lo hi).take (M1 : Int).toNat = withinT L lo hi := List.take_of_length_le (by omega)
  rw [htb] at T2
  clear hta htb hM1
  go_wp2_with fail
  refine GC.out.mono ?_
  rintro en w6 ⟨ba, bk, bc, rfl, hm6, hg6⟩
  have F6 := hid_intro (grown_trans F5.out hg6)
  have M6 := hid_intro hm6
  have hbk : (withinT L lo hi).length = bk := hm6.1
  have hbc : bk ≤ bc := by obtain ⟨_, _, he, _⟩ := hm6; exact he.cap
  clear hg6 hm6 GC F5 RR
  go_wp2_with fail
  refine (T1.out w6 (T4.out.kept (FrT.of F6.out)) KW.out (L4.out.keptN F6.out) btl (H4.out.keptN F6.out) bth (by omega) (by omega)).mono ?_
  rintro en w7 ⟨hg7, v7, xs, n0, m7, rfl, ho7, hx7, hp7, _, _⟩
  obtain ⟨xa, xc, hv7, hm7⟩ := take_mpT ho7 hp7 hx7
  subst hv7
  obtain ⟨K, hK⟩ : ∃ K, ((withinT L lo hi).take lim.toNat).length = K := ⟨_, rfl⟩
  have hK2 : K = min lim.toNat bk := by rw [← hK, List.length_take, hbk]
  have hte : (withinT L lo hi).take lim.toNat = (withinT L lo hi).take K := by
   rw [hK2, ← hbk]
   exact (List.take_eq_take_min ..)
  rw [hK] at hm7 ⊢
  rw [hte] at hm7
  have HK2 := hid_intro hK2
  clear hK hte hK2
  have M7 := hid_intro hm7
  have F7 := hid_intro (grown_trans F6.out hg7)
  have N7 := hid_intro (M6.out.cef (CeF.of hg7))
  clear ho7 hx7 hp7 hm7 hg7 T1 F6 M6
  go_wp2_with fail
  refine (T2.out w7 (T4.out.kept (FrT.of F7.out)) KW.out (L4.out.keptN F7.out) btl (H4.out.keptN F7.out) bth (by omega) (by omega)).mono ?_
  rintro en w8 ⟨hg8, v8, ys, n1, m8, rfl, ho8, hx8, hp8, _, _⟩
  obtain ⟨ya, yc, hv8, hm8⟩ := take_mpT ho8 hp8 hx8
  subst hv8
  have M8 := hid_intro (M7.out.cef (CeF.of hg8))
  have N8 := hid_intro (N7.out.cef (CeF.of hg8))
  have O8 := hid_intro hm8
  have F8 := hid_intro (grown_trans F7.out hg8)
  clear ho8 hx8 hp8 hm8 hg8 T2 F7 M7 N7
  rw [hbk] at O8 ⊢
  generalize withinT L lo hi = TL at *
  have hK2 := HK2.out
  have HX : Hid ((if (0 : Int) < (if (bk : Int) < lim then (bk : Int) else lim) then (if (bk : Int) < lim then (bk : Int) else lim) else 0) = (K : Int)) := by
   show _ = _
   by_cases h1 : (bk : Int) < lim
   ·rw [if_pos h1]
    split <;> omega
   ·rw [if_neg h1]
    split <;> omega
  have hKb : K ≤ bk := by omega
  have S1 := hid_intro (samePairs11 xa ba K xc bc (TL.take K) w8 M8.out (N8.out.takeT hKb) (by omega))
  have S2 := hid_intro (fun (W : World) (hW : w8.grownBy W none) => samePairs11 ya ba bk yc bc TL W (O8.out.cef (CeF.of hW)) (N8.out.cef (CeF.of hW)) (by omega))
  have k1 : ((K : Int) == (K : Int)) = true := by simp
  have k2 : (0 : Int) ≤ (K : Int) := by omega
  have k3 : (K : Int) ≤ (bc : Int) := by omega
  clear hwl hbk hle hM2 hbc hKb hK2
  go_upto_region 10 with fail
  rw [HX.out]
  generalize (if (bk : Int) < lim then (bk : Int) else lim) = mm
  go_wp2_with fail
  refine S1.out.mono ?_
  rintro en w9 ⟨rfl, hg9⟩
  have F9 := hid_intro hg9
  clear hg9
  go_wp2_with fail
  refine (S2.out w9 F9.out).mono ?_
  rintro en w10 ⟨rfl, hg10⟩
  have F10 := hid_intro (grown_trans G4.out (grown_trans F8.out (grown_trans F9.out hg10)))
  clear hg10
  go_wp2
  go_ret
  exact ⟨rfl, F10.out⟩
 ·have e1 : (decide (ln ≤ 1000) && decide (hn ≤ 1000)) = false := by
   cases h : (decide (ln ≤ 1000) && decide (hn ≤ 1000)) with
   | false => rfl
   | true => simp at h; exact absurd h hs
  rw [e1]
  clear hs e1
  go_wp2
  go_ret
  exact ⟨rfl, G2.out⟩
end Go.Proofs.YtoecgpckkodmcabGreat
namespace Go.Proofs.YtoecgpckkodmcabGreat.walkTaken
open Go.ChangeShapes Go.WideShapes Go.ChangeAt Go.WideMaps Go.WideElems Go.RowKit Go.Deep
open Go.ChangeMaps (open_string shut_string)
theorem own : ownKnob Tryz.prog.godebug = none := by kernel_rfl
theorem laidOut : laidOutB Tryz.prog = true := by kernel_rfl
theorem bytes_u8 : Tryz.prog.bytesOf 5 = 1 := by kernel_rfl
theorem bytes_i64 : Tryz.prog.bytesOf 3 = 8 := by kernel_rfl
set_option linter.unusedVariables false
set_option maxRecDepth 100000 in
theorem lifted (os : Os) (started : os.Started) (H : Type) (enc : TypeId × Value → H) :
  ReturnsInHanded {} Tryz.checked os 4 .any (Rows.walkTakenSpec.pre6 enc Tryz.prog Tryz.f4 Rows.walkTakenRow.domain false) (Rows.walkTakenSpec.post enc Tryz.prog Tryz.f4 false true false false) := by
 refine returnsInHanded_of_change_sized (C := Tryz.checked) own started (by kernel_rfl) Tryz.func4
  (ChangeSpec.witness6 (enc := enc) (C := Tryz.checked) false ⟨#[], #[.slice none 0 0, .slice none 0 0, .slice none 0 0, .int .i64 0], []⟩ 8 (by kernel_rfl) (by kernel_rfl) (by kernel_rfl) (by kernel_rfl)) ?_
 intro W base args ds gs before hval0 hW hcnd hsz0 _
 have hval : ∀ (j : Nat) t v, Tryz.f4.params[j]? = some t → args[j]? = some v → Value.okWide Tryz.prog W .any base t v := hval0
 have hsz : (DataW.weightsEach Tryz.prog (Tryz.f4.params.toList ++ Rows.walkTakenSpec.plain.varTypes Tryz.prog) (ds ++ gs)).all (· ≤ reachBytes) = true := hsz0
 clear hsz0
 have hW' := hW
 obtain ⟨p, q, hA0, hV, rfl, hfz, hnd⟩ := hW
 have hA : DataW.TrodAll enc Tryz.prog W 0 (fun _ => true) true Tryz.f4.params.toList args.toList ds p := hA0
 rw [Tryz.params4] at hA hval hsz
 obtain ⟨v0, vs0, d0, ds0, p0, q0, hargs, rfl, rfl, h0, r0⟩ := trodAll_cons hA
 obtain ⟨v1, vs1, d1, ds1, p1, q1, rfl, rfl, rfl, h1, r1⟩ := trodAll_cons r0
 obtain ⟨v2, vs2, d2, ds2, p2, q2, rfl, rfl, rfl, h2, r2⟩ := trodAll_cons r1
 obtain ⟨v3, vs3, d3, ds3, p3, q3, rfl, rfl, rfl, h3, r3⟩ := trodAll_cons r2
 obtain ⟨rfl, rfl, rfl⟩ := trodAll_nil r3
 obtain rfl : args = #[v0, v1, v2, v3] := by cases args; simp_all
 obtain ⟨rfl, rfl⟩ := trodVars_none hV
 obtain ⟨a0, len0, cap0, rfl⟩ := okWide_slice Tryz.underlying22 (hval 0 22 v0 rfl rfl)
 have k0 := h0
 have lt0 : ∀ x ∈ p0, x.block < W.heap.size := by obtain ⟨m, hm⟩ := k0; exact DataW.trod_lt m _ _ _ hm
 obtain ⟨z0, b0, e0, l0, c0⟩ : ∃ L, CgW W a0 L ∧ L.length = len0 ∧ len0 ≤ cap0 ∧ cap0 ≤ 9223372036854775807 := by
  obtain ⟨fuel, hf⟩ := h0
  exact chgs_open (by simpa [Value.cells] using hf)
 obtain ⟨a1, len1, cap1, rfl⟩ := okWide_slice Tryz.underlying23 (hval 1 23 v1 rfl rfl)
 have k1 := h1
 have lt1 : ∀ x ∈ p1, x.block < W.heap.size := by obtain ⟨m, hm⟩ := k1; exact DataW.trod_lt m _ _ _ hm
 obtain ⟨z1, b1, t1, l1, c1⟩ : ∃ zs, Byt W a1 len1 cap1 zs ∧ Bt zs ∧ len1 ≤ cap1 ∧ cap1 ≤ 140737488351232 := by
  obtain ⟨fuel, hf⟩ := h1
  rcases open_ints Tryz.underlying23 Tryz.underlying5 (by kernel_rfl) hf with ⟨hcs, _⟩ | ⟨x, l, c, zs, hcs, _, hl, hm, hz, hx, hcell, hwz⟩
  ·simp [Value.cells] at hcs
   obtain ⟨rfl, rfl, rfl⟩ := hcs
   exact ⟨[], Byt.empty W, Bt.nil, Nat.le_refl _, by omega⟩
  ·simp [Value.cells] at hcs
   obtain ⟨rfl, rfl, rfl⟩ := hcs
   have hz' : zs.length = cap1 := by simpa using hz
   obtain ⟨h1, h2, _, _⟩ := byt_of_row (zs := zs) (.inr ⟨_, rfl, hl, hm, hz', hcell, hwz⟩)
   have hs := sized_slice hsz (j := 1) (t := 23) (e := 5) rfl (congrArg (fun y => some (Prod.fst y)) hx) Tryz.underlying23
   rw [bytes_u8] at hs
   simp only [lits, List.length_map, List.length_take, List.length_drop, reachBytes] at hs
   exact ⟨_, h1, h2, hl, by omega⟩
 obtain ⟨a2, len2, cap2, rfl⟩ := okWide_slice Tryz.underlying23 (hval 2 23 v2 rfl rfl)
 have k2 := h2
 have lt2 : ∀ x ∈ p2, x.block < W.heap.size := by obtain ⟨m, hm⟩ := k2; exact DataW.trod_lt m _ _ _ hm
 obtain ⟨z2, b2, t2, l2, c2⟩ : ∃ zs, Byt W a2 len2 cap2 zs ∧ Bt zs ∧ len2 ≤ cap2 ∧ cap2 ≤ 140737488351232 := by
  obtain ⟨fuel, hf⟩ := h2
  rcases open_ints Tryz.underlying23 Tryz.underlying5 (by kernel_rfl) hf with ⟨hcs, _⟩ | ⟨x, l, c, zs, hcs, _, hl, hm, hz, hx, hcell, hwz⟩
  ·simp [Value.cells] at hcs
   obtain ⟨rfl, rfl, rfl⟩ := hcs
   exact ⟨[], Byt.empty W, Bt.nil, Nat.le_refl _, by omega⟩
  ·simp [Value.cells] at hcs
   obtain ⟨rfl, rfl, rfl⟩ := hcs
   have hz' : zs.length = cap2 := by simpa using hz
   obtain ⟨h1, h2, _, _⟩ := byt_of_row (zs := zs) (.inr ⟨_, rfl, hl, hm, hz', hcell, hwz⟩)
   have hs := sized_slice hsz (j := 2) (t := 23) (e := 5) rfl (congrArg (fun y => some (Prod.fst y)) hx) Tryz.underlying23
   rw [bytes_u8] at hs
   simp only [lits, List.length_map, List.length_take, List.length_drop, reachBytes] at hs
   exact ⟨_, h1, h2, hl, by omega⟩
 obtain ⟨a3, rfl, rfl, rfl, w3⟩ := open_int Tryz.underlying3 (hval 3 3 v3 rfl rfl) h3
 clear hA0 hval0
 refine (walkTaken_walk a0 len0 cap0 z0 a1 len1 cap1 z1 a2 len2 cap2 z2 a3 W b0 e0 b1 t1 b2 t2).mono fun e W' ⟨he, hg⟩ => ?_
 subst he
 have bel := below_ofW hg
 exact ⟨_, rfl, _, _, _, [], _, [], hW', trodAll_mk1 (shut_bool Tryz.underlying4 _), (trodAll_cons_mk (Below.trod laidOut (by kernel_rfl) (of_decide_eq_true (by kernel_rfl)) k0 bel lt0) (trodAll_cons_mk (Below.trod laidOut (by kernel_rfl) (of_decide_eq_true (by kernel_rfl)) k1 bel lt1) (trodAll_cons_mk (Below.trod laidOut (by kernel_rfl) (of_decide_eq_true (by kernel_rfl)) k2 bel lt2) (trodAll_cons_mk (shut_int Tryz.underlying3 w3) trodAll_mk0)))), rfl, bel.frame _, fun h => by cases h⟩
theorem over : Rows.walkTakenRow.holds Tryz.pinned (OpenSpec.ofChange Rows.walkTakenSpec) :=
 OpenClaim.holds_of_wide 4 Tryz.f4 rfl rfl rfl rfl rfl rfl rfl ⟨rfl, rfl, rfl, rfl, rfl⟩ rfl rfl rfl rfl rfl (by kernel_rfl) Tryz.func4 (by kernel_rfl)
  (of_decide_eq_true (by kernel_rfl)) (by unfold Func.isWrapper; first | (rw [if_pos (by decide +kernel)]; kernel_rfl) | (rw [if_neg (by decide +kernel)]; exact ⟨rfl, rfl⟩))
  (fun os started H enc _ => lifted os started H enc)
end Go.Proofs.YtoecgpckkodmcabGreat.walkTaken
namespace Go.Proofs.YtoecgpckkodmcabGreat
theorem walkTaken_holds : Rows.WalkTakenSaid := walkTaken.over
#print axioms walkTaken_holds
end Go.Proofs.YtoecgpckkodmcabGreat
