import Derived.Test.YtcfmkpgfeodhaaaGreatDoorQ25
import Derived.Deep.DeepCutAuto
import Derived.Deep.CutRange
import Derived.Deep.CutBlock
import Derived.Deep.QuietTactic
import Derived.Deep.RegionHeld3
import Derived.Test.YtcfmkpgfeodhaaaGreatDoorQ26
import Derived.LaidMore
import Derived.Stop.Joined
import Derived.SevenTiedAt
import Derived.WalkKit
import Derived.ProofKit
import Derived.OpenShut
import Derived.ShutString
import Derived.ChangeOld
import Derived.Below
import Derived.SizedLaws
import Derived.Deep.Slices
import Derived.Test.YtcfmkpgfeodhaaaGreatDoorRows
import Derived.Test.YtcfmkpgfeodhaaaGreatDoorCards
import Derived.Test.YtcfmkpgfeodhaaaGreatDoorTie
namespace Go.Proofs.YtcfmkpgfeodhaaaGreatDoor
open Go.RowKit Go.Maps
theorem Pb.start {w0 w : World} {B s q : Nat} {c k : Int} {fr : List Int} {K : Nat} (hx : Kbx w K kcs0) (hK : K < w.heap.size) (hp : Pl w B s q (newP c k fr)) (hok : newOk c k fr = true) (hk : k ≤ 20000) (hb : ∀ i, Bk B s q i → w0.heap.size ≤ i ∧ i ≠ K) (hg : w0.grownBy w none) (h0 : w0.heap.size ≤ K) : PbE w0 w K w.heap.size B s q 0 0 :=
 ⟨kcs0, fun _ => [], fun _ => [], newP c k fr, [], kst_new kds_ok hx hK (Nat.le_refl _), fun _ _ _ => rfl, Nat.le_refl _, hp, newP_okR hok, hk, Pq.nil, Nat.le_refl _, fun i hi => ⟨(hb i hi).1, hp.low i hi, (hb i hi).2⟩, hg, h0⟩
set_option maxHeartbeats 16000000 in
set_option maxRecDepth 100000 in
theorem poolOwns_walk (c k : Int) (a : Option Addr) (n cap : Nat) (fr : List Int) (a3 : Option Addr) (n3 cap3 : Nat) (ops : List Opq) (w : World) (hl : Nt w a fr) (hn : fr.length = n) (hO : Opl w a3 ops) (hlen : ops.length = n3) (h00 : 0 < w.heap.size) :
  Calls Tryz.prog 3 #[.int .i64 c, .int .i64 k, .slice a n cap, .slice a3 n3 cap3] w fun en w' => en = .returned (.bool true) ∧ w.grownBy w' none := by
 have HL := hid_intro hl
 have HO := hid_intro hO
 have H00 := hid_intro h00
 clear hl hO h00
 cases hfit : (decide (k ≤ 20000) && decide (n ≤ 4000)) with
 | false =>
  go_enter Tryz.func3, Tryz.ntmps3
  go_wp2_with (first
   | (go_at_call 4; refine (first17_any _).mono ?_; rintro en w1 ⟨rfl, hg1⟩; have HG1 := hid_intro hg1; clear hg1)
   | (go_at_call 5; refine (fits_any k a n cap _).mono ?_; rw [hfit]; rintro en w1 ⟨rfl, rfl⟩))
  go_ret
  exact ⟨rfl, HG1.out⟩
 | true =>
  have HFT := hid_intro hfit
  simp only [Bool.and_eq_true, decide_eq_true_eq] at hfit
  obtain ⟨hk, _⟩ := hfit
  have HKK := hid_intro hk
  clear hk
  by_cases h60 : 60 < n
  ·have h60' : (60 : Int) < (n : Int) := by omega
   go_enter Tryz.func3, Tryz.ntmps3
   go_wp2_with (first
    | (go_at_call 4; refine (first17_any _).mono ?_; rintro en w1 ⟨rfl, hg1⟩; have HG1 := hid_intro hg1; clear hg1)
    | (go_at_call 5; refine (fits_any k a n cap _).mono ?_; rw [HFT.out]; rintro en w1 ⟨rfl, rfl⟩))
   go_ret
   exact ⟨rfl, HG1.out⟩
  have h60' : ¬ (60 : Int) < (n : Int) := by omega
  go_enter Tryz.func3, Tryz.ntmps3
  go_wp2_with fail
  refine (first17_any _).mono ?_
  rintro en w1 ⟨rfl, hg1⟩
  have HG1 := hid_intro hg1
  clear hg1
  go_wp2_with fail
  refine (fits_any k a n cap _).mono ?_
  rw [HFT.out]
  rintro en w1 ⟨rfl, rfl⟩
  go_wp2_with fail
  refine (refInts_any a n cap fr _ (HL.out.keptN HG1.out) hn (by omega)).mono ?_
  rintro en w2 ⟨⟨v2, rfl, ho2⟩, hg2, _⟩
  obtain ⟨fo, fc, e2, fnt, _, _, -, _⟩ := owns_ints ho2
  subst e2
  have HF := hid_intro fnt
  have HG2 := hid_intro (grown_trans HG1.out hg2)
  clear ho2 hg2 fnt HG1
  cases hok : newOk c k fr with
  | false =>
   go_wp2_with (first
    | (go_at_call 6; refine (new_no c k fo n fc fr _ HF.out hn (by omega) hok).mono ?_; rintro en w3 ⟨rfl, hw3⟩; rw [hw3]; clear hw3)
    | (go_at_call 8; refine (rnew_no c k a n cap fr _ (HL.out.keptN HG2.out) hn (by omega) hok).mono ?_; rintro en w3 ⟨rfl, hg3⟩; have HG3 := hid_intro hg3; clear hg3))
   go_ret
   exact ⟨rfl, grown_trans HG2.out HG3.out⟩
  | true =>
   go_wp2_with fail
   refine (new_yes c k fo n fc fr _ HF.out hn (by omega) hok).mono ?_
   rintro en w3 ⟨B, s, q, rfl, hpl, hg3, hbk⟩
   have HG3 := hid_intro (grown_trans HG2.out hg3)
   have K4 := hid_intro (kbx_new w3)
   have ga := World.grownBy_alloc w3 (.cells kbookZ 46 (0, 0)) none
   have HP4 : Hid (PbE w (w3.alloc (.cells kbookZ 46 (0, 0))) w3.heap.size (w3.alloc (.cells kbookZ 46 (0, 0))).heap.size B s q 0 0) := Pb.start K4.out (by simp) (hpl.keptN ga) hok HKK.out (fun i hi => ⟨Nat.le_trans HG2.out.size (hbk i hi), by have := hpl.low i hi; omega⟩) (grown_trans HG3.out ga) HG3.out.size
   clear hpl hg3 hbk K4 ga HG2 HF HG3
   go_upto_block 0 with (refine wpList_build_kbook rfl rfl ?_)
   obtain ⟨w4, hw4⟩ : ∃ w4, w3.alloc (.cells kbookZ 46 (0, 0)) = w4 := ⟨_, rfl⟩
   rw [hw4] at HP4 ⊢
   obtain ⟨K, hK⟩ : ∃ K, w3.heap.size = K := ⟨_, rfl⟩
   rw [hK] at HP4 ⊢
   obtain ⟨base, hbase⟩ : ∃ base, w4.heap.size = base := ⟨_, rfl⟩
   rw [hbase] at HP4
   clear hw4 hK hbase
   go_cut [12, 13, 14, 15, 16] from 51 to 116 (fun _ _ _ _ _ wx => PbE w wx K base B s q 200 100)
   case first =>
    rename_i J K' hJ hM
    refine powns0 HP4 HO hlen ?_
    intro _ _ _ _ _ _ _ _ _ _ _ _ _ _ _ _ _ _ _ _ _ _ _ _ _ _ _ _ _ _ _ _ _ _ _ _ _ _ _ _ _ _ _ _ _ _ _ _ _ _ _ _ _ _ _ _ _ _ _ _ _ _ _ _ _ _ _ _ _ _ _ wx hrl
    refine hM _ _ ?_
    go_meet
    exact hrl
   case rest =>
    obtain ⟨cs, L, ys, p, ps, hp⟩ := hcut
    have HP := hid_intro hp
    have hl20 := hp.ok.len20 hp.pl.ms.ris hp.pk
    have hul := us_len p
    clear hp HP4
    go_wp2_with fail
    refine (free_any HP.out.pl (by omega)).mono ?_
    rintro en w5 ⟨v5, rfl, ho5, hg5⟩
    obtain ⟨xo, xc, e5, xnt, _, _, -, _⟩ := owns_ints ho5
    subst e5
    have HX := hid_intro xnt
    have HG5 := hid_intro hg5
    clear ho5 hg5 xnt
    go_wp2_with fail
    refine (refInts_any xo p.l.length xc (p.l.map (·.1)) _ HX.out (by simp) (by omega)).mono ?_
    rintro en w6 ⟨⟨v6, rfl, ho6⟩, hg6, _⟩
    obtain ⟨fo, fc', e6, fnt, _, _, -, fb6⟩ := owns_ints ho6
    subst e6
    have HF6 := hid_intro fnt
    have HFB := hid_intro fb6
    have HG6 := hid_intro (grown_trans HG5.out hg6)
    have HP6 := hid_intro (HP.out.keptN HG6.out)
    have hs5 := HG5.out.size
    clear ho6 hg6 fnt fb6 HX HG5
    go_wp2_with fail
    refine (usable_any HP6.out.pl (by omega)).mono ?_
    rintro en w7 ⟨v7, rfl, ho7, hg7⟩
    obtain ⟨yo, yc, e7, ynt, _, _, -, _⟩ := owns_ints ho7
    subst e7
    have HY := hid_intro ynt
    have HG7 := hid_intro hg7
    clear ho7 hg7 ynt
    go_wp2_with fail
    refine (refInts_any yo (us p).length yc (us p) _ HY.out rfl (by omega)).mono ?_
    rintro en w8 ⟨⟨v8, rfl, ho8⟩, hg8, _⟩
    obtain ⟨uo, uc, e8, unt, _, _, -, ub8⟩ := owns_ints ho8
    subst e8
    have HU8 := hid_intro unt
    have HUB := hid_intro ub8
    have HG8 := hid_intro (grown_trans HG7.out hg8)
    have HF8 := hid_intro (HF6.out.keptN HG8.out)
    have HP8 := hid_intro (HP6.out.keptN HG8.out)
    have hs6 := HG6.out.size
    have hs7 := HG7.out.size
    have hs8 := HG8.out.size
    clear ho8 hg8 unt ub8 HY HG7 HF6
    have hlim : ∀ j, j < 13 → ∀ x ∈ L j, base ≤ x.g ∧ x.g < wc.heap.size := fun j hj x hx => ⟨((HP.out.kst.k j hj).ok x hx).2.2.2.2.1, HP.out.kst.lt hj hx⟩
    have HLM := hid_intro hlim
    have hKb := HP.out.kst.t.bB
    have HKB := hid_intro hKb
    clear hlim hKb
    go_wp2_with fail
    refine (kst_finish4 HP8.out.kst HP8.out.em (by have := HP8.out.ml; omega) HP8.out.gr HP8.out.k0 H00.out).mono ?_
    rintro en w9 ⟨rfl, hg9, hs9, hst⟩
    have HFR : Hid (Fr w8 w9 (fun i => i = K ∨ ∃ j, j < 13 ∧ ∃ x ∈ L j, x.g = i)) := ⟨hg9.os.trans HP8.out.gr.os.symm, hg9.tape.trans HP8.out.gr.tape.symm, hg9.output.trans HP8.out.gr.output.symm, hs9, fun i hi hni => hst i ⟨hi, fun e => hni (.inl e), fun j hj x hx e => hni (.inr ⟨j, hj, x, hx, e⟩)⟩⟩
    have HPL9 : Hid (Pl w9 B s q p) := HFR.out.pl HP8.out.pl (fun i hi e => by
     obtain ⟨b1, b2, b3⟩ := HP8.out.bl i hi
     rcases e with e | ⟨j, hj, x, hx, e⟩
     ·exact b3 e
     ·have := (HLM.out j hj x hx).1
      omega)
    have far : ∀ i, wc.heap.size ≤ i → ¬ (i = K ∨ ∃ j, j < 13 ∧ ∃ x ∈ L j, x.g = i) := fun i hi e => by
     rcases e with e | ⟨j, hj, x, hx, e⟩
     ·have := HKB.out
      omega
     ·have := (HLM.out j hj x hx).2
      omega
    have HF9 := hid_intro (HFR.out.nt HF8.out (fun ad e _ => far _ (by have := HFB.out ad e; omega)))
    have HU9 := hid_intro (HFR.out.nt HU8.out (fun ad e _ => far _ (by have := HUB.out ad e; omega)))
    have HG9 := hid_intro hg9
    clear hg9 hs9 hst far HFR HF8 HU8 HFB HUB HP8 HP6 HLM HKB HG6 HG8
    go_wp2_with fail
    refine (free_any HPL9.out (by omega)).mono ?_
    rintro en wA ⟨vA, rfl, hoA, hgA⟩
    obtain ⟨zo, zc, eA, znt, _, _, -, _⟩ := owns_ints hoA
    subst eA
    have HZ := hid_intro znt
    have HGA := hid_intro hgA
    have HPLA := hid_intro (HPL9.out.keptN hgA)
    clear hoA hgA znt HPL9
    go_wp2_with fail
    refine (usable_any HPLA.out (by omega)).mono ?_
    rintro en wB ⟨vB, rfl, hoB, hgB⟩
    obtain ⟨tto, tc, eB, tnt, _, _, -, _⟩ := owns_ints hoB
    subst eB
    have HTB := hid_intro tnt
    have HGB := hid_intro hgB
    have HS1 := hid_intro (sameI_yes zo p.l.length zc fo p.l.length fc' (p.l.map (·.1)) wB (HZ.out.keptN hgB) (by simp) (HF9.out.keptN (grown_trans HGA.out hgB)) (by simp) (by omega))
    have HS2 : Hid (∀ V, Qt wB V → Calls Tryz.prog 16 #[.slice tto (us p).length tc, .slice uo (us p).length uc] V fun en w' => en = .returned (.bool true) ∧ Qt V w') := fun V hq => sameI_yes tto (us p).length tc uo (us p).length uc (us p) V (HTB.out.keptN (hq.grown none)) rfl (HU9.out.keptN (grown_trans (grown_trans HGA.out HGB.out) (hq.grown none))) rfl (by omega)
    have HE := hid_intro (grown_trans (grown_trans HG9.out HGA.out) HGB.out)
    clear hoB hgB tnt HZ HTB HF9 HU9 HGA HGB HPLA HG9
    go_wp2_with fail
    refine HS1.out.mono ?_
    rintro en wD ⟨rfl, hqD⟩
    have HQD := hid_intro hqD
    clear hqD HS1
    go_wp2_with fail
    refine (HS2.out _ HQD.out).mono ?_
    rintro en wE ⟨rfl, hqE⟩
    have HQE := hid_intro hqE
    clear hqE HS2
    go_wp2_with fail
    go_ret
    exact ⟨rfl, grown_trans (grown_trans HE.out (HQD.out.grown none)) (HQE.out.grown none)⟩
end Go.Proofs.YtcfmkpgfeodhaaaGreatDoor
namespace Go.Proofs.YtcfmkpgfeodhaaaGreatDoor.poolOwns
open Go.ChangeShapes Go.WideShapes Go.ChangeAt Go.WideMaps Go.WideElems Go.RowKit Go.Deep
open Go.ChangeMaps (open_string shut_string)
theorem own : ownKnob Tryz.prog.godebug = none := by kernel_rfl
theorem laidOut : laidOutB Tryz.prog = true := by kernel_rfl
theorem bytes_u8 : Tryz.prog.bytesOf 5 = 1 := by kernel_rfl
theorem bytes_i64 : Tryz.prog.bytesOf 3 = 8 := by kernel_rfl
set_option linter.unusedVariables false
set_option maxRecDepth 100000 in
theorem lifted (os : Os) (started : os.Started) (H : Type) (enc : TypeId × Value → H) :
  ReturnsInHanded {} Tryz.checked os 3 .any (fun w args => (Rows.poolOwnsSpec.pre enc Tryz.prog Tryz.f3 [] false w args ∧ laidMetH Tryz.prog [("math/bits.deBruijn32tab", Rows.laid_math_bits_deBruijn32tab), ("math/bits.deBruijn64tab", Rows.laid_math_bits_deBruijn64tab), ("internal/strconv.uint64pow10", Rows.laid_internal_strconv_uint64pow10)] w) ∧ sizedMet enc Tryz.prog Tryz.f3 (OpenSpec.ofChange Rows.poolOwnsSpec) false w args) (Rows.poolOwnsSpec.post enc Tryz.prog Tryz.f3 false true false false) := by
 refine returnsInHanded_of_change_and (C := Tryz.checked) (X := fun w _ => laidMetH Tryz.prog [("math/bits.deBruijn32tab", Rows.laid_math_bits_deBruijn32tab), ("math/bits.deBruijn64tab", Rows.laid_math_bits_deBruijn64tab), ("internal/strconv.uint64pow10", Rows.laid_internal_strconv_uint64pow10)] w) (fun _ _ _ hh h => h.of_heap hh) own started (by kernel_rfl) Tryz.func3
  (ChangeSpec.witness_shaped (enc := enc) (C := Tryz.checked) (os := os) (X := fun w _ => laidMetH Tryz.prog [("math/bits.deBruijn32tab", Rows.laid_math_bits_deBruijn32tab), ("math/bits.deBruijn64tab", Rows.laid_math_bits_deBruijn64tab), ("internal/strconv.uint64pow10", Rows.laid_internal_strconv_uint64pow10)] w) false (World.doorLaid Tryz.prog 400 os) #[.int .i64 0, .int .i64 0, .slice none 0 0, .slice none 0 0] 8 rfl (World.shaped_of_RefB (by kernel_rfl) (by kernel_rfl)) (by kernel_rfl) (by kernel_rfl) (by kernel_rfl) (door_met os _)) ?_
 intro W base args ds gs before hval0 hW _ _ hL _
 have hval : ∀ (j : Nat) t v, Tryz.f3.params[j]? = some t → args[j]? = some v → Value.okWide Tryz.prog W .any base t v := hval0
 have hW' := hW
 obtain ⟨p, q, hA0, hV, rfl, hfz, hnd⟩ := hW
 have hA : DataW.TrodAll enc Tryz.prog W 0 (fun _ => true) true Tryz.f3.params.toList args.toList ds p := hA0
 rw [Tryz.params3] at hA hval
 obtain ⟨v0, vs0, d0, ds0, p0, q0, hargs, rfl, rfl, h0, r0⟩ := trodAll_cons hA
 obtain ⟨v1, vs1, d1, ds1, p1, q1, rfl, rfl, rfl, h1, r1⟩ := trodAll_cons r0
 obtain ⟨v2, vs2, d2, ds2, p2, q2, rfl, rfl, rfl, h2, r2⟩ := trodAll_cons r1
 obtain ⟨v3, vs3, d3, ds3, p3, q3, rfl, rfl, rfl, h3, r3⟩ := trodAll_cons r2
 obtain ⟨rfl, rfl, rfl⟩ := trodAll_nil r3
 obtain rfl : args = #[v0, v1, v2, v3] := by cases args; simp_all
 obtain ⟨rfl, rfl⟩ := trodVars_none hV
 obtain ⟨a0, rfl, rfl, rfl, w0⟩ := open_int Tryz.underlying3 (hval 0 3 v0 rfl rfl) h0
 obtain ⟨a1, rfl, rfl, rfl, w1⟩ := open_int Tryz.underlying3 (hval 1 3 v1 rfl rfl) h1
 obtain ⟨a2, len2, cap2, rfl⟩ := okWide_slice Tryz.underlying22 (hval 2 22 v2 rfl rfl)
 have k2 := h2
 have lt2 : ∀ x ∈ p2, x.block < W.heap.size := by obtain ⟨m, hm⟩ := k2; exact DataW.trod_lt m _ _ _ hm
 obtain ⟨z2, b2, e2, l2, c2⟩ : ∃ zs, Nt W a2 zs ∧ zs.length = len2 ∧ len2 ≤ cap2 ∧ cap2 ≤ 9223372036854775807 := by
  obtain ⟨fuel, hf⟩ := h2
  rcases open_ints Tryz.underlying22 Tryz.underlying3 (by kernel_rfl) hf with ⟨hcs, _⟩ | ⟨x, l, c, zs, hcs, _, hl, hm, hz, hx, hcell, hwz⟩
  ·simp [Value.cells] at hcs
   obtain ⟨rfl, rfl, rfl⟩ := hcs
   exact ⟨[], Nt.zero W _, rfl, Nat.le_refl _, by omega⟩
  ·simp [Value.cells] at hcs
   obtain ⟨rfl, rfl, rfl⟩ := hcs
   have hz' : zs.length = cap2 := by simpa using hz
   exact ⟨_, nt_of_row hl hz' hcell, by rw [List.length_take]; omega, hl, by unfold maxLen at hm; omega⟩
 obtain ⟨a3, len3, cap3, rfl⟩ := okWide_slice Tryz.underlying23 (hval 3 23 v3 rfl rfl)
 have k3 := h3
 have lt3 : ∀ x ∈ p3, x.block < W.heap.size := by obtain ⟨m, hm⟩ := k3; exact DataW.trod_lt m _ _ _ hm
 obtain ⟨z3, b3, e3, l3, c3⟩ : ∃ L, Opl W a3 L ∧ L.length = len3 ∧ len3 ≤ cap3 ∧ cap3 ≤ 9223372036854775807 := by
  obtain ⟨fuel, hf⟩ := h3
  exact ops_open (by simpa [Value.cells] using hf)
 clear hA0 hval0
 refine (poolOwns_walk a0 a1 a2 len2 cap2 z2 a3 len3 cap3 z3 W b2 e2 b3 e3 (of_laid12 hL)).mono fun e W' ⟨he, hg⟩ => ?_
 subst he
 have bel := below_of hg
 exact ⟨_, rfl, _, _, _, [], _, [], hW', trodAll_mk1 (shut_bool Tryz.underlying4 _), (trodAll_cons_mk (shut_int Tryz.underlying3 w0) (trodAll_cons_mk (shut_int Tryz.underlying3 w1) (trodAll_cons_mk (Below.trod laidOut (by kernel_rfl) (of_decide_eq_true (by kernel_rfl)) k2 bel lt2) (trodAll_cons_mk (Below.trod laidOut (by kernel_rfl) (of_decide_eq_true (by kernel_rfl)) k3 bel lt3) trodAll_mk0)))), rfl, bel.frame _, fun h => by cases h⟩
theorem over : Rows.poolOwnsRow.holds Tryz.pinned (OpenSpec.ofChange Rows.poolOwnsSpec) :=
 OpenClaim.holds_of_wide 3 Tryz.f3 rfl rfl rfl rfl rfl rfl rfl ⟨rfl, rfl, rfl, rfl, rfl⟩ rfl rfl rfl rfl rfl (by kernel_rfl) Tryz.func3 (by kernel_rfl)
  (of_decide_eq_true (by kernel_rfl)) (by unfold Func.isWrapper; first | (rw [if_pos (by decide +kernel)]; kernel_rfl) | (rw [if_neg (by decide +kernel)]; exact ⟨rfl, rfl⟩))
  (fun os started H enc _ => lifted os started H enc)
end Go.Proofs.YtcfmkpgfeodhaaaGreatDoor.poolOwns
namespace Go.Proofs.YtcfmkpgfeodhaaaGreatDoor
open Go
theorem poolOwns_card : Rows.PoolOwnsCardSaid :=
 Claim7.holds_tied_plain_at .later [] [.data, .data, .data] true (true, "69cf2cda699803b89c9898c9f1d80b45d4362c3e6fb57246151dac3add42da24") false
  poolOwns.over (fun _ h => by cases h) (by kernel_rfl) (fun _ h => by cases h) poolOwns_row_tie rfl ⟨rfl, rfl⟩ (by kernel_rfl) rfl
  (fun f fn hf hfn => by
   obtain rfl : f = 3 := Option.some.inj ((show Tryz.prog.funcNamed "coppice/coppicelaw17.PoolOwns" = some 3 by kernel_rfl).symm.trans hf) |>.symm
   obtain rfl : fn = Tryz.f3 := (Option.some.inj (Tryz.func3.symm.trans hfn)).symm
   exact ⟨by kernel_rfl, fun j t ht => by
    rw [Tryz.params3] at ht
    have hm : t ∈ [3, 3, 22, 23] := by simpa using Array.mem_of_getElem? ht
    have hall : ([3, 3, 22, 23].all fun u => !Tryz.prog.wantsStandIn u) = true := by kernel_rfl
    exact (show Tryz.prog.wantsStandIn t = false by simpa using List.all_eq_true.1 hall t hm)⟩)
  (by kernel_rfl)
#print axioms poolOwns_card
end Go.Proofs.YtcfmkpgfeodhaaaGreatDoor
