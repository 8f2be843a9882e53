import Derived.Test.YtmicongcnpbkkaaQ18
import Derived.Test.YtmicongcnpbkkaaQ20
import Derived.Test.YtmicongcnpbkkaaQ22
import Derived.WalkKit
import Derived.ProofKit
import Derived.OpenShut
import Derived.ShutString
import Derived.ChangeOld
import Derived.Below
import Derived.SizedLaws
import Derived.Deep.Slices
import Derived.Test.YtmicongcnpbkkaaRows
namespace Go.Proofs.Ytmicongcnpbkkaa
open Go.RowKit
theorem size_subs {M L : List It} (h : M.Sublist L) : size M ≤ size L ∧ (M.length < L.length → size M < size L) := by
 refine ⟨?_, size_sub h⟩
 by_cases e : M.length < L.length
 ·exact Nat.le_of_lt (size_sub h e)
 ·rw [h.eq_of_length (by have := h.length_le; omega)]
  exact Nat.le_refl _
set_option maxHeartbeats 4000000 in
set_option maxRecDepth 100000 in
theorem cutSmaller_walk (a : Option Addr) (n cap : Nat) (L : List It) (a1 : Option Addr) (n1 cap1 : Nat) (K : List (List Int)) (bo : Option Addr) (m d : Nat) (w : World) (hl : Il w a L) (hn : L.length = n) (ha0 : a = none → cap = 0) (hs : ∀ x ∈ L, x.key.length ≤ 140737488351232)
  (hk : Lz w a1 K) (hn1 : K.length = n1) (hc1 : n1 ≤ cap1) (hc2 : cap1 ≤ 9223372036854775807) (hs1 : ∀ x ∈ K, x.length ≤ 140737488351232) (hb : Bls w bo m) (hmd : m ≤ d) (hdm : d ≤ 9223372036854775807) :
  Calls Try.prog 7 #[.slice a n cap, .slice a1 n1 cap1, .slice bo m d] w fun en w' => en = .returned (.bool true) ∧ w.grownBy w' none := by
 obtain ⟨i0, hi, hz0, hz1, hz2⟩ := info_parts info_item
 obtain ⟨j0, hj, hy0, hy1, hy2⟩ := info_parts info_bytesS
 have HL := hid_intro hl
 have HZ := hid_intro hk
 have HB := hid_intro hb
 have HKL := hid_intro hs
 have HKK := hid_intro hs1
 clear hl hk hb hs hs1
 go_enter Try.func7, Try.ntmps7
 go_wp2_with fail
 refine (first9_any _).mono ?_
 rintro en w1 ⟨rfl, hg1⟩
 have G2 := hid_intro hg1
 clear hg1
 by_cases hm0 : 400 < n
 ·go_wp2
  go_ret
  exact ⟨rfl, G2.out⟩
 ·by_cases hm1 : 400 < n1
  ·go_wp2
   go_ret
   exact ⟨rfl, G2.out⟩
  ·go_wp2
   go_loopw [8, 9] (fun sl si wr => ∃ (i : Nat) (M : List It) (xs : List Value), i ≤ n ∧ si = .int .i64 i ∧ M.Sublist (L.take i) ∧ M.length ≤ i ∧ Iw w xs M ∧ wr.ownsRow w.heap.size 38 4 sl M.length xs ∧ w.grownBy wr none) (fun _ si _ => n - (intOf si).toNat)
   case atStart => exact ⟨0, [], [], Nat.zero_le _, rfl, List.nil_sublist _, Nat.le_refl _, Iw.nil _, ⟨rfl, .inl ⟨rfl, rfl⟩⟩, G2.out⟩
   case round =>
    obtain ⟨i, M, xs, hi', rfl, hsub, hml, hiw, hown, hg⟩ := hrel
    have HS := hid_intro hsub
    have HI := hid_intro hiw
    have HO := hid_intro hown
    have HG := hid_intro hg
    clear hsub hiw hown hg G2
    by_cases hlt : i < n
    ·obtain ⟨b, off, ao, k, c, bo', m2, d2, rfl, q2, q3, q4, q5, q6, q7, q8, q9, q10, q11⟩ := HL.out.row i (by omega)
     have c0 := HG.out.cell q2 (by simp)
     have c1 := HG.out.cell q3 (by simp)
     have c2 := HG.out.cell q4 (by simp)
     have c3 := HG.out.cell q5 (by simp)
     have HX := hid_intro (HI.out.snoc q6 q7 q8 q9 q10 q11 _ _ rfl rfl)
     have HSI := hid_intro (sub_in HS.out (by omega))
     have HSO := hid_intro (sub_out HS.out)
     have hsz := HG.out.size
     clear q2 q3 q4 q5 q6 q9 HS
     generalize (L.getD i it0).size = sz at *
     generalize (L.getD i it0).first = fs at *
     generalize L.getD i it0 = x at *
     by_cases hin : i < m
     ·obtain ⟨b', off', v, rfl, hv⟩ := HB.out.row i hin
      have cv := HG.out.cell hv (by simp)
      clear hv
      cases v with
      | false =>
       go_wp2_with (at_builtin; refine wpList_append_own _ rfl _ _ 24 rfl w.heap.size 38 i0 (.agg #[.slice none 0 0, .slice none 0 0, .int .i64 0, .int .i64 0]) 4 64 Try.underlying24 hi hz0 hz1 hz2 rfl (by decide) _ M.length xs rfl (HO.out.alloc _) ⟨wr.heap.size, 0, none⟩ 1 1 [.slice ao k c, .slice bo' m2 d2, .int .i64 sz, .int .i64 fs] rfl rfl (cell_four_new _ _ _ _ _ _) (by intro u hu; simp at hu; rcases hu with rfl | rfl | rfl | rfl <;> rfl) (by unfold maxLen; omega) (by omega) (by simp; omega) ?_)
       intro v' w10 ho hg10 _
       have HO1 := hid_intro ho
       have HG1 := hid_intro (grown_app9 HG.out HO.out (Nat.le_refl _) hg10)
       clear ho hg10 HO HG c0 c1 c2 c3 cv
       go_wp2
       go_roundw
       case rel => exact ⟨i + 1, M ++ [x], _, by omega, by go_num, HSI.out, by simp; omega, HX.out, by rw [List.length_append]; exact HO1.out, HG1.out⟩
       case measure => simp [intOf]; omega
      | true =>
       go_wp2
       go_roundw
       case rel => exact ⟨i + 1, M, xs, by omega, by go_num, HSO.out, by omega, HI.out, HO.out, HG.out⟩
       case measure => simp [intOf]; omega
     ·go_wp2_with (at_builtin; refine wpList_append_own _ rfl _ _ 24 rfl w.heap.size 38 i0 (.agg #[.slice none 0 0, .slice none 0 0, .int .i64 0, .int .i64 0]) 4 64 Try.underlying24 hi hz0 hz1 hz2 rfl (by decide) _ M.length xs rfl (HO.out.alloc _) ⟨wr.heap.size, 0, none⟩ 1 1 [.slice ao k c, .slice bo' m2 d2, .int .i64 sz, .int .i64 fs] rfl rfl (cell_four_new _ _ _ _ _ _) (by intro u hu; simp at hu; rcases hu with rfl | rfl | rfl | rfl <;> rfl) (by unfold maxLen; omega) (by omega) (by simp; omega) ?_)
      intro v' w10 ho hg10 _
      have HO1 := hid_intro ho
      have HG1 := hid_intro (grown_app9 HG.out HO.out (Nat.le_refl _) hg10)
      clear ho hg10 HO HG c0 c1 c2 c3
      go_wp2
      go_roundw
      case rel => exact ⟨i + 1, M ++ [x], _, by omega, by go_num, HSI.out, by simp; omega, HX.out, by rw [List.length_append]; exact HO1.out, HG1.out⟩
      case measure => simp [intOf]; omega
    ·have hin : i = n := by omega
     subst hin
     obtain ⟨a2, cap2, e1, e2, e3⟩ := HI.out.il HG.out HO.out
     have hnil2 : a2 = none → cap2 = 0 := by
      intro e
      rcases HO.out.2 with ⟨k1, k2⟩ | ⟨g, cp, cur, k1, _⟩
      ·rw [k1] at e1
       simp only [Value.slice.injEq] at e1
       omega
      ·rw [k1, e] at e1
       simp at e1
     subst e1
     have HM := hid_intro e2
     have hsub : M.Sublist L := by
      have := HS.out
      rwa [← hn, List.take_length] at this
     have HSS := hid_intro (size_subs hsub)
     have HKM : Hid (∀ x ∈ M, x.key.length ≤ 140737488351232) := fun x hx => HKL.out x (hsub.subset hx)
     have hMl : M.length ≤ i := hml
     clear e2 e3 hsub HS HI HO hi hz0 hz1 hz2
     obtain ⟨wa, hwa⟩ : ∃ wa, wa = wr := ⟨_, rfl⟩
     subst hwa
     go_wp2
     go_loopw [10, 11] (fun sl si wr => ∃ (j : Nat) (N : List (List Int)) (xs : List Value), j ≤ n1 ∧ si = .int .i64 j ∧ N.Sublist (K.take j) ∧ N.length ≤ j ∧ Sw wa xs N ∧ wr.ownsRow wa.heap.size 32 1 sl N.length xs ∧ wa.grownBy wr none) (fun _ si _ => n1 - (intOf si).toNat)
     case atStart => exact ⟨0, [], [], Nat.zero_le _, rfl, List.nil_sublist _, Nat.le_refl _, Sw.nil _, ⟨rfl, .inl ⟨rfl, rfl⟩⟩, World.grownBy.refl _ _⟩
     case round =>
      obtain ⟨j, N, ys, hj', rfl, hsub, hml2, hiw, hown, hg⟩ := hrel
      have HS := hid_intro hsub
      have HI := hid_intro hiw
      have HO := hid_intro hown
      have HGW := hid_intro hg
      clear hsub hiw hown hg
      by_cases hlt : j < n1
      ·obtain ⟨b, off, ao, k, c, rfl, q2, q3, q4, q5⟩ := HZ.out.row j (by omega)
       have c0 := (grown_trans HG.out HGW.out).cell q2 (by simp)
       have HX := hid_intro (HI.out.snoc (q3.keptN HG.out) q4 q5)
       have HSI := hid_intro (lsub_in HS.out (by omega))
       have HSO := hid_intro (lsub_out HS.out)
       have hsz := HGW.out.size
       clear q2 q3 HS
       generalize K.getD j [] = x at *
       by_cases hin : j < m
       ·obtain ⟨b', off', v, rfl, hv⟩ := HB.out.row j hin
        have cv := (grown_trans HG.out HGW.out).cell hv (by simp)
        clear hv
        cases v with
        | false =>
         go_wp2_with (at_builtin; refine wpList_append_own _ rfl _ _ 28 rfl wa.heap.size 32 j0 (.slice none 0 0) 1 24 Try.underlying28 hj hy0 hy1 hy2 rfl (by decide) _ N.length ys rfl (HO.out.alloc _) ⟨wr.heap.size, 0, none⟩ 1 1 [.slice ao k c] rfl rfl (cell_one_new _ _ _) (by intro u hu; simp at hu; subst hu; rfl) (by unfold maxLen; omega) (by omega) (by simp; omega) ?_)
         intro v' w10 ho hg10 _
         have HO1 := hid_intro ho
         have HG1 := hid_intro (grown_app9 HGW.out HO.out (Nat.le_refl _) hg10)
         clear ho hg10 HO HGW c0 cv
         go_wp2
         go_roundw
         case rel => exact ⟨j + 1, N ++ [x], _, by omega, by go_num, HSI.out, by simp; omega, HX.out, by rw [List.length_append]; exact HO1.out, HG1.out⟩
         case measure => simp [intOf]; omega
        | true =>
         go_wp2
         go_roundw
         case rel => exact ⟨j + 1, N, ys, by omega, by go_num, HSO.out, by omega, HI.out, HO.out, HGW.out⟩
         case measure => simp [intOf]; omega
       ·go_wp2_with (at_builtin; refine wpList_append_own _ rfl _ _ 28 rfl wa.heap.size 32 j0 (.slice none 0 0) 1 24 Try.underlying28 hj hy0 hy1 hy2 rfl (by decide) _ N.length ys rfl (HO.out.alloc _) ⟨wr.heap.size, 0, none⟩ 1 1 [.slice ao k c] rfl rfl (cell_one_new _ _ _) (by intro u hu; simp at hu; subst hu; rfl) (by unfold maxLen; omega) (by omega) (by simp; omega) ?_)
        intro v' w10 ho hg10 _
        have HO1 := hid_intro ho
        have HG1 := hid_intro (grown_app9 HGW.out HO.out (Nat.le_refl _) hg10)
        clear ho hg10 HO HGW c0
        go_wp2
        go_roundw
        case rel => exact ⟨j + 1, N ++ [x], _, by omega, by go_num, HSI.out, by simp; omega, HX.out, by rw [List.length_append]; exact HO1.out, HG1.out⟩
        case measure => simp [intOf]; omega
      ·have hin : j = n1 := by omega
       subst hin
       obtain ⟨a3, cap3, e1, e2, e3, e4, e5⟩ := HI.out.lz HGW.out HO.out
       subst e1
       have HN := hid_intro e2
       have hsub : N.Sublist K := by
        have := HS.out
        rwa [← hn1, List.take_length] at this
       have HSN := hid_intro (fun h => bsize_sub hsub h)
       have HKN : Hid (∀ x ∈ N, x.length ≤ 140737488351232) := fun x hx => HKK.out x (hsub.subset hx)
       have HGF := hid_intro (grown_trans HG.out HGW.out)
       have HM2 := hid_intro (HM.out.keptN HGW.out)
       clear e2 e3 hsub HS HI HO HG HGW HM hj hy0 hy1 hy2
       go_wp2_with fail
       refine (size_any a i cap L _ (HL.out.keptN HGF.out) hn (by omega) HKL.out).mono ?_
       rintro en w5 ⟨rfl, hg5⟩
       have G5 := hid_intro (grown_trans HGF.out hg5)
       have M5 := hid_intro (HM2.out.keptN hg5)
       have N5 := hid_intro (HN.out.keptN hg5)
       clear hg5 HGF HM2 HN
       go_wp2_with fail
       refine (size_any a2 M.length cap2 M _ M5.out rfl (by omega) HKM.out).mono ?_
       rintro en w6 ⟨rfl, hg6⟩
       have G6 := hid_intro (grown_trans G5.out hg6)
       have M6 := hid_intro (M5.out.keptN hg6)
       have N6 := hid_intro (N5.out.keptN hg6)
       clear hg6 G5 M5 N5
       go_wp2_with fail
       refine (bsize_any a1 j cap1 K _ (HZ.out.keptN G6.out) hn1 (by omega) hc1 hc2 HKK.out).mono ?_
       rintro en w7 ⟨rfl, hg7⟩
       have G7 := hid_intro (grown_trans G6.out hg7)
       have M7 := hid_intro (M6.out.keptN hg7)
       have N7 := hid_intro (N6.out.keptN hg7)
       clear hg7 G6 M6 N6
       go_wp2_with fail
       refine (bsize_any a3 N.length cap3 N _ N7.out rfl (by omega) e4 e5 HKN.out).mono ?_
       rintro en w8 ⟨rfl, hg8⟩
       have G8 := hid_intro (grown_trans G7.out hg8)
       have M8 := hid_intro (M7.out.keptN hg8)
       clear hg8 G7 M7 N7
       have HJ1 := hid_intro (fun (W : World) (h : w.grownBy W none) => joinLeaves_any a i cap L none 0 0 [] W (HL.out.keptN h) hn ha0 (Il.zero _ _) rfl (fun _ => rfl) (by omega) (by rw [List.append_nil]; exact HKL.out))
       have HJ2 := hid_intro (fun (W : World) (h : Il W a2 M) => joinLeaves_any a2 M.length cap2 M none 0 0 [] W h rfl hnil2 (Il.zero _ _) rfl (fun _ => rfl) (by omega) (by rw [List.append_nil]; exact HKM.out))
       rw [List.append_nil] at HJ1 HJ2
       have hSS1 := HSS.out.1
       have hSS2 := HSS.out.2
       have hSN := HSN.out
       clear HSS HSN
       rw [hn] at hSS2
       rw [hn1] at hSN
       generalize size L = s1 at *
       generalize size M = s2 at *
       generalize bsize K = t1 at *
       generalize bsize N = t2 at *
       by_cases hx : M.length < i
       ·have hlt1 := hSS2 hx
        by_cases hy : N.length < j
        ·have hlt2 := hSN hy
         go_wp2_with fail
         refine (HJ1.out _ G8.out).mono ?_
         rintro en w9 ⟨rfl, hg9⟩
         have G9 := hid_intro (grown_trans G8.out hg9)
         have M9 := hid_intro (M8.out.keptN hg9)
         clear hg9 G8 M8 HJ1
         go_wp2_with fail
         refine (HJ2.out _ M9.out).mono ?_
         rintro en w11 ⟨rfl, hg11⟩
         have G11 := hid_intro (grown_trans G9.out hg11)
         clear hg11 G9 M9 HJ2
         by_cases h3 : s1 ≤ 3000
         ·have d1 : decide (s1 ≤ 3000) = true := decide_eq_true h3
          have d2 : decide (s2 ≤ 3000) = true := decide_eq_true (by omega)
          rw [d1, d2]
          clear d1 d2
          go_wp2
          go_ret
          exact ⟨rfl, G11.out⟩
         ·have d1 : decide (s1 ≤ 3000) = false := decide_eq_false h3
          rw [d1]
          clear d1
          go_wp2
          go_ret
          exact ⟨rfl, G11.out⟩
        ·go_wp2_with fail
         refine (HJ1.out _ G8.out).mono ?_
         rintro en w9 ⟨rfl, hg9⟩
         have G9 := hid_intro (grown_trans G8.out hg9)
         have M9 := hid_intro (M8.out.keptN hg9)
         clear hg9 G8 M8 HJ1
         go_wp2_with fail
         refine (HJ2.out _ M9.out).mono ?_
         rintro en w11 ⟨rfl, hg11⟩
         have G11 := hid_intro (grown_trans G9.out hg11)
         clear hg11 G9 M9 HJ2
         by_cases h3 : s1 ≤ 3000
         ·have d1 : decide (s1 ≤ 3000) = true := decide_eq_true h3
          have d2 : decide (s2 ≤ 3000) = true := decide_eq_true (by omega)
          rw [d1, d2]
          clear d1 d2
          go_wp2
          go_ret
          exact ⟨rfl, G11.out⟩
         ·have d1 : decide (s1 ≤ 3000) = false := decide_eq_false h3
          rw [d1]
          clear d1
          go_wp2
          go_ret
          exact ⟨rfl, G11.out⟩
       ·by_cases hy : N.length < j
        ·have hlt2 := hSN hy
         go_wp2_with fail
         refine (HJ1.out _ G8.out).mono ?_
         rintro en w9 ⟨rfl, hg9⟩
         have G9 := hid_intro (grown_trans G8.out hg9)
         have M9 := hid_intro (M8.out.keptN hg9)
         clear hg9 G8 M8 HJ1
         go_wp2_with fail
         refine (HJ2.out _ M9.out).mono ?_
         rintro en w11 ⟨rfl, hg11⟩
         have G11 := hid_intro (grown_trans G9.out hg11)
         clear hg11 G9 M9 HJ2
         by_cases h3 : s1 ≤ 3000
         ·have d1 : decide (s1 ≤ 3000) = true := decide_eq_true h3
          have d2 : decide (s2 ≤ 3000) = true := decide_eq_true (by omega)
          rw [d1, d2]
          clear d1 d2
          go_wp2
          go_ret
          exact ⟨rfl, G11.out⟩
         ·have d1 : decide (s1 ≤ 3000) = false := decide_eq_false h3
          rw [d1]
          clear d1
          go_wp2
          go_ret
          exact ⟨rfl, G11.out⟩
        ·go_wp2_with fail
         refine (HJ1.out _ G8.out).mono ?_
         rintro en w9 ⟨rfl, hg9⟩
         have G9 := hid_intro (grown_trans G8.out hg9)
         have M9 := hid_intro (M8.out.keptN hg9)
         clear hg9 G8 M8 HJ1
         go_wp2_with fail
         refine (HJ2.out _ M9.out).mono ?_
         rintro en w11 ⟨rfl, hg11⟩
         have G11 := hid_intro (grown_trans G9.out hg11)
         clear hg11 G9 M9 HJ2
         by_cases h3 : s1 ≤ 3000
         ·have d1 : decide (s1 ≤ 3000) = true := decide_eq_true h3
          have d2 : decide (s2 ≤ 3000) = true := decide_eq_true (by omega)
          rw [d1, d2]
          clear d1 d2
          go_wp2
          go_ret
          exact ⟨rfl, G11.out⟩
         ·have d1 : decide (s1 ≤ 3000) = false := decide_eq_false h3
          rw [d1]
          clear d1
          go_wp2
          go_ret
          exact ⟨rfl, G11.out⟩
end Go.Proofs.Ytmicongcnpbkkaa
namespace Go.Proofs.Ytmicongcnpbkkaa.cutSmaller
open Go.ChangeShapes Go.WideShapes Go.ChangeAt Go.WideMaps Go.WideElems Go.RowKit Go.Deep
open Go.ChangeMaps (open_string shut_string)
theorem own : ownKnob Try.prog.godebug = none := by kernel_rfl
theorem laidOut : laidOutB Try.prog = true := by kernel_rfl
theorem bytes_u8 : Try.prog.bytesOf 5 = 1 := by kernel_rfl
set_option linter.unusedVariables false
set_option maxRecDepth 100000 in
theorem lifted (os : Os) (started : os.Started) (H : Type) (enc : TypeId × Value → H) :
  ReturnsInHanded {} Try.checked os 7 .any (Rows.cutSmallerSpec.pre6 enc Try.prog Try.f7 Rows.cutSmallerRow.domain false) (Rows.cutSmallerSpec.post enc Try.prog Try.f7 false true false false) := by
 refine returnsInHanded_of_change_sized (C := Try.checked) own started (by kernel_rfl) Try.func7
  (ChangeSpec.witness6 (enc := enc) (C := Try.checked) false ⟨#[], #[.slice none 0 0, .slice none 0 0, .slice none 0 0], []⟩ 8 (by kernel_rfl) (by kernel_rfl) (by kernel_rfl) (by kernel_rfl)) ?_
 intro W base args ds gs before hval0 hW hcnd hsz0 _
 have hval : ∀ (j : Nat) t v, Try.f7.params[j]? = some t → args[j]? = some v → Value.okWide Try.prog W .any base t v := hval0
 have hsz : (DataW.weightsEach Try.prog (Try.f7.params.toList ++ Rows.cutSmallerSpec.plain.varTypes Try.prog) (ds ++ gs)).all (· ≤ reachBytes) = true := hsz0
 clear hsz0
 have hW' := hW
 obtain ⟨p, q, hA0, hV, rfl, hfz, hnd⟩ := hW
 have hA : DataW.TrodAll enc Try.prog W 0 (fun _ => true) true Try.f7.params.toList args.toList ds p := hA0
 rw [Try.params7] at hA hval hsz
 obtain ⟨v0, vs0, d0, ds0, p0, q0, hargs, rfl, rfl, h0, r0⟩ := trodAll_cons hA
 obtain ⟨v1, vs1, d1, ds1, p1, q1, rfl, rfl, rfl, h1, r1⟩ := trodAll_cons r0
 obtain ⟨v2, vs2, d2, ds2, p2, q2, rfl, rfl, rfl, h2, r2⟩ := trodAll_cons r1
 obtain ⟨rfl, rfl, rfl⟩ := trodAll_nil r2
 obtain rfl : args = #[v0, v1, v2] := by cases args; simp_all
 obtain ⟨rfl, rfl⟩ := trodVars_none hV
 obtain ⟨a0, len0, cap0, rfl⟩ := okWide_slice Try.underlying24 (hval 0 24 v0 rfl rfl)
 have k0 := h0
 have lt0 : ∀ x ∈ p0, x.block < W.heap.size := by obtain ⟨m, hm⟩ := k0; exact DataW.trod_lt m _ _ _ hm
 obtain ⟨z0, b0, t0, e0, l0, c0, n0, s0⟩ : ∃ L, Il W a0 L ∧ Ib L ∧ L.length = len0 ∧ len0 ≤ cap0 ∧ cap0 ≤ 9223372036854775807 ∧ (a0 = none → cap0 = 0) ∧ (∀ x ∈ L, x.key.length ≤ 140737488351232 ∧ x.val.length ≤ 140737488351232) := by
  obtain ⟨fuel, hf⟩ := h0
  exact items_open9 (by simpa [Value.cells] using hf) (Wt9.of hsz (j := 0) rfl rfl)
 obtain ⟨a1, len1, cap1, rfl⟩ := okWide_slice Try.underlying28 (hval 1 28 v1 rfl rfl)
 have k1 := h1
 have lt1 : ∀ x ∈ p1, x.block < W.heap.size := by obtain ⟨m, hm⟩ := k1; exact DataW.trod_lt m _ _ _ hm
 obtain ⟨z1, b1, t1, e1, l1, c1, n1, s1⟩ : ∃ L, Lz W a1 L ∧ Lb L ∧ L.length = len1 ∧ len1 ≤ cap1 ∧ cap1 ≤ 9223372036854775807 ∧ (a1 = none → cap1 = 0) ∧ (∀ x ∈ L, x.length ≤ 140737488351232) := by
  obtain ⟨fuel, hf⟩ := h1
  exact rows_open9 (by simpa [Value.cells] using hf) (Wt9.of hsz (j := 1) rfl rfl)
 obtain ⟨a2, len2, cap2, rfl⟩ := okWide_slice Try.underlying36 (hval 2 36 v2 rfl rfl)
 have k2 := h2
 have lt2 : ∀ x ∈ p2, x.block < W.heap.size := by obtain ⟨m, hm⟩ := k2; exact DataW.trod_lt m _ _ _ hm
 obtain ⟨b2, l2, c2⟩ : Bls W a2 len2 ∧ len2 ≤ cap2 ∧ cap2 ≤ 9223372036854775807 := by
  obtain ⟨fuel, hf⟩ := h2
  exact bools_open (by simpa [Value.cells] using hf)
 clear hA0 hval0
 refine (cutSmaller_walk a0 len0 cap0 z0 a1 len1 cap1 z1 a2 len2 cap2 W b0 e0 n0 (fun x hx => (s0 x hx).1) b1 e1 l1 c1 s1 b2 l2 c2).mono fun e W' ⟨he, hg⟩ => ?_
 subst he
 have bel := below_of hg
 exact ⟨_, rfl, _, _, _, [], _, [], hW', trodAll_mk1 (shut_bool Try.underlying4 _), (trodAll_cons_mk (Below.trod laidOut (by kernel_rfl) (of_decide_eq_true (by kernel_rfl)) k0 bel lt0) (trodAll_cons_mk (Below.trod laidOut (by kernel_rfl) (of_decide_eq_true (by kernel_rfl)) k1 bel lt1) (trodAll_cons_mk (Below.trod laidOut (by kernel_rfl) (of_decide_eq_true (by kernel_rfl)) k2 bel lt2) trodAll_mk0))), rfl, bel.frame _, fun h => by cases h⟩
theorem over : Rows.cutSmallerRow.holds Try.pinned (OpenSpec.ofChange Rows.cutSmallerSpec) :=
 OpenClaim.holds_of_wide 7 Try.f7 rfl rfl rfl rfl rfl rfl rfl ⟨rfl, rfl, rfl, rfl, rfl⟩ rfl rfl rfl rfl rfl (by kernel_rfl) Try.func7 (by kernel_rfl)
  (of_decide_eq_true (by kernel_rfl)) (by unfold Func.isWrapper; first | (rw [if_pos (by decide +kernel)]; kernel_rfl) | (rw [if_neg (by decide +kernel)]; exact ⟨rfl, rfl⟩))
  (fun os started H enc _ => lifted os started H enc)
end Go.Proofs.Ytmicongcnpbkkaa.cutSmaller
namespace Go.Proofs.Ytmicongcnpbkkaa
theorem cutSmaller_holds : Rows.CutSmallerSaid := cutSmaller.over
#print axioms cutSmaller_holds
end Go.Proofs.Ytmicongcnpbkkaa
