import Derived.Test.YtmicongcnpbkkabQ9
import Derived.Test.YtmicongcnpbkkabQ14
import Derived.Test.YtmicongcnpbkkabQ18
import Derived.Test.YtmicongcnpbkkabQ11
import Derived.Test.YtmicongcnpbkkabQ20
import Derived.Test.YtmicongcnpbkkabQ5
import Derived.Test.YtmicongcnpbkkabQ21
import Derived.WalkKit
import Derived.ProofKit
import Derived.OpenShut
import Derived.ShutString
import Derived.ChangeOld
import Derived.Below
import Derived.SizedLaws
import Derived.Deep.Slices
import Derived.Test.YtmicongcnpbkkabRows
namespace Go.Proofs.Ytmicongcnpbkkab
open Go.RowKit
def Layb (K : List (List Int)) (s : List Int) (i : Nat) (M : List (List Int)) (dn : Bool) : Prop :=
 (dn = false ∧ M = K.take i) ∨ (dn = true ∧ ∃ A B, M = A ++ s :: B ∧ A ++ B = K.take i)
theorem Layb.plain {K : List (List Int)} {s : List Int} {i : Nat} {M : List (List Int)} (h : Layb K s i M false) (hi : i < K.length) : Layb K s (i + 1) (M ++ [K.getD i []]) false := by
 rcases h with ⟨_, rfl⟩ | ⟨e, _⟩
 ·exact .inl ⟨rfl, (ltake_snoc9 hi).symm⟩
 ·cases e
theorem Layb.both {K : List (List Int)} {s : List Int} {i : Nat} {M : List (List Int)} (h : Layb K s i M false) (hi : i < K.length) : Layb K s (i + 1) (M ++ [s] ++ [K.getD i []]) true := by
 rcases h with ⟨_, rfl⟩ | ⟨e, _⟩
 ·exact .inr ⟨rfl, K.take i, [K.getD i []], by simp, (ltake_snoc9 hi).symm⟩
 ·cases e
theorem Layb.behind {K : List (List Int)} {s : List Int} {i : Nat} {M : List (List Int)} (h : Layb K s i M true) (hi : i < K.length) : Layb K s (i + 1) (M ++ [K.getD i []]) true := by
 rcases h with ⟨e, _⟩ | ⟨_, A, B, rfl, h2⟩
 ·cases e
 ·exact .inr ⟨rfl, A, B ++ [K.getD i []], by simp, by rw [ltake_snoc9 hi, ← h2, List.append_assoc]⟩
theorem Layb.len {K : List (List Int)} {s : List Int} {i : Nat} {M : List (List Int)} {dn : Bool} (h : Layb K s i M dn) : M.length ≤ i + 1 ∧ (dn = false → M.length ≤ i) := by
 rcases h with ⟨_, rfl⟩ | ⟨e, A, B, rfl, h2⟩
 ·rw [List.length_take]
  exact ⟨by omega, fun _ => by omega⟩
 ·have := congrArg List.length h2
  rw [List.length_take, List.length_append] at this
  refine ⟨by simp; omega, fun e2 => ?_⟩
  rw [e] at e2
  cases e2
def Laidb (K : List (List Int)) (s : List Int) (M : List (List Int)) : Prop := ∃ A B, M = A ++ s :: B ∧ A ++ B = K
theorem Layb.done {K : List (List Int)} {s : List Int} {M : List (List Int)} (h : Layb K s K.length M true) : Laidb K s M := by
 rcases h with ⟨e, _⟩ | ⟨_, A, B, h1, h2⟩
 ·cases e
 ·exact ⟨A, B, h1, by rwa [List.take_length] at h2⟩
theorem Layb.last {K : List (List Int)} {s : List Int} {M : List (List Int)} (h : Layb K s K.length M false) : Laidb K s (M ++ [s]) := by
 rcases h with ⟨_, h1⟩ | ⟨e, _⟩
 ·rw [List.take_length] at h1
  subst h1
  exact ⟨M, [], rfl, List.append_nil _⟩
 ·cases e
theorem Laidb.mem {K : List (List Int)} {s : List Int} {M : List (List Int)} (h : Laidb K s M) {z : List Int} (hz : z ∈ M) : z = s ∨ z ∈ K := by
 obtain ⟨A, B, rfl, rfl⟩ := h
 rcases List.mem_append.1 hz with hz | hz
 ·exact .inr (List.mem_append_left _ hz)
 ·rcases List.mem_cons.1 hz with rfl | hz
  ·exact .inl rfl
  ·exact .inr (List.mem_append_right _ hz)
theorem Laidb.len {K : List (List Int)} {s : List Int} {M : List (List Int)} (h : Laidb K s M) : M.length = K.length + 1 := by
 obtain ⟨A, B, rfl, rfl⟩ := h
 simp
 omega
theorem split9 (M : List (List Int)) {q : Nat} (hq : q < M.length) : M.take q ++ ([M.getD q []] ++ M.drop (q + 1)) = M := by
 have e : M.getD q [] = M[q] := by simp [List.getD, List.getElem?_eq_getElem hq]
 rw [e, List.singleton_append, List.getElem_cons_drop hq, List.take_append_drop]
theorem own_heap9 {w w' : World} {base n sz : Nat} {v : Value} {xs : List Value} {t : TypeId} (h : w.ownsRow base t sz v n xs) (e : w'.heap = w.heap) : w'.ownsRow base t sz v n xs := by
 unfold World.ownsRow at *
 rw [e]
 exact h
set_option maxHeartbeats 8000000 in
set_option maxRecDepth 100000 in
theorem cutBranchesAlways_walk (a : Option Addr) (n cap : Nat) (K : List (List Int)) (so : Option Addr) (sn sc : Nat) (s : List Int) (w : World) (hl : Lz w a K) (hn : K.length = n) (_hc1 : n ≤ cap) (_hc2 : cap ≤ 9223372036854775807) (hks : ∀ z ∈ K, z.length ≤ 140737488351232) (hS : Byt w so sn sc s) (hs1 : sn ≤ sc) (hs2 : sc ≤ 140737488351232) :
  Calls Try.prog 3 #[.slice a n cap, .slice so sn sc] w fun en w' => en = .returned (.bool true) ∧ w.grownBy w' none := by
 obtain ⟨j0, hj, hy0, hy1, hy2⟩ := info_parts info_bytesS
 have HL := hid_intro hl
 have HS := hid_intro hS
 have HK := hid_intro hks
 have hsl := hS.len
 clear hl hS hks
 go_enter Try.func3, Try.ntmps3
 go_wp2_with fail
 refine (first9_any _).mono ?_
 rintro en w1 ⟨rfl, hg1⟩
 have HG1 := hid_intro hg1
 clear hg1
 go_wp2_with fail
 refine (refValid_any so sn sc _).mono ?_
 rintro en w2 ⟨rfl, rfl⟩
 by_cases hm : 400 < n
 ·go_wp2
  go_ret
  exact ⟨rfl, HG1.out⟩
 ·cases hv : valid sn with
  | false =>
   go_wp2
   go_ret
   exact ⟨rfl, HG1.out⟩
  | true =>
   have hsn : sn ≤ 255 := by
    unfold valid at hv
    simp at hv
    omega
   clear hv
   go_wp2_with fail
   refine (refSize5_any a n cap K _ (HL.out.keptN HG1.out) hn (by omega) HK.out).mono ?_
   rintro en w3 ⟨rfl, hq3⟩
   have HG3 := hid_intro (grown_trans HG1.out (hq3.grown none))
   clear hq3 HG1
   obtain ⟨f, hf⟩ : ∃ f, bsize K = f := ⟨_, rfl⟩
   rw [hf]
   by_cases hbf : 4092 < f
   ·go_wp2
    go_ret
    exact ⟨rfl, HG3.out⟩
   ·go_wp2
    go_loopw [6, 7, 8, 9] (fun _ sl sd si wr => ∃ (i : Nat) (M : List (List Int)) (xs : List Value) (dn : Bool), i ≤ n ∧ si = .int .i64 i ∧ sd = .bool dn ∧ Layb K s i M dn ∧ (∀ j, j < i → (K.getD j []).length ≤ 255) ∧ Sw w xs M ∧ wr.ownsRow w.heap.size 23 1 sl M.length xs ∧ w.grownBy wr none) (fun _ _ _ si _ => n - (intOf si).toNat)
    case atStart => exact ⟨0, [], [], false, Nat.zero_le _, rfl, rfl, .inl ⟨rfl, by simp⟩, fun j hj => by omega, Sw.nil _, ⟨rfl, .inl ⟨rfl, rfl⟩⟩, HG3.out⟩
    case round =>
     obtain ⟨i, M, xs, dn, hi', rfl, rfl, hlay, hval, hiw, hown, hg⟩ := hrel
     have HLY := hid_intro hlay
     have HVA := hid_intro hval
     have HI := hid_intro hiw
     have HO := hid_intro hown
     have HG := hid_intro hg
     clear hlay hval hiw hown hg HG3
     by_cases hlt : i < n
     ·obtain ⟨b, off, ao, k, c, rfl, q2, q3, q4, q5⟩ := HL.out.row i (by omega)
      have c0 := HG.out.cell q2 (by simp)
      have HZ := hid_intro (q3.keptN HG.out)
      have hklen := q3.len
      have HQ2 := hid_intro q2
      have HQ3 := hid_intro q3
      have HV2 : Hid (valid k = true → ∀ j, j < i + 1 → (K.getD j []).length ≤ 255) := by
       intro hv j hj
       by_cases e : j < i
       ·exact HVA.out j e
       ·obtain rfl : j = i := by omega
        unfold valid at hv
        simp at hv
        omega
      clear q2 q3 HVA
      go_wp2_with fail
      refine (refValid_any ao k c _).mono ?_
      rintro en w4 ⟨rfl, rfl⟩
      have HC2 := hid_intro (fun (W : World) (h : W.heap = w4.heap) => refCompare_dr ao so k sn c sc (K.getD i []) s W (HZ.out.heap h) ((HS.out.keptN HG.out).heap h) (by omega) (by omega))
      cases hv : valid k with
      | false =>
       clear HC2 HV2
       go_wp2
       go_quiet (fail)
       go_wp2
       go_ret
       exact ⟨rfl, grown_trans HG.out ((Qt.drewN _ _).grown none)⟩
      | true =>
      have HV3 := hid_intro (HV2.out hv)
      clear hv HV2
      go_upto_region 11 with fail
      go_cut [69] from 31 to 92 (fun s69 wx => ∃ rb : Bool, s69 = .bool rb ∧ Qt w4 wx)
      case first =>
       generalize hz2 : cmpZ (K.getD i []) s = z2 at *
       clear hz2
       have g1 : (i : Int) < (n : Int) := by omega
       have g4 : (0 : Int) ≤ (i : Int) := by omega
       by_cases hi0 : i = 0
       ·have g6 : ¬ 0 < i := by omega
        have hd : decide (0 < i) = false := decide_eq_false g6
        have hd2 : decide ((0 : Int) < (i : Int)) = false := decide_eq_false (by omega)
        clear hi0
        go_quiet ((go_at_call 8; exact Calls.quiet_of (HC2.out _ rfl)))
        go_wp2_with fail
        go_meet
        exact ⟨_, rfl, Qt.drewN _ _⟩
       ·obtain ⟨p, hp⟩ : ∃ p : Nat, p + 1 = i := ⟨i - 1, by omega⟩
        obtain ⟨b1, off1, ao1, k1, cc1, e9, r2, r3, r4, r5⟩ := HL.out.row p (by omega)
        simp only [Option.some.injEq, Addr.mk.injEq] at e9
        obtain ⟨rfl, rfl, _⟩ := e9
        have x0 := HG.out.cell r2 (by simp)
        have HYp := hid_intro (r3.keptN HG.out)
        have HC1 := hid_intro (fun (W : World) (h : W.heap = w4.heap) => refCompare_dr ao1 ao k1 k cc1 c (K.getD p []) (K.getD i []) W (HYp.out.heap h) (HZ.out.heap h) (by omega) (by omega))
        clear r2 r3
        generalize hz1 : cmpZ (K.getD p []) (K.getD i []) = z1 at *
        clear hz1
        have e1 : (i : Int) - 1 = (p : Int) := by omega
        have v1 : IntKind.i64.wrap (p : Int) = (p : Int) := by rw [IntKind.wrap_i64]; omega
        have g0 : (0 : Int) < (i : Int) := by omega
        have g2 : (p : Int) < (n : Int) := by omega
        have g3 : (0 : Int) ≤ (p : Int) := by omega
        have g5 : p < n := by omega
        have g6 : 0 < i := by omega
        have hd : decide (0 < i) = true := decide_eq_true g6
        by_cases hz0 : 0 ≤ z1
        ·have hzd : decide (0 ≤ z1) = true := decide_eq_true hz0
         go_quiet ((go_at_call 8; exact Calls.quiet_of (HC1.out _ rfl)))
         go_wp2_with fail
         go_meet
         exact ⟨_, rfl, Qt.drewN _ _⟩
        ·have hzd : decide (0 ≤ z1) = false := decide_eq_false hz0
         go_quiet (first | (go_at_call_of 8 (Value.slice ao1 k1 cc1); exact Calls.quiet_of (HC1.out _ rfl)) | (go_at_call_of 8 (Value.slice ao k c); exact Calls.quiet_of (HC2.out _ rfl)))
         go_wp2_with fail
         go_meet
         exact ⟨_, rfl, Qt.drewN _ _⟩
      case rest =>
       obtain ⟨rb, rfl, hqc⟩ := hcut
       have HOc := hid_intro (own_heap9 HO.out hqc.heap)
       have HGc := hid_intro (grown_trans HG.out (hqc.grown none))
       clear hqc HC2 HO HG HZ c0
       cases rb with
       | true =>
        go_wp2
        go_ret
        exact ⟨rfl, HGc.out⟩
       | false =>
        have hln := HLY.out.len
        have hszc := HGc.out.size
        have c0 := HGc.out.cell HQ2.out (by simp)
        cases dn with
        | true =>
         have HLZ := hid_intro (HLY.out.behind (show i < K.length by omega))
         clear HLY
         go_wp2_with (at_builtin; refine wpList_append_own _ rfl _ _ 22 rfl w.heap.size 23 j0 (.slice none 0 0) 1 24 Try.underlying22 hj hy0 hy1 hy2 rfl (by decide) _ M.length xs rfl (HOc.out.alloc _) ⟨wc.heap.size, 0, none⟩ 1 1 [.slice ao k c] rfl rfl (cell_one_new _ _ _) (by intro u hu; simp at hu; subst hu; rfl) (by unfold maxLen; omega) (by omega) (by simp; omega) ?_)
         intro v9 w9 ho9 hg9 _
         have HO9 := hid_intro ho9
         have HG9 := hid_intro (grown_app9 HGc.out HOc.out (Nat.le_refl _) hg9)
         have HI9 := hid_intro (HI.out.snoc HQ3.out q4 q5)
         clear ho9 hg9
         go_wp2
         go_roundw
         case rel => exact ⟨i + 1, M ++ [K.getD i []], _, true, by omega, by go_num, rfl, HLZ.out, HV3.out, HI9.out, by rw [List.length_append]; exact HO9.out, HG9.out⟩
         case measure => simp [intOf]; omega
        | false =>
         have hln2 := hln.2 rfl
         obtain ⟨z3, hz3⟩ : ∃ z3, cmpZ s (K.getD i []) = z3 := ⟨_, rfl⟩
         go_wp2_with fail
         refine (refCompare_any so ao sn k sc c s (K.getD i []) _ (HS.out.keptN HGc.out) (HQ3.out.keptN HGc.out) (by omega) (by omega)).mono ?_
         rintro en w5 ⟨rfl, hq5⟩
         rw [hz3]
         have HO5 := hid_intro (own_heap9 HOc.out hq5.heap)
         have HG5 := hid_intro (grown_trans HGc.out (hq5.grown none))
         have hsz5 := HG5.out.size
         clear c0 hszc
         have c0 := HG5.out.cell HQ2.out (by simp)
         clear hz3 hq5 HOc HGc
         by_cases hz : z3 < 0
         ·have HLZ := hid_intro (HLY.out.both (show i < K.length by omega))
          clear HLY
          go_wp2_with (at_builtin; refine wpList_append_own _ rfl _ _ 22 rfl w.heap.size 23 j0 (.slice none 0 0) 1 24 Try.underlying22 hj hy0 hy1 hy2 rfl (by decide) _ M.length xs rfl (HO5.out.alloc _) ⟨w5.heap.size, 0, none⟩ 1 1 [.slice so sn sc] rfl rfl (cell_one_new _ _ _) (by intro u hu; simp at hu; subst hu; rfl) (by unfold maxLen; omega) (by omega) (by simp; omega) ?_)
          intro v8 w8 ho8 hg8 _
          have HO8 : Hid (w8.ownsRow w.heap.size 23 1 v8 (M ++ [s]).length (xs ++ [.slice so sn sc])) := by rw [List.length_append]; exact ho8
          have HG8 := hid_intro (grown_app9 HG5.out HO5.out (Nat.le_refl _) hg8)
          have HI8 := hid_intro (HI.out.snoc HS.out hs1 (by omega))
          have hsz8 := HG8.out.size
          have hml8 : (M ++ [s]).length ≤ i + 1 := by rw [List.length_append]; simp; omega
          clear c0 ho8 hg8 HO5 HG5
          have c0 := HG8.out.cell HQ2.out (by simp)
          go_wp2_with (at_builtin; refine wpList_append_own _ rfl _ _ 22 rfl w.heap.size 23 j0 (.slice none 0 0) 1 24 Try.underlying22 hj hy0 hy1 hy2 rfl (by decide) _ (M ++ [s]).length (xs ++ [.slice so sn sc]) rfl (HO8.out.alloc _) ⟨w8.heap.size, 0, none⟩ 1 1 [.slice ao k c] rfl rfl (cell_one_new _ _ _) (by intro u hu; simp at hu; subst hu; rfl) (by unfold maxLen; omega) (by omega) (by simp; omega) ?_)
          intro v9 w9 ho9 hg9 _
          have HO9 := hid_intro ho9
          have HG9 := hid_intro (grown_app9 HG8.out HO8.out (Nat.le_refl _) hg9)
          have HI9 := hid_intro (HI8.out.snoc HQ3.out q4 q5)
          clear ho9 hg9
          go_wp2
          go_roundw
          case rel => exact ⟨i + 1, (M ++ [s]) ++ [K.getD i []], _, true, by omega, by go_num, rfl, HLZ.out, HV3.out, HI9.out, by rw [List.length_append, List.length_append, List.append_assoc]; exact HO9.out, HG9.out⟩
          case measure => simp [intOf]; omega
         ·have HLZ := hid_intro (HLY.out.plain (show i < K.length by omega))
          clear HLY
          go_wp2_with (at_builtin; refine wpList_append_own _ rfl _ _ 22 rfl w.heap.size 23 j0 (.slice none 0 0) 1 24 Try.underlying22 hj hy0 hy1 hy2 rfl (by decide) _ M.length xs rfl (HO5.out.alloc _) ⟨w5.heap.size, 0, none⟩ 1 1 [.slice ao k c] rfl rfl (cell_one_new _ _ _) (by intro u hu; simp at hu; subst hu; rfl) (by unfold maxLen; omega) (by omega) (by simp; omega) ?_)
          intro v9 w9 ho9 hg9 _
          have HO9 := hid_intro ho9
          have HG9 := hid_intro (grown_app9 HG5.out HO5.out (Nat.le_refl _) hg9)
          have HI9 := hid_intro (HI.out.snoc HQ3.out q4 q5)
          clear ho9 hg9
          go_wp2
          go_roundw
          case rel => exact ⟨i + 1, M ++ [K.getD i []], _, false, by omega, by go_num, rfl, HLZ.out, HV3.out, HI9.out, by rw [List.length_append]; exact HO9.out, HG9.out⟩
          case measure => simp [intOf]; omega
     ·have hin : i = n := by omega
      subst hin
      have hln := HLY.out.len
      have hszr := HG.out.size
      cases dn with
      | true =>
       have hLd : Laidb K s M := by
        have := HLY.out
        rw [← hn] at this
        exact this.done
       obtain ⟨a2, c2, e1, e2, e3, hcp1, hcp2⟩ := HI.out.lz HG.out HO.out
       have HGX := HG
       obtain ⟨N, hN⟩ : ∃ N, N = M := ⟨_, rfl⟩
       rw [← hN] at e1 e2 hcp1 hLd
       have HM := hid_intro e2
       have HD := hid_intro hLd
       have hNl : N.length = i + 1 := by rw [hLd.len, hn]
       rw [hNl] at e1 hcp1
       subst e1
       clear e2 e3 HO HI HLY HG hN hLd hNl hln hj hy0 hy1 hy2
       have hml := HD.out.len
       rw [hn] at hml
       have HKM : Hid (∀ z ∈ N, z.length ≤ 255) := by
        intro z hz
        rcases HD.out.mem hz with rfl | hz
        ·omega
        ·obtain ⟨j, hj, rfl⟩ := List.getElem_of_mem hz
         have := HVA.out j (by omega)
         simpa [List.getD, List.getElem?_eq_getElem hj] using this
       have HKN : Hid (∀ z ∈ N, z.length ≤ 140737488351232) := fun z hz => by have := HKM.out z hz; omega
       obtain ⟨m, hm⟩ : ∃ m, i + 1 = m := ⟨_, rfl⟩
       rw [hm] at hml hcp1 ⊢
       go_wp2_with fail
       refine (bsize_any a2 m c2 N _ HM.out hml (by omega) hcp1 hcp2 HKN.out).mono ?_
       rintro en w5 ⟨rfl, hg5⟩
       have HM5 := hid_intro (HM.out.keptN hg5)
       have HG5 := hid_intro (grown_trans HGX.out hg5)
       clear hg5 HGX HM
       go_wp2_with fail
       refine (cutBranch_any a2 m c2 N _ HM5.out hml (by omega) hcp1 hcp2 HKN.out).mono ?_
       rintro en w6 ⟨⟨r, rfl, hb6⟩, hg6⟩
       have HM6 := hid_intro (HM5.out.keptN hg6)
       have HG6 := hid_intro (grown_trans HG5.out hg6)
       have HCU : Hid (4092 < bsize N → 2 ≤ r ∧ r < m ∧ bsize (N.take (r - 1)) ≤ 4092 ∧ bsize (N.drop r) ≤ 4092) := by
        intro hbig
        obtain ⟨A, B, h1, h2⟩ := HD.out
        have := bcut h1 h2 HKM.out (by omega) hbig (r := r) (by rw [hml]; exact hb6)
        rwa [hml] at this
       clear hb6 hg6 HG5 HM5 HD HKM
       go_wp2_with fail
       refine (refSize5_any a2 m c2 N _ HM6.out hml (by omega) HKN.out).mono ?_
       rintro en w7 ⟨rfl, hq7⟩
       have HM7 := hid_intro (HM6.out.heap hq7.heap)
       have HG7 := hid_intro (grown_trans HG6.out (hq7.grown none))
       clear hq7 HG6 HM6
       obtain ⟨bs, hbs⟩ : ∃ bs, bsize N = bs := ⟨_, rfl⟩
       rw [hbs] at HCU ⊢
       by_cases hbig : bs ≤ 4092
       ·clear HCU
        go_wp2
        go_ret
        exact ⟨rfl, HG7.out⟩
       ·obtain ⟨r1, r2, r3, r4⟩ := HCU.out (by omega)
        clear HCU
        obtain ⟨q, hq⟩ : ∃ q : Nat, q + 1 = r := ⟨r - 1, by omega⟩
        have hrq : r - 1 = q := by omega
        rw [hrq] at r3
        obtain ⟨b, off, eo, en9, ec, e0, el, eb, ee1, ee2⟩ := HM7.out.row q (by omega)
        subst e0
        have hsp := split9 N (q := q) (by omega)
        rw [hq] at hsp
        have hlen1 : (N.take q).length = q := by rw [List.length_take]; omega
        have hlen2 : (N.drop r).length = m - r := by rw [List.length_drop]; omega
        have HA := hid_intro (bsize_any (some ⟨b, off, none⟩) q c2 (N.take q) w7 (HM7.out.take q) hlen1 (by omega) (by omega) hcp2 (fun z hz => HKN.out z (List.mem_of_mem_take hz)))
        have HB := hid_intro (fun (W : World) (h : w7.grownBy W none) => bsize_any (some ⟨b, off + r, none⟩) (m - r) (c2 - r) (N.drop r) W ((HM7.out.keptN h).drop r) hlen2 (by omega) (by omega) (by omega) (fun z hz => HKN.out z (List.mem_of_mem_drop hz)))
        have HJ := hid_intro (fun (W : World) (h : w7.grownBy W none) => joinBranches_any (some ⟨b, off, none⟩) q c2 (N.take q) eo en9 ec (N.getD q []) (some ⟨b, off + r, none⟩) (m - r) (c2 - r) (N.drop r) W ((HM7.out.keptN h).take q) hlen1 (fun e => by cases e) (eb.keptN h) ee1 ee2 ((HM7.out.keptN h).drop r) hlen2 (fun e => by cases e) (by omega) (by rw [hsp]; exact HKN.out))
        rw [hsp, hbs] at HJ
        have hdj : decide (bs ≤ 3000) = false := decide_eq_false (by omega)
        rw [hdj] at HJ
        have HEL := hid_intro el
        have hne : ¬ c2 = r := by omega
        have hrc : r < c2 := by omega
        have hrc2 : r ≤ c2 := by omega
        have hqc : q ≤ c2 := by omega
        have ei : (r : Int) - 1 = (q : Int) := by omega
        clear hlen1 hlen2 hsp hdj HKN HM7 hbs hml eb el
        generalize bsize (N.take q) = p1 at *
        generalize bsize (N.drop r) = p2 at *
        go_wp2_with fail
        refine HA.out.mono ?_
        rintro en w8 ⟨rfl, hg8⟩
        have HG8 := hid_intro hg8
        clear hg8 HA
        go_wp2_with fail
        refine (HB.out _ HG8.out).mono ?_
        rintro en w9 ⟨rfl, hg9⟩
        have HG9 := hid_intro (grown_trans HG8.out hg9)
        clear hg9 HB HG8
        have cel := HG9.out.cell HEL.out (by simp)
        have z1 : IntKind.i64.wrap (r : Int) = (r : Int) := by rw [IntKind.wrap_i64]; omega
        have z0 : IntKind.i64.wrap (q : Int) = (q : Int) := by rw [IntKind.wrap_i64]; omega
        have z2 : (0 : Int) ≤ (r : Int) := by omega
        have z3 : (r : Int) ≤ (c2 : Int) := by omega
        have z4 : (r : Int) ≤ (m : Int) := by omega
        have z5 : (0 : Int) ≤ (q : Int) := by omega
        have z6 : (q : Int) ≤ (c2 : Int) := by omega
        have z7 : (q : Int) < (m : Int) := by omega
        have z8 : q < m := by omega
        go_upto_region 29 with fail
        go_cut [14] (fun s14 wx => s14 = .bool false ∧ w7.grownBy wx none)
        case first =>
         go_region_with (go_at_call 11; refine (HJ.out w9.drew (grown_trans HG9.out ((Qt.refl _).drew.grown none))).mono ?_; rintro en wj ⟨rfl, hgj⟩)
         all_goals (go_wp2_with fail; go_meet; exact ⟨rfl, grown_trans (grown_trans HG9.out ((Qt.refl _).drew.grown none)) hgj⟩)
        case rest =>
         obtain ⟨rfl, hgc⟩ := hcut
         have HGC := hid_intro (grown_trans HG7.out hgc)
         clear hgc HJ HG9 HG7
         go_wp2
         go_ret
         exact ⟨rfl, HGC.out⟩
      | false =>
       have hln2 := hln.2 rfl
       have hLd : Laidb K s (M ++ [s]) := by
        have := HLY.out
        rw [← hn] at this
        exact this.last
       go_wp2_with (at_builtin; refine wpList_append_own _ rfl _ _ 22 rfl w.heap.size 23 j0 (.slice none 0 0) 1 24 Try.underlying22 hj hy0 hy1 hy2 rfl (by decide) _ M.length xs rfl (HO.out.alloc _) ⟨wr.heap.size, 0, none⟩ 1 1 [.slice so sn sc] rfl rfl (cell_one_new _ _ _) (by intro u hu; simp at hu; subst hu; rfl) (by unfold maxLen; omega) (by omega) (by simp; omega) ?_)
       intro v9 w4 ho9 hg9 _
       have HGX := hid_intro (grown_app9 HG.out HO.out (Nat.le_refl _) hg9)
       have ho9' : w4.ownsRow w.heap.size 23 1 v9 (M ++ [s]).length (xs ++ [.slice so sn sc]) := by rw [List.length_append]; exact ho9
       obtain ⟨a2, c2, e1, e2, e3, hcp1, hcp2⟩ := (HI.out.snoc HS.out hs1 (by omega)).lz HGX.out ho9'
       obtain ⟨N, hN⟩ : ∃ N, N = M ++ [s] := ⟨_, rfl⟩
       rw [← hN] at e1 e2 hcp1 hLd
       have HM := hid_intro e2
       have HD := hid_intro hLd
       have hNl : N.length = i + 1 := by rw [hLd.len, hn]
       rw [hNl] at e1 hcp1
       subst e1
       clear e2 e3 HO HI HLY HG hN hLd hNl hln ho9 ho9' hg9 hj hy0 hy1 hy2
       have hml := HD.out.len
       rw [hn] at hml
       have HKM : Hid (∀ z ∈ N, z.length ≤ 255) := by
        intro z hz
        rcases HD.out.mem hz with rfl | hz
        ·omega
        ·obtain ⟨j, hj, rfl⟩ := List.getElem_of_mem hz
         have := HVA.out j (by omega)
         simpa [List.getD, List.getElem?_eq_getElem hj] using this
       have HKN : Hid (∀ z ∈ N, z.length ≤ 140737488351232) := fun z hz => by have := HKM.out z hz; omega
       obtain ⟨m, hm⟩ : ∃ m, i + 1 = m := ⟨_, rfl⟩
       rw [hm] at hml hcp1 ⊢
       go_wp2_with fail
       refine (bsize_any a2 m c2 N _ HM.out hml (by omega) hcp1 hcp2 HKN.out).mono ?_
       rintro en w5 ⟨rfl, hg5⟩
       have HM5 := hid_intro (HM.out.keptN hg5)
       have HG5 := hid_intro (grown_trans HGX.out hg5)
       clear hg5 HGX HM
       go_wp2_with fail
       refine (cutBranch_any a2 m c2 N _ HM5.out hml (by omega) hcp1 hcp2 HKN.out).mono ?_
       rintro en w6 ⟨⟨r, rfl, hb6⟩, hg6⟩
       have HM6 := hid_intro (HM5.out.keptN hg6)
       have HG6 := hid_intro (grown_trans HG5.out hg6)
       have HCU : Hid (4092 < bsize N → 2 ≤ r ∧ r < m ∧ bsize (N.take (r - 1)) ≤ 4092 ∧ bsize (N.drop r) ≤ 4092) := by
        intro hbig
        obtain ⟨A, B, h1, h2⟩ := HD.out
        have := bcut h1 h2 HKM.out (by omega) hbig (r := r) (by rw [hml]; exact hb6)
        rwa [hml] at this
       clear hb6 hg6 HG5 HM5 HD HKM
       go_wp2_with fail
       refine (refSize5_any a2 m c2 N _ HM6.out hml (by omega) HKN.out).mono ?_
       rintro en w7 ⟨rfl, hq7⟩
       have HM7 := hid_intro (HM6.out.heap hq7.heap)
       have HG7 := hid_intro (grown_trans HG6.out (hq7.grown none))
       clear hq7 HG6 HM6
       obtain ⟨bs, hbs⟩ : ∃ bs, bsize N = bs := ⟨_, rfl⟩
       rw [hbs] at HCU ⊢
       by_cases hbig : bs ≤ 4092
       ·clear HCU
        go_wp2
        go_ret
        exact ⟨rfl, HG7.out⟩
       ·obtain ⟨r1, r2, r3, r4⟩ := HCU.out (by omega)
        clear HCU
        obtain ⟨q, hq⟩ : ∃ q : Nat, q + 1 = r := ⟨r - 1, by omega⟩
        have hrq : r - 1 = q := by omega
        rw [hrq] at r3
        obtain ⟨b, off, eo, en9, ec, e0, el, eb, ee1, ee2⟩ := HM7.out.row q (by omega)
        subst e0
        have hsp := split9 N (q := q) (by omega)
        rw [hq] at hsp
        have hlen1 : (N.take q).length = q := by rw [List.length_take]; omega
        have hlen2 : (N.drop r).length = m - r := by rw [List.length_drop]; omega
        have HA := hid_intro (bsize_any (some ⟨b, off, none⟩) q c2 (N.take q) w7 (HM7.out.take q) hlen1 (by omega) (by omega) hcp2 (fun z hz => HKN.out z (List.mem_of_mem_take hz)))
        have HB := hid_intro (fun (W : World) (h : w7.grownBy W none) => bsize_any (some ⟨b, off + r, none⟩) (m - r) (c2 - r) (N.drop r) W ((HM7.out.keptN h).drop r) hlen2 (by omega) (by omega) (by omega) (fun z hz => HKN.out z (List.mem_of_mem_drop hz)))
        have HJ := hid_intro (fun (W : World) (h : w7.grownBy W none) => joinBranches_any (some ⟨b, off, none⟩) q c2 (N.take q) eo en9 ec (N.getD q []) (some ⟨b, off + r, none⟩) (m - r) (c2 - r) (N.drop r) W ((HM7.out.keptN h).take q) hlen1 (fun e => by cases e) (eb.keptN h) ee1 ee2 ((HM7.out.keptN h).drop r) hlen2 (fun e => by cases e) (by omega) (by rw [hsp]; exact HKN.out))
        rw [hsp, hbs] at HJ
        have hdj : decide (bs ≤ 3000) = false := decide_eq_false (by omega)
        rw [hdj] at HJ
        have HEL := hid_intro el
        have hne : ¬ c2 = r := by omega
        have hrc : r < c2 := by omega
        have hrc2 : r ≤ c2 := by omega
        have hqc : q ≤ c2 := by omega
        have ei : (r : Int) - 1 = (q : Int) := by omega
        clear hlen1 hlen2 hsp hdj HKN HM7 hbs hml eb el
        generalize bsize (N.take q) = p1 at *
        generalize bsize (N.drop r) = p2 at *
        go_wp2_with fail
        refine HA.out.mono ?_
        rintro en w8 ⟨rfl, hg8⟩
        have HG8 := hid_intro hg8
        clear hg8 HA
        go_wp2_with fail
        refine (HB.out _ HG8.out).mono ?_
        rintro en w9 ⟨rfl, hg9⟩
        have HG9 := hid_intro (grown_trans HG8.out hg9)
        clear hg9 HB HG8
        have cel := HG9.out.cell HEL.out (by simp)
        have z1 : IntKind.i64.wrap (r : Int) = (r : Int) := by rw [IntKind.wrap_i64]; omega
        have z0 : IntKind.i64.wrap (q : Int) = (q : Int) := by rw [IntKind.wrap_i64]; omega
        have z2 : (0 : Int) ≤ (r : Int) := by omega
        have z3 : (r : Int) ≤ (c2 : Int) := by omega
        have z4 : (r : Int) ≤ (m : Int) := by omega
        have z5 : (0 : Int) ≤ (q : Int) := by omega
        have z6 : (q : Int) ≤ (c2 : Int) := by omega
        have z7 : (q : Int) < (m : Int) := by omega
        have z8 : q < m := by omega
        go_upto_region 29 with fail
        go_cut [14] (fun s14 wx => s14 = .bool false ∧ w7.grownBy wx none)
        case first =>
         go_region_with (go_at_call 11; refine (HJ.out w9.drew (grown_trans HG9.out ((Qt.refl _).drew.grown none))).mono ?_; rintro en wj ⟨rfl, hgj⟩)
         all_goals (go_wp2_with fail; go_meet; exact ⟨rfl, grown_trans (grown_trans HG9.out ((Qt.refl _).drew.grown none)) hgj⟩)
        case rest =>
         obtain ⟨rfl, hgc⟩ := hcut
         have HGC := hid_intro (grown_trans HG7.out hgc)
         clear hgc HJ HG9 HG7
         go_wp2
         go_ret
         exact ⟨rfl, HGC.out⟩
end Go.Proofs.Ytmicongcnpbkkab
namespace Go.Proofs.Ytmicongcnpbkkab.cutBranchesAlways
open Go.ChangeShapes Go.WideShapes Go.ChangeAt Go.WideMaps Go.WideElems Go.RowKit Go.Deep
open Go.ChangeMaps (open_string shut_string)
theorem own : ownKnob Try.prog.godebug = none := by kernel_rfl
theorem laidOut : laidOutB Try.prog = true := by kernel_rfl
theorem bytes_u8 : Try.prog.bytesOf 5 = 1 := by kernel_rfl
set_option linter.unusedVariables false
set_option maxRecDepth 100000 in
theorem lifted (os : Os) (started : os.Started) (H : Type) (enc : TypeId × Value → H) :
  ReturnsInHanded {} Try.checked os 3 .any (Rows.cutBranchesAlwaysSpec.pre6 enc Try.prog Try.f3 Rows.cutBranchesAlwaysRow.domain false) (Rows.cutBranchesAlwaysSpec.post enc Try.prog Try.f3 false true false false) := by
 refine returnsInHanded_of_change_sized (C := Try.checked) own started (by kernel_rfl) Try.func3
  (ChangeSpec.witness6 (enc := enc) (C := Try.checked) false ⟨#[], #[.slice none 0 0, .slice none 0 0], []⟩ 8 (by kernel_rfl) (by kernel_rfl) (by kernel_rfl) (by kernel_rfl)) ?_
 intro W base args ds gs before hval0 hW hcnd hsz0 _
 have hval : ∀ (j : Nat) t v, Try.f3.params[j]? = some t → args[j]? = some v → Value.okWide Try.prog W .any base t v := hval0
 have hsz : (DataW.weightsEach Try.prog (Try.f3.params.toList ++ Rows.cutBranchesAlwaysSpec.plain.varTypes Try.prog) (ds ++ gs)).all (· ≤ reachBytes) = true := hsz0
 clear hsz0
 have hW' := hW
 obtain ⟨p, q, hA0, hV, rfl, hfz, hnd⟩ := hW
 have hA : DataW.TrodAll enc Try.prog W 0 (fun _ => true) true Try.f3.params.toList args.toList ds p := hA0
 rw [Try.params3] at hA hval hsz
 obtain ⟨v0, vs0, d0, ds0, p0, q0, hargs, rfl, rfl, h0, r0⟩ := trodAll_cons hA
 obtain ⟨v1, vs1, d1, ds1, p1, q1, rfl, rfl, rfl, h1, r1⟩ := trodAll_cons r0
 obtain ⟨rfl, rfl, rfl⟩ := trodAll_nil r1
 obtain rfl : args = #[v0, v1] := by cases args; simp_all
 obtain ⟨rfl, rfl⟩ := trodVars_none hV
 obtain ⟨a0, len0, cap0, rfl⟩ := okWide_slice Try.underlying22 (hval 0 22 v0 rfl rfl)
 have k0 := h0
 have lt0 : ∀ x ∈ p0, x.block < W.heap.size := by obtain ⟨m, hm⟩ := k0; exact DataW.trod_lt m _ _ _ hm
 obtain ⟨z0, b0, t0, e0, l0, c0, n0, s0⟩ : ∃ L, Lz W a0 L ∧ Lb L ∧ L.length = len0 ∧ len0 ≤ cap0 ∧ cap0 ≤ 9223372036854775807 ∧ (a0 = none → cap0 = 0) ∧ (∀ x ∈ L, x.length ≤ 140737488351232) := by
  obtain ⟨fuel, hf⟩ := h0
  exact rows_open9 (by simpa [Value.cells] using hf) (Wt9.of hsz (j := 0) rfl rfl)
 obtain ⟨a1, len1, cap1, rfl⟩ := okWide_slice Try.underlying23 (hval 1 23 v1 rfl rfl)
 have k1 := h1
 have lt1 : ∀ x ∈ p1, x.block < W.heap.size := by obtain ⟨m, hm⟩ := k1; exact DataW.trod_lt m _ _ _ hm
 obtain ⟨z1, b1, t1, l1, c1⟩ : ∃ zs, Byt W a1 len1 cap1 zs ∧ Bt zs ∧ len1 ≤ cap1 ∧ cap1 ≤ 140737488351232 := by
  obtain ⟨fuel, hf⟩ := h1
  rcases open_ints Try.underlying23 Try.underlying5 (by kernel_rfl) hf with ⟨hcs, _⟩ | ⟨x, l, c, zs, hcs, _, hl, hm, hz, hx, hcell, hwz⟩
  ·simp [Value.cells] at hcs
   obtain ⟨rfl, rfl, rfl⟩ := hcs
   exact ⟨[], Byt.empty W, Bt.nil, Nat.le_refl _, by omega⟩
  ·simp [Value.cells] at hcs
   obtain ⟨rfl, rfl, rfl⟩ := hcs
   have hz' : zs.length = cap1 := by simpa using hz
   obtain ⟨h1, h2, _, _⟩ := byt_of_row (zs := zs) (.inr ⟨_, rfl, hl, hm, hz', hcell, hwz⟩)
   have hs := sized_slice hsz (j := 1) (t := 23) (e := 5) rfl (congrArg (fun y => some (Prod.fst y)) hx) Try.underlying23
   rw [bytes_u8] at hs
   simp only [lits, List.length_map, List.length_take, List.length_drop, reachBytes] at hs
   exact ⟨_, h1, h2, hl, by omega⟩
 clear hA0 hval0
 refine (cutBranchesAlways_walk a0 len0 cap0 z0 a1 len1 cap1 z1 W b0 e0 l0 c0 s0 b1 l1 c1).mono fun e W' ⟨he, hg⟩ => ?_
 subst he
 have bel := below_of hg
 exact ⟨_, rfl, _, _, _, [], _, [], hW', trodAll_mk1 (shut_bool Try.underlying4 _), (trodAll_cons_mk (Below.trod laidOut (by kernel_rfl) (of_decide_eq_true (by kernel_rfl)) k0 bel lt0) (trodAll_cons_mk (Below.trod laidOut (by kernel_rfl) (of_decide_eq_true (by kernel_rfl)) k1 bel lt1) trodAll_mk0)), rfl, bel.frame _, fun h => by cases h⟩
theorem over : Rows.cutBranchesAlwaysRow.holds Try.pinned (OpenSpec.ofChange Rows.cutBranchesAlwaysSpec) :=
 OpenClaim.holds_of_wide 3 Try.f3 rfl rfl rfl rfl rfl rfl rfl ⟨rfl, rfl, rfl, rfl, rfl⟩ rfl rfl rfl rfl rfl (by kernel_rfl) Try.func3 (by kernel_rfl)
  (of_decide_eq_true (by kernel_rfl)) (by unfold Func.isWrapper; first | (rw [if_pos (by decide +kernel)]; kernel_rfl) | (rw [if_neg (by decide +kernel)]; exact ⟨rfl, rfl⟩))
  (fun os started H enc _ => lifted os started H enc)
end Go.Proofs.Ytmicongcnpbkkab.cutBranchesAlways
namespace Go.Proofs.Ytmicongcnpbkkab
theorem cutBranchesAlways_holds : Rows.CutBranchesAlwaysSaid := cutBranchesAlways.over
#print axioms cutBranchesAlways_holds
end Go.Proofs.Ytmicongcnpbkkab
