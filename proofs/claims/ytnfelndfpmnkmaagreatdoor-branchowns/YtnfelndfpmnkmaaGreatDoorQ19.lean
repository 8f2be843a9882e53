import Derived.Test.YtnfelndfpmnkmaaGreatDoorQ16
import Derived.Lib.SlBytesConst
namespace Go.Proofs.YtnfelndfpmnkmaaGreatDoor
open Go.RowKit
set_option maxHeartbeats 400000 in
theorem num5_any (n : Int) (w : World) : Calls Tryz.prog 15 #[.int .i64 n] w fun en w' => en = .returned (.int .i64 n) ∧ w' = w := by
 go_enter Tryz.func15, Tryz.ntmps15
 go_wp2
 go_ret
 exact ⟨rfl, rfl⟩
def fw (L : List (List Int)) (m : Nat) : Bool := decide (L.length ≤ 2000) && decide (m ≤ 2000) && L.all (fun s => decide (s.length ≤ 4096))
theorem fw_parts {L : List (List Int)} {m : Nat} (h : fw L m = true) : L.length ≤ 2000 ∧ m ≤ 2000 ∧ ∀ x ∈ L, x.length ≤ 4096 := by
 unfold fw at h
 simp at h
 exact ⟨h.1.1, h.1.2, h.2⟩
theorem fw_all {L : List (List Int)} {m : Nat} (h1 : L.length ≤ 2000) (h2 : m ≤ 2000) (h3 : ∀ j, j < L.length → (L.getD j []).length ≤ 4096) : fw L m = true := by
 unfold fw
 simp only [Bool.and_eq_true, decide_eq_true_eq, List.all_eq_true]
 refine ⟨⟨h1, h2⟩, fun s hs => ?_⟩
 obtain ⟨j, hj, rfl⟩ := List.getElem_of_mem hs
 have := h3 j hj
 simpa [List.getD, List.getElem?_eq_getElem hj] using this
theorem fw_no {L : List (List Int)} {m : Nat} (h : ¬ (L.length ≤ 2000 ∧ m ≤ 2000 ∧ ∀ x ∈ L, x.length ≤ 4096)) : fw L m = false := by
 cases hs : fw L m with
 | false => rfl
 | true => exact absurd (fw_parts hs) h
set_option maxHeartbeats 1000000 in
set_option maxRecDepth 100000 in
theorem few_any (a : Option Addr) (n cap : Nat) (L : List (List Int)) (b : Option Addr) (m cap2 : Nat) (w : World) (hl : Lz w a L) (hn : L.length = n) :
  Calls Tryz.prog 5 #[.slice a n cap, .slice b m cap2] w fun en w' => en = .returned (.bool (fw L m)) ∧ w' = w := by
 have HL := hid_intro hl
 clear hl
 by_cases h1 : n ≤ 2000
 ·by_cases h2 : m ≤ 2000
  ·go_enter Tryz.func5, Tryz.ntmps5
   go_wp2
   go_loopw [5] (fun si wr => ∃ i : Nat, i ≤ n ∧ si = .int .i64 i ∧ (∀ j, j < i → (L.getD j []).length ≤ 4096) ∧ wr = w) (fun si _ => n - (intOf si).toNat)
   case atStart => exact ⟨0, Nat.zero_le _, rfl, fun j hj => by omega, rfl⟩
   case round =>
    obtain ⟨i, hi, rfl, ha, rfl⟩ := hrel
    have HA := hid_intro ha
    clear ha
    by_cases hlt : i < n
    ·obtain ⟨b1, off, ao, k, c, rfl, q2, q3, q4, q5⟩ := HL.out.row i (by omega)
     have hk := q3.len
     have HX : Hid (k ≤ 4096 → ∀ j, j < i + 1 → (L.getD j []).length ≤ 4096) := by
      intro h j hj
      by_cases e : j = i
      ·subst e; omega
      ·exact HA.out j (by omega)
     have HN : Hid (¬ k ≤ 4096 → fw L m = false) := fun h => fw_no (fun hh => h (by have := hh.2.2 _ (lget_mem (show i < L.length by omega)); omega))
     clear q3 hk
     by_cases hk : k ≤ 4096
     ·have HX1 := hid_intro (HX.out hk)
      go_wp2
      go_roundw
      case rel => exact ⟨i + 1, by omega, by go_num, HX1.out, by trivial⟩
      case measure => simp [intOf]; omega
     ·have HN1 := hid_intro (HN.out hk)
      go_wp2
      go_ret
      exact ⟨by rw [HN1.out]; rfl, rfl⟩
    ·have hin : i = n := by omega
     subst hin
     have HT : Hid (fw L m = true) := fw_all (by omega) h2 (fun j hj => HA.out j (by omega))
     go_wp2
     go_ret
     exact ⟨by rw [HT.out]; rfl, rfl⟩
  ·have HN1 : Hid (fw L m = false) := fw_no (fun hh => h2 hh.2.1)
   go_enter Tryz.func5, Tryz.ntmps5
   go_wp2
   go_ret
   exact ⟨by rw [HN1.out]; rfl, rfl⟩
 ·have HN1 : Hid (fw L m = false) := fw_no (fun hh => h1 (by omega))
  go_enter Tryz.func5, Tryz.ntmps5
  go_wp2
  go_ret
  exact ⟨by rw [HN1.out]; rfl, rfl⟩
theorem lget_ext {L M : List (List Int)} (hl : L.length = M.length) (h : ∀ j, j < L.length → L.getD j [] = M.getD j []) : L = M := by
 refine List.ext_getElem hl fun j h1 h2 => ?_
 have := h j h1
 simpa [List.getD, List.getElem?_eq_getElem h1, List.getElem?_eq_getElem h2] using this
theorem kget_ext {L M : List Kd} (hl : L.length = M.length) (h : ∀ j, j < L.length → L.getD j kd0 = M.getD j kd0) : L = M := by
 refine List.ext_getElem hl fun j h1 h2 => ?_
 have := h j h1
 simpa [List.getD, List.getElem?_eq_getElem h1, List.getElem?_eq_getElem h2] using this
set_option maxHeartbeats 1000000 in
set_option maxRecDepth 100000 in
theorem sameLists_any (a : Option Addr) (n cap : Nat) (L : List (List Int)) (a' : Option Addr) (n' cap' : Nat) (M : List (List Int)) (w : World) (hl : Lz w a L) (hb : Lb L) (hn : L.length = n) (hl' : Lz w a' M) (hb' : Lb M) (hn' : M.length = n') (hm : n ≤ 9223372036854775807) :
  Calls Tryz.prog 13 #[.slice a n cap, .slice a' n' cap'] w fun en w' => (∃ b, en = .returned (.bool b) ∧ (b = true ↔ L = M)) ∧ Qt w w' := by
 have HL := hid_intro hl
 have HM := hid_intro hl'
 have HB := hid_intro hb
 have HB' := hid_intro hb'
 clear hl hl' hb hb'
 by_cases h1 : n = n'
 ·subst h1
  go_enter Tryz.func13, Tryz.ntmps13
  go_wp2
  go_loopw [5, 6] (fun si _ wr => ∃ i : Nat, i ≤ n ∧ si = .int .i64 i ∧ (∀ j, j < i → L.getD j [] = M.getD j []) ∧ Qt w wr) (fun si _ _ => n - (intOf si).toNat)
  case atStart => exact ⟨0, Nat.zero_le _, rfl, fun j hj => by omega, Qt.refl _⟩
  case round =>
   obtain ⟨i, hi, rfl, ha, hq⟩ := hrel
   have HA := hid_intro ha
   have HQ := hid_intro hq
   clear ha hq
   by_cases hlt : i < n
   ·obtain ⟨b1, off, ao, k, c, rfl, q2, q3, q4, q5⟩ := HL.out.row i (by omega)
    obtain ⟨b2, off2, ao2, k2, c2, rfl, r2, r3, r4, r5⟩ := HM.out.row i (by omega)
    have c0 := (HQ.out.cell _).trans q2
    have c1 := (HQ.out.cell _).trans r2
    have g1 : (i : Int) < (n : Int) := by omega
    have g0 : (0 : Int) ≤ (i : Int) := by omega
    by_cases he : L.getD i [] = M.getD i []
    ·have HC := hid_intro (fun (W : World) (hW : W.heap = wr.heap) => same_yes ao ao2 k k2 c c2 _ _ W (q3.heap (hW.trans HQ.out.heap)) (r3.heap (hW.trans HQ.out.heap)) he)
     have HX1 : Hid (∀ j, j < i + 1 → L.getD j [] = M.getD j []) := by
      intro j hj
      by_cases e : j = i
      ·subst e; exact he
      ·exact HA.out j (by omega)
     clear q2 q3 r2 r3 he
     go_wp2
     go_quiet ((go_at_call 12; exact Calls.quiet_of_same (HC.out _ rfl)))
     go_wp2
     go_roundw
     case rel => exact ⟨i + 1, by omega, by go_num, HX1.out, HQ.out.trans (Qt.drewN _ _)⟩
     case measure => simp [intOf]; omega
    ·have HC := hid_intro (fun (W : World) (hW : W.heap = wr.heap) => same_no ao ao2 k k2 c c2 _ _ W (q3.heap (hW.trans HQ.out.heap)) (r3.heap (hW.trans HQ.out.heap)) (HB.out _ (lget_mem (by omega))) (HB'.out _ (lget_mem (by omega))) he)
     have HX1 : Hid (¬ L = M) := fun e => he (by rw [e])
     clear q2 q3 r2 r3 he
     go_wp2
     go_quiet ((go_at_call 12; exact Calls.quiet_of_same (HC.out _ rfl)))
     go_wp2
     go_ret
     exact ⟨⟨false, rfl, by simp [HX1.out]⟩, HQ.out.trans (Qt.drewN _ _)⟩
   ·have hin : i = n := by omega
    subst hin
    have HT : Hid (L = M) := lget_ext (by omega) (fun j hj => HA.out j (by omega))
    go_wp2
    go_ret
    exact ⟨⟨true, rfl, by simp [HT.out]⟩, HQ.out⟩
 ·have HX1 : Hid (¬ L = M) := fun e => h1 (by rw [← hn, ← hn', e])
  have h1' : ¬ (n : Int) = (n' : Int) := by omega
  go_enter Tryz.func13, Tryz.ntmps13
  go_wp2
  go_ret
  exact ⟨⟨false, rfl, by simp [HX1.out]⟩, Qt.refl _⟩
set_option maxHeartbeats 1000000 in
set_option maxRecDepth 100000 in
theorem sameKids_any (a : Option Addr) (n cap : Nat) (L : List Kd) (a' : Option Addr) (n' cap' : Nat) (M : List Kd) (w : World) (hl : Kl w a L) (hn : L.length = n) (hl' : Kl w a' M) (hn' : M.length = n') (hm : n ≤ 9223372036854775807) :
  Calls Tryz.prog 14 #[.slice a n cap, .slice a' n' cap'] w fun en w' => (∃ b, en = .returned (.bool b) ∧ (b = true ↔ L = M)) ∧ Qt w w' := by
 have HL := hid_intro hl
 have HM := hid_intro hl'
 clear hl hl'
 by_cases h1 : n = n'
 ·subst h1
  go_enter Tryz.func14, Tryz.ntmps14
  go_wp2
  go_loopw [5] (fun si wr => ∃ i : Nat, i ≤ n ∧ si = .int .i64 i ∧ (∀ j, j < i → L.getD j kd0 = M.getD j kd0) ∧ Qt w wr) (fun si _ => n - (intOf si).toNat)
  case atStart => exact ⟨0, Nat.zero_le _, rfl, fun j hj => by omega, Qt.refl _⟩
  case round =>
   obtain ⟨i, hi, rfl, ha, hq⟩ := hrel
   have HA := hid_intro ha
   have HQ := hid_intro hq
   clear ha hq
   by_cases hlt : i < n
   ·obtain ⟨b1, off, rfl, q2, q3⟩ := HL.out.row i (by omega)
    obtain ⟨b2, off2, rfl, r2, r3⟩ := HM.out.row i (by omega)
    have c0 := (HQ.out.cell _).trans q2
    have c1 := (HQ.out.cell _).trans r2
    have c2 := (HQ.out.cell _).trans q3
    have c3 := (HQ.out.cell _).trans r3
    have g1 : (i : Int) < (n : Int) := by omega
    have g0 : (0 : Int) ≤ (i : Int) := by omega
    have HE : Hid (L.getD i kd0 = M.getD i kd0 ↔ (L.getD i kd0).no = (M.getD i kd0).no ∧ (L.getD i kd0).keys = (M.getD i kd0).keys) := by
     show _ ↔ _
     generalize L.getD i kd0 = x
     generalize M.getD i kd0 = y
     cases x; cases y; simp
    have HX : Hid (L.getD i kd0 = M.getD i kd0 → ∀ j, j < i + 1 → L.getD j kd0 = M.getD j kd0) := by
     intro h j hj
     by_cases e : j = i
     ·subst e; exact h
     ·exact HA.out j (by omega)
    have HY : Hid (¬ L.getD i kd0 = M.getD i kd0 → ¬ L = M) := fun h e => h (by rw [e])
    clear q2 q3 r2 r3
    rw [HE.out] at HX HY
    clear HE
    generalize (L.getD i kd0).no = n1 at *
    generalize (L.getD i kd0).keys = k1 at *
    generalize (M.getD i kd0).no = n2 at *
    generalize (M.getD i kd0).keys = k2 at *
    by_cases e1 : n1 = n2
    ·subst e1
     by_cases e2 : k1 = k2
     ·subst e2
      have HX1 := hid_intro (HX.out ⟨rfl, rfl⟩)
      clear HX HY
      go_wp2
      go_quiet (fail)
      go_wp2
      go_roundw
      case rel => exact ⟨i + 1, by omega, by go_num, HX1.out, HQ.out.trans (Qt.drewN _ _)⟩
      case measure => simp [intOf]; omega
     ·have HY1 := hid_intro (HY.out (fun h => e2 h.2))
      have d2 : decide (k1 = k2) = false := decide_eq_false e2
      have d3 : (k1 == k2) = false := beq_eq_false_iff_ne.2 e2
      clear HX HY
      go_wp2
      go_quiet (fail)
      go_wp2
      go_ret
      exact ⟨⟨false, rfl, by simp [HY1.out]⟩, HQ.out.trans (Qt.drewN _ _)⟩
    ·have HY1 := hid_intro (HY.out (fun h => e1 h.1))
     have d2 : decide (n1 = n2) = false := decide_eq_false e1
     have d3 : (n1 == n2) = false := beq_eq_false_iff_ne.2 e1
     clear HX HY
     go_wp2
     go_quiet (fail)
     go_wp2
     go_ret
     exact ⟨⟨false, rfl, by simp [HY1.out]⟩, HQ.out.trans (Qt.drewN _ _)⟩
   ·have hin : i = n := by omega
    subst hin
    have HT : Hid (L = M) := kget_ext (by omega) (fun j hj => HA.out j (by omega))
    go_wp2
    go_ret
    exact ⟨⟨true, rfl, by simp [HT.out]⟩, HQ.out⟩
 ·have HX1 : Hid (¬ L = M) := fun e => h1 (by rw [← hn, ← hn', e])
  have h1' : ¬ (n : Int) = (n' : Int) := by omega
  go_enter Tryz.func14, Tryz.ntmps14
  go_wp2
  go_ret
  exact ⟨⟨false, rfl, by simp [HX1.out]⟩, Qt.refl _⟩
def kA : Kd := ⟨2, 1⟩
def skB : Sk := ⟨[109], ⟨3, 5⟩⟩
theorem f_wrong : bwrong ((1 : Nat) : Int) (seps [skB]) (kids kA [skB]) = 0 := by decide
theorem f_used : bused ((1 : Nat) : Int) kA [skB] = [2, 1, 2, 0, 1, 109, 16, 0, 2, 0, 0, 0, 1, 0, 0, 0, 0, 3, 0, 0, 0, 5, 0, 0, 0] := by decide
theorem f5_body : bbody ((1 : Nat) : Int) kA [skB] = [2, 1, 2, 0, 1, 109, 16, 0, 2, 0, 0, 0, 1, 0, 0, 0, 0, 3, 0, 0, 0, 5, 0, 0, 0] ++ List.replicate 4067 0 := by
 unfold bbody
 rw [f_used]
 simp only [List.length_cons, List.length_nil]
theorem f_size : bsize [[109, 97], [109, 98]] = 38 := by decide
theorem f_lb : Lb (seps [skB]) := by
 intro s hs
 obtain rfl := List.mem_singleton.1 hs
 exact btl _ rfl
theorem zero_none (lv : Int) (k : Kd) (M : List Sk) : ¬ BGood (List.replicate 4092 0) lv k M := by
 rintro ⟨h1, h2⟩
 have e : (bbody lv k M).getD 0 0 = 2 := by
  unfold bbody bused bhead
  rfl
 rw [h2] at e
 have e2 : (List.replicate 4092 (0 : Int)).getD 0 0 = 0 := rfl
 rw [e2] at e
 exact absurd e (by decide)
theorem f_take : (bbody ((1 : Nat) : Int) kA [skB]).take 27 = [2, 1, 2, 0, 1, 109, 16, 0, 2, 0, 0, 0, 1, 0, 0, 0, 0, 3, 0, 0, 0, 5, 0, 0, 0, 0, 0] := by
 rw [f5_body]
 rfl
theorem Lz.lit1 (w : World) (e : TypeId) (a : Option Addr) (n x : Nat) (za : List Int) (k : Nat) (hk : k = w.heap.size) (ha : Byt w a n x za) (h1 : n ≤ x) (k1 : x ≤ 9223372036854775807) :
  Lz (w.alloc (.cells #[.slice a n x] e)) (some ⟨k, 0, none⟩) [za] := by
 refine Lz.lit w e _ _ k hk fun i hi => ?_
 match i, hi with
 | 0, _ => exact ⟨_, _, _, rfl, ha, h1, k1⟩
 | i + 1, h => exact absurd h (by simp)
theorem Kl.lit2 (w : World) (x y : Kd) (a b c d : Int) (ha : x.no = a) (hb : x.keys = b) (hc : y.no = c) (hd : y.keys = d) : Kl (w.alloc (.cells #[.int .i64 a, .int .i64 b, .int .i64 c, .int .i64 d] 61)) (some ⟨w.heap.size, 0, none⟩) [x, y] := by
 subst ha hb hc hd
 have hc := fun i => cell_of_row (w.alloc (.cells #[.int .i64 x.no, .int .i64 x.keys, .int .i64 y.no, .int .i64 y.keys] 61)) w.heap.size i _ _ (0, 0) (heap_alloc_new w _)
 refine ⟨fun i hi => ?_⟩
 match i, hi with
 | 0, _ => exact ⟨w.heap.size, 0, rfl, hc 0, hc 1⟩
 | 1, _ => exact ⟨w.heap.size, 0, rfl, hc 2, hc 3⟩
 | i + 2, h => exact absurd h (by simp)
set_option maxHeartbeats 4000000 in
set_option maxRecDepth 100000 in
theorem first5_any (w : World) : Calls Tryz.prog 4 #[] w fun en w' => en = .returned (.bool true) ∧ w.grownBy w' none := by
 obtain ⟨i0, hi, hz0, hz1, hz2⟩ := info_parts info_u8
 have v1 := fun (W : World) (C : Array Value) (n c : Nat) => conv_at W C n c _ rfl
 have v2 := fun (W : World) (o : Obj) (C : Array Value) (n c : Nat) => conv_at (W.alloc o) C n c (W.heap.size + 1) (size_alloc W o).symm
 have v3 := fun (W : World) (o p : Obj) (C : Array Value) (n c : Nat) => conv_at ((W.alloc o).alloc p) C n c (W.heap.size + 2) (by rw [size_alloc, size_alloc])
 go_enter Tryz.func4, Tryz.ntmps4
 go_wp2_with fail
 have HK0 := hid_intro (Kl.lit2 w kA skB.kid 2 1 3 5 rfl rfl rfl rfl)
 have HB0 := hid_intro (Byt.litK (w.alloc (.cells #[.int .i64 2, .int .i64 1, .int .i64 3, .int .i64 5] 61)) 5 #[.int .u8 109] (1, 2) [109] 1 (w.heap.size + 1) rfl rfl (size_alloc w _).symm)
 have HL0 := hid_intro (Lz.lit1 ((w.alloc (.cells #[.int .i64 2, .int .i64 1, .int .i64 3, .int .i64 5] 61)).alloc (.cells #[.int .u8 109] 5 (1, 2))) 26 (some ⟨w.heap.size + 1, 0, none⟩) 1 1 [109] (w.heap.size + 1 + 1) (by rw [size_alloc, size_alloc]) HB0.out (Nat.le_refl _) (by omega))
 have g1 := World.grownBy_alloc w (.cells #[.int .i64 2, .int .i64 1, .int .i64 3, .int .i64 5] 61) none
 have g2 := World.grownBy_alloc (w.alloc (.cells #[.int .i64 2, .int .i64 1, .int .i64 3, .int .i64 5] 61)) (.cells #[.int .u8 109] 5 (1, 2)) none
 have g3 := World.grownBy_alloc ((w.alloc (.cells #[.int .i64 2, .int .i64 1, .int .i64 3, .int .i64 5] 61)).alloc (.cells #[.int .u8 109] 5 (1, 2))) (.cells #[.slice (some ⟨w.heap.size + 1, 0, none⟩) 1 1] 26) none
 have HK1 := hid_intro ((HK0.out.keptN g2).keptN g3)
 have HG0 := hid_intro (grown_trans (grown_trans g1 g2) g3)
 clear g1 g2 g3 HK0 HB0
 generalize (((w.alloc (.cells #[.int .i64 2, .int .i64 1, .int .i64 3, .int .i64 5] 61)).alloc (.cells #[.int .u8 109] 5 (1, 2))).alloc (.cells #[.slice (some ⟨w.heap.size + 1, 0, none⟩) 1 1] 26)) = w0 at *
 obtain ⟨B, hB⟩ : ∃ B, bbody ((1 : Nat) : Int) kA [skB] = B := ⟨_, rfl⟩
 have HBL : Hid (B.length = 4092) := by show _ = _; rw [← hB]; exact bbody_len (bwrong_fit.1 f_wrong).size
 have HBT : Hid (B.take 27 = [2, 1, 2, 0, 1, 109, 16, 0, 2, 0, 0, 0, 1, 0, 0, 0, 0, 3, 0, 0, 0, 5, 0, 0, 0, 0, 0]) := by show _ = _; rw [← hB]; exact f_take
 have HBG : Hid (BGood B ((1 : Nat) : Int) kA [skB]) := ⟨f_wrong, hB⟩
 have HBB : Hid (Bt B) := by show Bt _; rw [← hB]; exact bbody_bt f_lb
 have HEC := hid_intro (bencode_ok 1 (some ⟨w.heap.size + 1 + 1, 0, none⟩) 1 1 (some ⟨w.heap.size, 0, none⟩) 2 kA [skB] w0 HL0.out f_lb HK1.out rfl (Nat.le_refl _) (by omega) f_wrong)
 rw [hB] at HEC
 clear hB
 refine HEC.out.mono ?_
 rintro en w1 ⟨G, rfl, hr1, hg1, _⟩
 have R1 := hid_intro hr1
 have K1 := hid_intro (HK1.out.keptN hg1)
 have G1 := hid_intro (grown_trans HG0.out hg1)
 clear hr1 hg1 HL0 HK1 HG0 HEC v3
 have BW := hid_intro (Byt.litK w1 5 #[.int .u8 2, .int .u8 1, .int .u8 2, .int .u8 0, .int .u8 1, .int .u8 109, .int .u8 16, .int .u8 0, .int .u8 2, .int .u8 0, .int .u8 0, .int .u8 0, .int .u8 1, .int .u8 0, .int .u8 0, .int .u8 0, .int .u8 0, .int .u8 3, .int .u8 0, .int .u8 0, .int .u8 0, .int .u8 5, .int .u8 0, .int .u8 0, .int .u8 0, .int .u8 0, .int .u8 0] (0, 0) [2, 1, 2, 0, 1, 109, 16, 0, 2, 0, 0, 0, 1, 0, 0, 0, 0, 3, 0, 0, 0, 5, 0, 0, 0, 0, 0] 27 w1.heap.size rfl rfl rfl)
 have GW := hid_intro (World.grownBy_alloc w1 (.cells #[.int .u8 2, .int .u8 1, .int .u8 2, .int .u8 0, .int .u8 1, .int .u8 109, .int .u8 16, .int .u8 0, .int .u8 2, .int .u8 0, .int .u8 0, .int .u8 0, .int .u8 1, .int .u8 0, .int .u8 0, .int .u8 0, .int .u8 0, .int .u8 3, .int .u8 0, .int .u8 0, .int .u8 0, .int .u8 5, .int .u8 0, .int .u8 0, .int .u8 0, .int .u8 0, .int .u8 0] 5) none)
 go_wp2_with fail
 generalize w1.alloc (.cells #[.int .u8 2, .int .u8 1, .int .u8 2, .int .u8 0, .int .u8 1, .int .u8 109, .int .u8 16, .int .u8 0, .int .u8 2, .int .u8 0, .int .u8 0, .int .u8 0, .int .u8 1, .int .u8 0, .int .u8 0, .int .u8 0, .int .u8 0, .int .u8 3, .int .u8 0, .int .u8 0, .int .u8 0, .int .u8 5, .int .u8 0, .int .u8 0, .int .u8 0, .int .u8 0, .int .u8 0] 5) = w2 at *
 have R2 := hid_intro (R1.out.keptN GW.out)
 have K2 := hid_intro (K1.out.keptN GW.out)
 have G2 := hid_intro (grown_trans G1.out GW.out)
 clear R1 K1 G1 GW
 generalize w1.heap.size = Q at *
 refine (num5_any _ _).mono ?_
 rintro en w2 ⟨rfl, rfl⟩
 go_wp2_with fail
 have b1 := Byt.litK w2 5 #[.int .u8 109, .int .u8 97] (2, 3) [109, 97] 2 w2.heap.size rfl rfl rfl
 have b2 := Byt.litK (w2.alloc (.cells #[.int .u8 109, .int .u8 97] 5 (2, 3))) 5 #[.int .u8 109, .int .u8 98] (2, 3) [109, 98] 2 (w2.heap.size + 1) rfl rfl (size_alloc w2 _).symm
 have HL2 := hid_intro (Lz.lit2 ((w2.alloc (.cells #[.int .u8 109, .int .u8 97] 5 (2, 3))).alloc (.cells #[.int .u8 109, .int .u8 98] 5 (2, 3))) 26 (some ⟨w2.heap.size, 0, none⟩) (some ⟨w2.heap.size + 1, 0, none⟩) 2 2 2 2 [109, 97] [109, 98] (w2.heap.size + 1 + 1) (by rw [size_alloc, size_alloc]) (b1.on _) b2 (Nat.le_refl _) (Nat.le_refl _) (by omega) (by omega))
 have gg := grown_trans (grown_trans (World.grownBy_alloc w2 (.cells #[.int .u8 109, .int .u8 97] 5 (2, 3)) none) (World.grownBy_alloc _ (.cells #[.int .u8 109, .int .u8 98] 5 (2, 3)) none)) (World.grownBy_alloc _ (.cells #[.slice (some ⟨w2.heap.size, 0, none⟩) 2 2, .slice (some ⟨w2.heap.size + 1, 0, none⟩) 2 2] 26) none)
 have R3 := hid_intro (R2.out.keptN gg)
 have K3 := hid_intro (K2.out.keptN gg)
 have G3 := hid_intro (grown_trans G2.out gg)
 have B3 := hid_intro (BW.out.keptN gg)
 clear b1 b2 gg R2 K2 G2 BW
 generalize ((w2.alloc (.cells #[.int .u8 109, .int .u8 97] 5 (2, 3))).alloc (.cells #[.int .u8 109, .int .u8 98] 5 (2, 3))).alloc (.cells #[.slice (some ⟨w2.heap.size, 0, none⟩) 2 2, .slice (some ⟨w2.heap.size + 1, 0, none⟩) 2 2] 26) = w3 at *
 refine (bsize_any _ 2 2 [[109, 97], [109, 98]] _ HL2.out rfl (by omega) (Nat.le_refl _) (by omega) (by decide)).mono ?_
 rintro en w4 ⟨rfl, hg4⟩
 rw [f_size]
 have R4 := hid_intro (R3.out.keptN hg4)
 have K4 := hid_intro (K3.out.keptN hg4)
 have G4 := hid_intro (grown_trans G3.out hg4)
 have B4 := hid_intro (B3.out.keptN hg4)
 clear hg4 R3 K3 G3 B3 HL2
 have X4 : Hid (Byt w4 (some ⟨G, 0, none⟩) 27 4092 [2, 1, 2, 0, 1, 109, 16, 0, 2, 0, 0, 0, 1, 0, 0, 0, 0, 3, 0, 0, 0, 5, 0, 0, 0, 0, 0]) := by
  have := R4.out.byt 0 27 4092 (by rw [HBL.out]; omega)
  rw [List.drop_zero, HBT.out] at this
  exact this
 go_wp2_with fail
 refine (same_yes _ _ 27 27 4092 27 _ _ _ X4.out B4.out rfl).mono ?_
 rintro en w4 ⟨rfl, rfl⟩
 clear X4 B4 HBT
 go_wp2_with fail
 refine (bdecode_any _ 4092 4092 B _ (R4.out.all 4092 4092 HBL.out.symm) HBB.out).mono ?_
 rintro en w6 ⟨⟨lv, a, n, cap, b, m, cap2, e, L, K, rfl, hdec, hlz, hlb, hn, hnc, hcm, hkl, hm, hmc, hcm2⟩, hg6⟩
 obtain ⟨rfl, rfl, rfl, rfl⟩ : e = 0 ∧ lv = ((1 : Nat) : Int) ∧ L = seps [skB] ∧ K = kids kA [skB] := by
  by_cases he : e = 0
  ·obtain ⟨_, k, M, h1, h2, h3⟩ := hdec.good he
   obtain ⟨e1, rfl, rfl⟩ := bgood_one h3 HBG.out
   exact ⟨he, e1, h1, h2⟩
  ·exact absurd HBG.out ((hdec.bad he).2.2.2 _ _ _)
 have L6 := hid_intro hlz
 have M6 := hid_intro hkl
 have K6 := hid_intro (K4.out.keptN hg6)
 have G6 := hid_intro (grown_trans G4.out hg6)
 clear hlz hkl hg6 hdec R4 K4 G4 HBG HBL
 have n1 : n = 1 := by rw [← hn]; rfl
 have m1 : m = 2 := by rw [← hm]; rfl
 subst n1 m1
 clear hn hm
 go_wp2_with fail
 have b1 := Byt.litK w6 5 #[.int .u8 109] (1, 2) [109] 1 w6.heap.size rfl rfl rfl
 have HL7 := hid_intro (Lz.lit1 (w6.alloc (.cells #[.int .u8 109] 5 (1, 2))) 26 (some ⟨w6.heap.size, 0, none⟩) 1 1 [109] (w6.heap.size + 1) (size_alloc w6 _).symm b1 (Nat.le_refl _) (by omega))
 have gg := grown_trans (World.grownBy_alloc w6 (.cells #[.int .u8 109] 5 (1, 2)) none) (World.grownBy_alloc _ (.cells #[.slice (some ⟨w6.heap.size, 0, none⟩) 1 1] 26) none)
 have L7 := hid_intro (L6.out.keptN gg)
 have M7 := hid_intro (M6.out.keptN gg)
 have K7 := hid_intro (K6.out.keptN gg)
 have G7 := hid_intro (grown_trans G6.out gg)
 clear b1 gg L6 M6 K6 G6
 generalize (w6.alloc (.cells #[.int .u8 109] 5 (1, 2))).alloc (.cells #[.slice (some ⟨w6.heap.size, 0, none⟩) 1 1] 26) = w7 at *
 refine (sameLists_any _ 1 cap (seps [skB]) _ 1 1 (seps [skB]) _ L7.out f_lb rfl HL7.out f_lb rfl (by omega)).mono ?_
 rintro en w8 ⟨⟨b8, rfl, hb8⟩, hq8⟩
 obtain rfl : b8 = true := hb8.2 rfl
 have M8 := hid_intro (M7.out.heap hq8.heap)
 have K8 := hid_intro (K7.out.heap hq8.heap)
 have G8 := hid_intro (grown_trans G7.out (hq8.grown none))
 clear hb8 hq8 L7 HL7 M7 K7 G7
 go_wp2_with fail
 refine (sameKids_any _ 2 cap2 (kids kA [skB]) _ 2 2 (kids kA [skB]) _ M8.out rfl K8.out rfl (by omega)).mono ?_
 rintro en w9 ⟨⟨b9, rfl, hb9⟩, hq9⟩
 obtain rfl : b9 = true := hb9.2 rfl
 have G9 := hid_intro (grown_trans G8.out (hq9.grown none))
 clear hb9 hq9 M8 K8 G8 v1 v2
 go_wp2_with (at_make; refine wpList_make_full _ rfl _ _ 26 rfl w9.heap.size 5 i0 (.int .u8 0) 1 Tryz.underlying26 hi hz0 hz1 _ _ _ _ 4092 rfl rfl rfl rfl ?b2 ?b3 (Nat.le_refl _) ?_)
 case b2 => rw [hz2]; omega
 case b3 => unfold maxLen; omega
 intro w10 hown hg10
 rw [made] at hown
 obtain ⟨Z, hZ⟩ : ∃ Z : List Int, Z = List.replicate 4092 0 := ⟨_, rfl⟩
 have hZl : Z.length = 4092 := by rw [hZ, List.length_replicate]
 have RN : Hid (Rw w10 w9.heap.size Z) := by
  show Rw _ _ _
  rw [hZ]
  exact Rw.of_owns hown
 have HZB : Hid (Bt Z) := by
  show Bt _
  rw [hZ]
  intro z hz
  obtain ⟨_, rfl⟩ := List.mem_replicate.1 hz
  omega
 have HZN : Hid (∀ lv k M, ¬ BGood Z lv k M) := by
  show ∀ lv k M, _
  rw [hZ]
  exact zero_none
 have G10 := hid_intro (grown_trans G9.out hg10)
 clear hown hg10 hZ G9
 go_wp2_with fail
 refine (bdecode_any _ 4092 4092 Z _ (RN.out.all 4092 4092 hZl.symm) HZB.out).mono ?_
 rintro en w11 ⟨⟨lv, a', n', cap', b', m', cap3, e, L, K, rfl, hdec, _⟩, hg11⟩
 obtain rfl : e = 50 := by
  rcases hdec.code with h | h
  ·obtain ⟨_, k, M, _, _, h3⟩ := hdec.good h
   exact absurd h3 (HZN.out _ _ _)
  ·exact h
 have G11 := hid_intro (grown_trans G10.out hg11)
 clear hg11 hdec RN G10 HZB HZN
 go_wp2_with fail
 refine (num5_any _ _).mono ?_
 rintro en w12 ⟨rfl, rfl⟩
 go_wp2_with fail
 refine (num5_any _ _).mono ?_
 rintro en w12 ⟨rfl, rfl⟩
 go_wp2
 go_ret
 exact ⟨rfl, G11.out⟩
end Go.Proofs.YtnfelndfpmnkmaaGreatDoor
