import Derived.Test.YtnfelndfpmnkmaaGreatDoorQ12
import Derived.Test.YtnfelndfpmnkmaaGreatDoorQ13
import Derived.Test.YtnfelndfpmnkmaaGreatDoorQ14
namespace Go.Proofs.YtnfelndfpmnkmaaGreatDoor
open Go.RowKit
structure Kl (w : World) (a : Option Addr) (K : List Kd) : Prop where
 row : ∀ i, i < K.length → ∃ b off, a = some ⟨b, off, none⟩ ∧ w.cell? ⟨b, off + i * 2, none⟩ = some (.int .i64 (K.getD i kd0).no) ∧ w.cell? ⟨b, off + i * 2 + 1, none⟩ = some (.int .i64 (K.getD i kd0).keys)
theorem Kl.heap {w w' : World} {a : Option Addr} {K : List Kd} (h : Kl w a K) (e : w'.heap = w.heap) : Kl w' a K := by
 refine ⟨fun i hi => ?_⟩
 obtain ⟨b, off, h1, h2, h3⟩ := h.row i hi
 exact ⟨b, off, h1, (World.cell?_of_block (by rw [e])).trans h2, (World.cell?_of_block (by rw [e])).trans h3⟩
theorem Kl.keptN {w w' : World} {a : Option Addr} {K : List Kd} (h : Kl w a K) (hg : w.grownBy w' none) : Kl w' a K := by
 refine ⟨fun i hi => ?_⟩
 obtain ⟨b, off, h1, h2, h3⟩ := h.row i hi
 exact ⟨b, off, h1, hg.cell h2 (by simp), hg.cell h3 (by simp)⟩
theorem Kl.zero (w : World) (a : Option Addr) : Kl w a [] := ⟨fun i hi => by simp at hi⟩
structure Kdb (k : Kd) : Prop where
 n1 : -9223372036854775808 ≤ k.no
 n2 : k.no ≤ 9223372036854775807
 k1 : -9223372036854775808 ≤ k.keys
 k2 : k.keys ≤ 9223372036854775807
def Kb (K : List Kd) : Prop := ∀ k ∈ K, Kdb k
def Lb (L : List (List Int)) : Prop := ∀ s ∈ L, Bt s
theorem kget_mem {K : List Kd} {i : Nat} (h : i < K.length) : K.getD i kd0 ∈ K := by
 simp [List.getD, List.getElem?_eq_getElem h]
theorem lget_mem {L : List (List Int)} {i : Nat} (h : i < L.length) : L.getD i [] ∈ L := by
 simp [List.getD, List.getElem?_eq_getElem h]
theorem bcommonAll_any (a : Option Addr) (n cap : Nat) (L : List (List Int)) (w : World) (hl : Lz w a L) (hn : L.length = n) (hc : n ≤ cap) (hcap : cap ≤ 9223372036854775807) :
  Calls Tryz.prog 38 #[.slice a n cap] w fun en w' => en = .returned (.int .i64 ((bpre L : Nat) : Int)) ∧ w.grownBy w' none := by
 cases L with
 | nil =>
  obtain rfl : n = 0 := by simpa using hn.symm
  refine (commonAll_none a cap w).mono ?_
  rintro en w' ⟨rfl, rfl⟩
  exact ⟨rfl, World.grownBy.refl _ _⟩
 | cons x L =>
  have := commonAll_some a cap x L w hl (by simp at hn; omega) hcap
  obtain rfl : L.length + 1 = n := by simpa using hn
  exact this
set_option maxHeartbeats 400000 in
set_option maxRecDepth 100000 in
theorem stringSize_any (n : Nat) (w : World) (h : n ≤ 1000000) : Calls Tryz.prog 39 #[.int .i64 n] w fun en w' => en = .returned (.int .i64 ((vl n + n : Nat) : Int)) ∧ w' = w := by
 have hv : (vform n).length ≤ 10 := vl_le n
 go_enter Tryz.func39, Tryz.ntmps39
 go_wp2_with fail
 refine (vlen_calls n _ (by omega)).mono ?_
 rintro en w1 ⟨rfl, rfl⟩
 go_wp2
 go_ret
 refine ⟨ret_int ?_, rfl⟩
 unfold vl
 go_num
set_option maxHeartbeats 400000 in
set_option maxRecDepth 100000 in
theorem bcellSize_any (ao : Option Addr) (n c : Nat) (w : World) (h : n ≤ 1000000) : Calls Tryz.prog 40 #[.slice ao n c] w fun en w' => en = .returned (.int .i64 ((vl n + n + 8 : Nat) : Int)) ∧ w' = w := by
 have hv : vl n ≤ 10 := vl_le n
 go_enter Tryz.func40, Tryz.ntmps40
 go_wp2_with fail
 refine (stringSize_any n _ h).mono ?_
 rintro en w1 ⟨rfl, rfl⟩
 go_wp2
 go_ret
 exact ⟨ret_int (by go_num), rfl⟩
theorem bsize_int {L : List (List Int)} (hm : L.length ≤ 5000) (hk : ∀ x ∈ L, x.length ≤ 1000000) : ∀ i, i ≤ L.length → bsums (bpre L) (L.take i) ≤ 5005000000 := by
 intro i hi
 have h := bsums_le (bpre L) 1000000 (L.take i) (fun x hx => hk x (List.mem_of_mem_take hx))
 rw [List.length_take] at h
 have h2 : min i L.length * (1000000 + 20) ≤ 5000 * (1000000 + 20) := Nat.mul_le_mul_right _ (by omega)
 omega
set_option maxHeartbeats 2000000 in
set_option maxRecDepth 100000 in
theorem bsize_any (a : Option Addr) (n cap : Nat) (L : List (List Int)) (w : World) (hl : Lz w a L) (hn : L.length = n) (hm : n ≤ 5000) (hc : n ≤ cap) (hcap : cap ≤ 9223372036854775807) (hk : ∀ x ∈ L, x.length ≤ 1000000) :
  Calls Tryz.prog 22 #[.slice a n cap] w fun en w' => en = .returned (.int .i64 ((bsize L : Nat) : Int)) ∧ w.grownBy w' none := by
 have HL := hid_intro hl
 have HP : Hid (∀ x ∈ L, bpre L ≤ x.length) := fun x hx => (bpre_each x hx).1
 have HS := hid_intro (bsize_int (by omega) hk)
 have HM : Hid (bsize L = 12 + vl (bpre L) + bpre L + bsums (bpre L) L) := rfl
 have HN := hid_intro (fun i h => bsums_snoc (bpre L) L i h)
 have hv := vl_le (bpre L)
 have hpl : bpre L ≤ 1000000 := by
  cases L with
  | nil => exact Nat.zero_le _
  | cons x L => exact Nat.le_trans (bpre_each x List.mem_cons_self).1 (hk x List.mem_cons_self)
 have HK := hid_intro hk
 clear hl hk
 go_enter Tryz.func22, Tryz.ntmps22
 go_wp2_with fail
 refine (bcommonAll_any a n cap L _ HL.out hn hc hcap).mono ?_
 rintro en w1 ⟨rfl, hg1⟩
 have HG := hid_intro hg1
 clear hg1
 generalize bpre L = p at *
 go_wp2_with fail
 refine (stringSize_any p _ (by omega)).mono ?_
 rintro en w2 ⟨rfl, rfl⟩
 generalize hvv : vl p = v at *
 have HV := hid_intro hvv
 clear hvv
 go_wp2
 go_loopw [4, 6, 15] (fun sn _ si wr => ∃ i : Nat, i ≤ n ∧ si = .int .i64 i ∧ sn = .int .i64 ((12 + v + p + bsums p (L.take i) : Nat) : Int) ∧ w.grownBy wr none) (fun _ _ si _ => n - (intOf si).toNat)
 case atStart => exact ⟨0, Nat.zero_le _, rfl, by simp [bsums]; go_num, HG.out⟩
 case round =>
  obtain ⟨i, hi, rfl, rfl, hg⟩ := hrel
  have HG1 := hid_intro hg
  have b1 := HS.out i (by omega)
  clear hg HG
  by_cases hlt : i < n
  ·obtain ⟨b, off, ao, m, c, rfl, q2, q3, q4, q5⟩ := HL.out.row i (by omega)
   have c0 := HG1.out.cell q2 (by simp)
   have hx := lget_mem (L := L) (i := i) (by omega)
   have hm1 := q3.len
   have hp1 := HP.out _ hx
   have hk1 := HK.out _ hx
   have b2 := bcl_le p (L.getD i [])
   have HX : Hid (bsums p (L.take (i + 1)) = bsums p (L.take i) + (2 + bcl p (L.getD i []))) := HN.out i (by omega)
   obtain ⟨r, hr⟩ : ∃ r, m - p = r := ⟨_, rfl⟩
   have HCL : Hid (bcl p (L.getD i []) = vl r + r + 8) := by show _ = _; unfold bcl; rw [hm1, hr]
   have hnil := q3.nil
   rw [HCL.out] at b2
   rw [HCL.out] at HX
   have HC := hid_intro (fun (ao' : Option Addr) (c' : Nat) (W : World) => bcellSize_any ao' r c' W (by omega))
   clear q2 q3 HCL
   generalize vl r + r + 8 = C at *
   generalize bsums p (L.take i) = U at *
   have g1 : (p : Int) ≤ (m : Int) := by omega
   have g2 : (0 : Int) ≤ (p : Int) := by omega
   have g3 : (p : Int) ≤ (c : Int) := by omega
   rw [hm1] at hp1
   clear hm1 hx
   cases ao with
   | none =>
    obtain ⟨rfl, rfl⟩ := hnil rfl
    have g4 : ¬ (0 : Int) < (p : Int) := by omega
    go_wp2_with fail
    refine (HC.out _ _ _).mono ?_
    rintro en w2 ⟨rfl, rfl⟩
    go_wp2
    go_roundw
    case rel => exact ⟨i + 1, by omega, by go_num, by rw [HX.out]; go_num, HG1.out⟩
    case measure => simp [intOf]; omega
   | some ad =>
    clear hnil
    by_cases hcp : c = p
    ·subst hcp
     go_wp2_with fail
     refine (HC.out _ _ _).mono ?_
     rintro en w2 ⟨rfl, rfl⟩
     go_wp2
     go_roundw
     case rel => exact ⟨i + 1, by omega, by go_num, by rw [HX.out]; go_num, HG1.out⟩
     case measure => simp [intOf]; omega
    ·go_wp2_with fail
     refine (HC.out _ _ _).mono ?_
     rintro en w2 ⟨rfl, rfl⟩
     go_wp2
     go_roundw
     case rel => exact ⟨i + 1, by omega, by go_num, by rw [HX.out]; go_num, HG1.out⟩
     case measure => simp [intOf]; omega
  ·have hin : i = n := by omega
   subst hin
   go_wp2
   go_ret
   refine ⟨ret_int ?_, HG1.out⟩
   rw [HM.out, ← hn, List.take_length]
set_option maxHeartbeats 1000000 in
set_option maxRecDepth 100000 in
theorem wrongKid_any (no ks : Int) (w : World) : Calls Tryz.prog 47 #[.agg #[.int .i64 no, .int .i64 ks]] w fun en w' => en = .returned (.bool (wk ⟨no, ks⟩)) ∧ w.grownBy w' none := by
 have HW : Hid (wk ⟨no, ks⟩ = (decide (no < 2) || decide (524287 ≤ no) || decide (ks < 1) || decide (4294967295 < ks))) := rfl
 have G1 := hid_intro (World.grownBy_alloc w (.cells #[.int .i64 no, .int .i64 ks] 61) none)
 by_cases h1 : no < 2
 ·go_enter Tryz.func47, Tryz.ntmps47
  go_wp2
  go_ret
  exact ⟨by rw [HW.out]; simp [h1], G1.out⟩
 ·by_cases h2 : (524287 : Int) ≤ no
  ·go_enter Tryz.func47, Tryz.ntmps47
   go_wp2
   go_ret
   exact ⟨by rw [HW.out]; simp [h2], G1.out⟩
  ·by_cases h3 : ks < 1
   ·go_enter Tryz.func47, Tryz.ntmps47
    go_wp2
    go_ret
    exact ⟨by rw [HW.out]; simp [h3], G1.out⟩
   ·go_enter Tryz.func47, Tryz.ntmps47
    go_wp2
    go_ret
    exact ⟨by rw [HW.out]; simp; omega, G1.out⟩
set_option maxHeartbeats 1000000 in
set_option maxRecDepth 100000 in
theorem wrongSep_any (ao : Option Addr) (n c : Nat) (w : World) (x : List Int) (hx : x.length = n) : Calls Tryz.prog 49 #[.slice ao n c] w fun en w' => en = .returned (.bool (wsep x)) ∧ w' = w := by
 have HW : Hid (wsep x = !(valid n)) := by show _ = _; unfold wsep valid; rw [hx]
 go_enter Tryz.func49, Tryz.ntmps49
 go_wp2_with fail
 refine (valid_any _ _ _ _).mono ?_
 rintro en w1 ⟨rfl, rfl⟩
 generalize valid n = v at *
 go_wp2
 go_ret
 exact ⟨by rw [HW.out]; rfl, rfl⟩
theorem kany_take {P : Kd → Bool} {K : List Kd} {i : Nat} (h : i < K.length) (k : (K.take i).any P = false) (e : P (K.getD i kd0) = false) : (K.take (i + 1)).any P = false := by
 have hg : K.getD i kd0 = K[i] := by simp [List.getD, List.getElem?_eq_getElem h]
 rw [List.take_add_one, List.getElem?_eq_getElem h, List.any_append, k]
 rw [hg] at e
 simp [e]
theorem lany_take {P : List Int → Bool} {K : List (List Int)} {i : Nat} (h : i < K.length) (k : (K.take i).any P = false) (e : P (K.getD i []) = false) : (K.take (i + 1)).any P = false := by
 have hg : K.getD i [] = K[i] := by simp [List.getD, List.getElem?_eq_getElem h]
 rw [List.take_add_one, List.getElem?_eq_getElem h, List.any_append, k]
 rw [hg] at e
 simp [e]
set_option maxHeartbeats 2000000 in
set_option maxRecDepth 100000 in
theorem index_kid (a : Option Addr) (n cap : Nat) (K : List Kd) (w : World) (hl : Kl w a K) (hn : K.length = n) (hm : n ≤ 5000) :
  Calls Tryz.prog 122 #[.slice a n cap, .func (.func 47) #[] #[]] w fun en w' => (∃ r : Int, en = .returned (.int .i64 r) ∧ (r < 0 ↔ K.any wk = false)) ∧ w.grownBy w' none := by
 have HL := hid_intro hl
 clear hl
 go_enter Tryz.func122, Tryz.ntmps122
 go_wp2
 go_loopw [5, 8] (fun _ si wr => ∃ i : Nat, i ≤ n ∧ si = .int .i64 i ∧ (K.take i).any wk = false ∧ w.grownBy wr none) (fun _ si _ => n - (intOf si).toNat)
 case atStart => exact ⟨0, Nat.zero_le _, rfl, by simp, World.grownBy.refl _ _⟩
 case round =>
  obtain ⟨i, hi, rfl, ha, hg⟩ := hrel
  have HG1 := hid_intro hg
  have HA := hid_intro ha
  clear hg ha
  by_cases hlt : i < n
  ·obtain ⟨b, off, rfl, q2, q3⟩ := HL.out.row i (by omega)
   have c0 := HG1.out.cell q2 (by simp)
   have c1 := HG1.out.cell q3 (by simp)
   have HX : Hid (wk (K.getD i kd0) = false → (K.take (i + 1)).any wk = false) := fun e => kany_take (by omega) HA.out e
   have HY : Hid (wk (K.getD i kd0) = true → K.any wk = true) := fun e => List.any_eq_true.2 ⟨_, kget_mem (by omega), e⟩
   have HC := hid_intro (fun (W : World) => wrongKid_any (K.getD i kd0).no (K.getD i kd0).keys W)
   have HE : Hid (wk ⟨(K.getD i kd0).no, (K.getD i kd0).keys⟩ = wk (K.getD i kd0)) := rfl
   rw [HE.out] at HC
   clear q2 q3 HE
   generalize (K.getD i kd0).no = no at *
   generalize (K.getD i kd0).keys = ks at *
   generalize wk (K.getD i kd0) = bb at *
   go_wp2_with fail
   refine (HC.out _).mono ?_
   rintro en w2 ⟨rfl, hg2⟩
   have HG2 := hid_intro (grown_trans HG1.out hg2)
   clear hg2
   cases bb with
   | true =>
    have HY1 := hid_intro (HY.out rfl)
    clear HX HY
    go_wp2
    go_ret
    refine ⟨⟨_, rfl, ?_⟩, HG2.out⟩
    rw [HY1.out]
    simp
   | false =>
    have HX1 := hid_intro (HX.out rfl)
    clear HX HY
    go_wp2
    go_roundw
    case rel => exact ⟨i + 1, by omega, by go_num, HX1.out, HG2.out⟩
    case measure => simp [intOf]; omega
  ·have hin : i = n := by omega
   subst hin
   go_wp2
   go_ret
   refine ⟨⟨-1, rfl, ?_⟩, HG1.out⟩
   have := HA.out
   rw [← hn, List.take_length] at this
   rw [this]
   simp
set_option maxHeartbeats 1000000 in
set_option maxRecDepth 100000 in
theorem contains_kid (a : Option Addr) (n cap : Nat) (K : List Kd) (w : World) (hl : Kl w a K) (hn : K.length = n) (hm : n ≤ 5000) :
  Calls Tryz.prog 46 #[.slice a n cap, .func (.func 47) #[] #[]] w fun en w' => en = .returned (.bool (K.any wk)) ∧ w.grownBy w' none := by
 go_enter Tryz.func46, Tryz.ntmps46
 go_wp2_with fail
 refine (index_kid a n cap K _ hl hn hm).mono ?_
 rintro en w1 ⟨⟨r, rfl, hr⟩, hg⟩
 have HR := hid_intro hr
 have HG := hid_intro hg
 clear hr hg hl
 by_cases h0 : r < 0
 ·go_wp2
  go_ret
  exact ⟨by rw [HR.out.1 h0]; simp [h0], HG.out⟩
 ·have this : Hid (K.any wk = true) := by
   show _ = _
   cases hb : K.any wk with
   | true => rfl
   | false => exact absurd (HR.out.2 hb) h0
  go_wp2
  go_ret
  exact ⟨by rw [this.out]; rfl, HG.out⟩
set_option maxHeartbeats 2000000 in
set_option maxRecDepth 100000 in
theorem index_sep (a : Option Addr) (n cap : Nat) (K : List (List Int)) (w : World) (hl : Lz w a K) (hn : K.length = n) (hm : n ≤ 5000) :
  Calls Tryz.prog 123 #[.slice a n cap, .func (.func 49) #[] #[]] w fun en w' => (∃ r : Int, en = .returned (.int .i64 r) ∧ (r < 0 ↔ K.any wsep = false)) ∧ w.grownBy w' none := by
 have HL := hid_intro hl
 clear hl
 go_enter Tryz.func123, Tryz.ntmps123
 go_wp2
 go_loopw [5, 8] (fun _ si wr => ∃ i : Nat, i ≤ n ∧ si = .int .i64 i ∧ (K.take i).any wsep = false ∧ w.grownBy wr none) (fun _ si _ => n - (intOf si).toNat)
 case atStart => exact ⟨0, Nat.zero_le _, rfl, by simp, World.grownBy.refl _ _⟩
 case round =>
  obtain ⟨i, hi, rfl, ha, hg⟩ := hrel
  have HG1 := hid_intro hg
  have HA := hid_intro ha
  clear hg ha
  by_cases hlt : i < n
  ·obtain ⟨b, off, ao, m, c, rfl, q2, q3, q4, q5⟩ := HL.out.row i (by omega)
   have c0 := HG1.out.cell q2 (by simp)
   have HX : Hid (wsep (K.getD i []) = false → (K.take (i + 1)).any wsep = false) := fun e => lany_take (by omega) HA.out e
   have HY : Hid (wsep (K.getD i []) = true → K.any wsep = true) := fun e => List.any_eq_true.2 ⟨_, lget_mem (by omega), e⟩
   have HC := hid_intro (fun (W : World) => wrongSep_any ao m c W (K.getD i []) q3.len)
   clear q2 q3
   generalize wsep (K.getD i []) = bb at *
   go_wp2_with fail
   refine (HC.out _).mono ?_
   rintro en w2 ⟨rfl, rfl⟩
   cases bb with
   | true =>
    have HY1 := hid_intro (HY.out rfl)
    clear HX HY
    go_wp2
    go_ret
    refine ⟨⟨_, rfl, ?_⟩, HG1.out⟩
    rw [HY1.out]
    simp
   | false =>
    have HX1 := hid_intro (HX.out rfl)
    clear HX HY
    go_wp2
    go_roundw
    case rel => exact ⟨i + 1, by omega, by go_num, HX1.out, HG1.out⟩
    case measure => simp [intOf]; omega
  ·have hin : i = n := by omega
   subst hin
   go_wp2
   go_ret
   refine ⟨⟨-1, rfl, ?_⟩, HG1.out⟩
   have := HA.out
   rw [← hn, List.take_length] at this
   rw [this]
   simp
set_option maxHeartbeats 1000000 in
set_option maxRecDepth 100000 in
theorem contains_sep (a : Option Addr) (n cap : Nat) (K : List (List Int)) (w : World) (hl : Lz w a K) (hn : K.length = n) (hm : n ≤ 5000) :
  Calls Tryz.prog 48 #[.slice a n cap, .func (.func 49) #[] #[]] w fun en w' => en = .returned (.bool (K.any wsep)) ∧ w.grownBy w' none := by
 go_enter Tryz.func48, Tryz.ntmps48
 go_wp2_with fail
 refine (index_sep a n cap K _ hl hn hm).mono ?_
 rintro en w1 ⟨⟨r, rfl, hr⟩, hg⟩
 have HR := hid_intro hr
 have HG := hid_intro hg
 clear hr hg hl
 by_cases h0 : r < 0
 ·go_wp2
  go_ret
  exact ⟨by rw [HR.out.1 h0]; simp [h0], HG.out⟩
 ·have this : Hid (K.any wsep = true) := by
   show _ = _
   cases hb : K.any wsep with
   | true => rfl
   | false => exact absurd (HR.out.2 hb) h0
  go_wp2
  go_ret
  exact ⟨by rw [this.out]; rfl, HG.out⟩
set_option maxHeartbeats 2000000 in
set_option maxRecDepth 100000 in
theorem brising_any (a : Option Addr) (n cap : Nat) (L : List (List Int)) (w : World) (hl : Lz w a L) (hb : Lb L) (hn : L.length = n) (hm : n ≤ 5000) :
  Calls Tryz.prog 50 #[.slice a n cap] w fun en w' => en = .returned (.bool (bups L)) ∧ w.grownBy w' none := by
 have HL := hid_intro hl
 have HB := hid_intro hb
 clear hl hb
 go_enter Tryz.func50, Tryz.ntmps50
 go_wp2
 go_loopw [3] (fun si wr => ∃ i : Nat, i ≤ n ∧ si = .int .i64 ((i + 1 : Nat) : Int) ∧ (∀ j, j < i → j + 1 < n → cmpZ (L.getD j []) (L.getD (j + 1) []) < 0) ∧ Qt w wr) (fun si _ => n + 1 - (intOf si).toNat)
 case atStart => exact ⟨0, Nat.zero_le _, rfl, fun j hj => by omega, Qt.refl _⟩
 case round =>
  obtain ⟨i, hi, rfl, ha, hq⟩ := hrel
  have HQ := hid_intro hq
  have HA := hid_intro ha
  clear hq ha
  by_cases hlt : i + 1 < n
  ·obtain ⟨b, off, ao, m, c, rfl, q2, q3, q4, q5⟩ := HL.out.row i (by omega)
   obtain ⟨b', off', ao', m', c', e1, r2, r3, r4, r5⟩ := HL.out.row (i + 1) (by omega)
   simp only [Option.some.injEq, Addr.mk.injEq] at e1
   obtain ⟨rfl, rfl, _⟩ := e1
   have c0 := (HQ.out.cell _).trans q2
   have c1 := (HQ.out.cell _).trans r2
   have HC := hid_intro (fun (W : World) (hW : W.heap = wr.heap) => compare_any ao ao' m m' c c' _ _ W (q3.heap (hW.trans HQ.out.heap)) (r3.heap (hW.trans HQ.out.heap)) (HB.out _ (lget_mem (by omega))) (HB.out _ (lget_mem (by omega))))
   have HD : Hid (cmpZ (L.getD i []) (L.getD (i + 1) []) < 0 → ∀ j, j < i + 1 → j + 1 < n → cmpZ (L.getD j []) (L.getD (j + 1) []) < 0) := by
    intro h j hj hj2
    by_cases e : j = i
    ·subst e; exact h
    ·exact HA.out j (by omega) hj2
   have HE : Hid (¬ cmpZ (L.getD i []) (L.getD (i + 1) []) < 0 → bups L = false) := by
    intro h
    cases hu : bups L with
    | false => rfl
    | true => exact absurd ((bups_iff L).1 hu i (by omega)) h
   clear q2 q3 r2 r3
   generalize cmpZ (L.getD i []) (L.getD (i + 1) []) = z at *
   have g1 : ((i + 1 : Nat) : Int) < (n : Int) := by omega
   have g0 : (0 : Int) ≤ ((i + 1 : Nat) : Int) := by omega
   have g2 : ((i + 1 : Nat) : Int) - 1 = (i : Int) := by omega
   have g3 : (i : Int) < (n : Int) := by omega
   have g4 : (0 : Int) ≤ (i : Int) := by omega
   obtain ⟨j, hj⟩ : ∃ j, i + 1 = j := ⟨_, rfl⟩
   rw [hj] at g1 g0 g2 c1 ⊢
   have HJ := hid_intro hj
   clear hj
   by_cases hz : z < 0
   ·have hz' : decide (0 ≤ z) = false := decide_eq_false (by omega)
    go_wp2
    go_quiet ((go_at_call 125; exact Calls.quiet_of_same (HC.out _ rfl)))
    go_wp2
    go_roundw
    case rel => exact ⟨i + 1, by omega, by have := HJ.out; go_num, HD.out hz, HQ.out.trans (Qt.drewN _ _)⟩
    case measure => have := HJ.out; simp [intOf]; omega
   ·have hz' : decide (0 ≤ z) = true := decide_eq_true (by omega)
    go_wp2
    go_quiet ((go_at_call 125; exact Calls.quiet_of_same (HC.out _ rfl)))
    go_wp2
    go_ret
    exact ⟨by rw [HE.out hz]; rfl, (HQ.out.trans (Qt.drewN _ _)).grown _⟩
  ·have g1 : ¬ ((i + 1 : Nat) : Int) < (n : Int) := by omega
   obtain ⟨j, hj⟩ : ∃ j, i + 1 = j := ⟨_, rfl⟩
   rw [hj] at g1 ⊢
   have HU : Hid (bups L = true) := (bups_iff L).2 (fun k hk => HA.out k (by omega) (by omega))
   go_wp2
   go_ret
   exact ⟨by rw [HU.out]; rfl, HQ.out.grown _⟩
set_option maxHeartbeats 2000000 in
set_option maxRecDepth 100000 in
theorem berrorOf_any (lv : Int) (a : Option Addr) (n cap : Nat) (L : List (List Int)) (b : Option Addr) (m cap2 : Nat) (K : List Kd) (w : World) (hl : Lz w a L) (hb : Lb L) (hn : L.length = n) (hm : n ≤ 5000) (hc : n ≤ cap) (hcap : cap ≤ 9223372036854775807) (hk : Kl w b K) (hkn : K.length = m) (hkm : m ≤ 5000) :
  Calls Tryz.prog 28 #[.int .i64 lv, .slice a n cap, .slice b m cap2] w fun en w' => en = .returned (.int .i64 (bwrong lv L K)) ∧ w.grownBy w' none := by
 have HW : Hid (bwrong lv L K = if lv < 1 ∨ 15 < lv ∨ m ≠ n + 1 then 50 else if K.any wk then 51 else if L.any wsep then 41 else if bups L then (if 4092 < bsize L then 42 else 0) else 30) := by show _ = _; unfold bwrong; rw [hn, hkn]
 have HL := hid_intro hl
 have HK := hid_intro hk
 have HLN : Hid (L.any wsep = false → ∀ x ∈ L, x.length ≤ 1000000) := by
  intro h x hx
  have := List.any_eq_false.1 h x hx
  have := (wsep_parts (by simpa using this)).2
  omega
 clear hl hk
 by_cases h1 : lv < 1
 ·rw [if_pos (.inl h1)] at HW
  go_enter Tryz.func28, Tryz.ntmps28
  go_wp2
  go_ret
  exact ⟨by rw [HW.out]; rfl, World.grownBy.refl _ _⟩
 ·by_cases h2 : 15 < lv
  ·rw [if_pos (.inr (.inl h2))] at HW
   go_enter Tryz.func28, Tryz.ntmps28
   go_wp2
   go_ret
   exact ⟨by rw [HW.out]; rfl, World.grownBy.refl _ _⟩
  ·by_cases h3 : m = n + 1
   ·rw [if_neg (by omega)] at HW
    have h3' : (m : Int) = (n : Int) + 1 := by omega
    go_enter Tryz.func28, Tryz.ntmps28
    go_wp2_with fail
    refine (contains_kid b _ cap2 K _ HK.out (by omega) (by omega)).mono ?_
    rintro en w1 ⟨rfl, hg1⟩
    have G1 := hid_intro hg1
    clear hg1
    generalize K.any wk = b1 at *
    cases b1 with
    | true =>
     go_wp2
     go_ret
     exact ⟨by rw [HW.out]; rfl, G1.out⟩
    | false =>
     go_wp2_with fail
     refine (contains_sep a n cap L _ (HL.out.keptN G1.out) hn hm).mono ?_
     rintro en w2 ⟨rfl, hg2⟩
     have G2 := hid_intro (grown_trans G1.out hg2)
     clear hg2 G1
     generalize L.any wsep = b2 at *
     cases b2 with
     | true =>
      go_wp2
      go_ret
      exact ⟨by rw [HW.out]; rfl, G2.out⟩
     | false =>
      have HLN1 := hid_intro (HLN.out rfl)
      clear HLN
      go_wp2_with fail
      refine (brising_any a n cap L _ (HL.out.keptN G2.out) hb hn hm).mono ?_
      rintro en w3 ⟨rfl, hg3⟩
      have G3 := hid_intro (grown_trans G2.out hg3)
      clear hg3 G2
      generalize bups L = b3 at *
      cases b3 with
      | false =>
       go_wp2
       go_ret
       exact ⟨by rw [HW.out]; rfl, G3.out⟩
      | true =>
       go_wp2_with fail
       refine (bsize_any a n cap L _ (HL.out.keptN G3.out) hn hm hc hcap HLN1.out).mono ?_
       rintro en w4 ⟨rfl, hg4⟩
       have G4 := hid_intro (grown_trans G3.out hg4)
       clear hg4 G3
       generalize bsize L = s at *
       by_cases h5 : 4092 < s
       ·have h5' : (4092 : Int) < (s : Int) := by omega
        go_wp2
        go_ret
        exact ⟨by rw [HW.out]; simp [h5], G4.out⟩
       ·have h5' : ¬ (4092 : Int) < (s : Int) := by omega
        go_wp2
        go_ret
        exact ⟨by rw [HW.out]; simp [h5], G4.out⟩
   ·rw [if_pos (.inr (.inr h3))] at HW
    have h3' : ¬ (m : Int) = (n : Int) + 1 := by omega
    go_enter Tryz.func28, Tryz.ntmps28
    go_wp2
    go_ret
    exact ⟨by rw [HW.out]; rfl, World.grownBy.refl _ _⟩
end Go.Proofs.YtnfelndfpmnkmaaGreatDoor
