import Derived.Test.YtkiopabcnemgnaaGreatDoorK19
import Derived.Test.YtkiopabcnemgnaaGreatDoorK18
set_option maxRecDepth 100000
set_option maxHeartbeats 4000000
namespace Go.Proofs.YtkiopabcnemgnaaGreatDoor
open Go.RowKit
structure Kl (w : World) (a : Option Addr) (K : List Kd) : Prop where
 row : ∀ i, i < K.length → ∃ b off, a = some ⟨b, off, none⟩ ∧ w.cell? ⟨b, off + i * 2, none⟩ = some (.int .i64 (K.getD i kd0).no) ∧ w.cell? ⟨b, off + i * 2 + 1, none⟩ = some (.int .i64 (K.getD i kd0).keys)
theorem Kl.keptN {w w' : World} {a : Option Addr} {K : List Kd} (h : Kl w a K) (hg : w.grownBy w' none) : Kl w' a K := by
 refine ⟨fun i hi => ?_⟩;obtain ⟨b, off, h1, h2, h3⟩ := h.row i hi;exact ⟨b, off, h1, hg.cell h2 (by simp), hg.cell h3 (by simp)⟩
theorem Kl.zero (w : World) (a : Option Addr) : Kl w a [] := ⟨fun i hi => by simp at hi⟩
structure Kdb (k : Kd) : Prop where
 n1 : -9223372036854775808 ≤ k.no
 n2 : k.no ≤ 9223372036854775807
 k1 : -9223372036854775808 ≤ k.keys
 k2 : k.keys ≤ 9223372036854775807
def Kb (K : List Kd) : Prop := ∀ k ∈ K, Kdb k
def Lb (L : List (List Int)) : Prop := ∀ s ∈ L, Bt s
theorem kget_mem {K : List Kd} {i : Nat} (h : i < K.length) : K.getD i kd0 ∈ K := by
 simp [List.getD, List.getElem?_eq_getElem h]
theorem lget_mem {L : List (List Int)} {i : Nat} (h : i < L.length) : L.getD i [] ∈ L := by
 simp [List.getD, List.getElem?_eq_getElem h]
theorem bcommonAll_any (a : Option Addr) (n cap : Nat) (L : List (List Int)) (w : World) (hl : Lz w a L) (hn : L.length = n) (hc : n ≤ cap) (hcap : cap ≤ 9223372036854775807) :
  Calls Tryz.prog 171 #[.slice a n cap] w fun en w' => en = .returned (.int .i64 ((bpre L : Nat) : Int)) ∧ w.grownBy w' none := by
 cases L with
 | nil =>
  obtain rfl : n = 0 := by simpa using hn.symm
  refine (commonAll_none a cap w).mono ?_;rintro en w' ⟨rfl, rfl⟩;exact ⟨rfl, World.grownBy.refl _ _⟩
 | cons x L =>
  have := commonAll_some a cap x L w hl (by simp at hn; omega) hcap;obtain rfl : L.length + 1 = n := by simpa using hn
  exact this
theorem stringSize_any (n : Nat) (w : World) (h : n ≤ 1000000) : Calls Tryz.prog 202 #[.int .i64 n] w fun en w' => en = .returned (.int .i64 ((vl n + n : Nat) : Int)) ∧ w' = w := by
 have hv : (vform n).length ≤ 10 := vl_le n;go_enter Tryz.func202, Tryz.ntmps202
 go_wp2_with fail
 refine (vlen_calls n _ (by omega)).mono ?_;rintro en w1 ⟨rfl, rfl⟩;go_wp2;go_ret;refine ⟨ret_int ?_, rfl⟩;unfold vl;go_num
theorem bcellSize_any (ao : Option Addr) (n c : Nat) (w : World) (h : n ≤ 1000000) : Calls Tryz.prog 176 #[.slice ao n c] w fun en w' => en = .returned (.int .i64 ((vl n + n + 8 : Nat) : Int)) ∧ w' = w := by
 have hv : vl n ≤ 10 := vl_le n;go_enter Tryz.func176, Tryz.ntmps176
 go_wp2_with fail
 refine (stringSize_any n _ h).mono ?_;rintro en w1 ⟨rfl, rfl⟩;go_wp2;go_ret;exact ⟨ret_int (by go_num), rfl⟩
theorem bsize_int {L : List (List Int)} (hm : L.length ≤ 5000) (hk : ∀ x ∈ L, x.length ≤ 1000000) : ∀ i, i ≤ L.length → bsums (bpre L) (L.take i) ≤ 5005000000 := by
 intro i hi;have h := bsums_le (bpre L) 1000000 (L.take i) (fun x hx => hk x (List.mem_of_mem_take hx));rw [List.length_take] at h;have h2 : min i L.length * (1000000 + 20) ≤ 5000 * (1000000 + 20) := Nat.mul_le_mul_right _ (by omega);omega
theorem bsize_any (a : Option Addr) (n cap : Nat) (L : List (List Int)) (w : World) (hl : Lz w a L) (hn : L.length = n) (hm : n ≤ 5000) (hc : n ≤ cap) (hcap : cap ≤ 9223372036854775807) (hk : ∀ x ∈ L, x.length ≤ 1000000) :
  Calls Tryz.prog 170 #[.slice a n cap] w fun en w' => en = .returned (.int .i64 ((bsize L : Nat) : Int)) ∧ w.grownBy w' none := by
 have HL := hJ hl;have HP : Hid (∀ x ∈ L, bpre L ≤ x.length) := fun x hx => (bpre_each x hx).1
 have HS := hJ (bsize_int (by omega) hk);have HM : Hid (bsize L = 12 + vl (bpre L) + bpre L + bsums (bpre L) L) := rfl;have HN := hJ (fun i h => bsums_snoc (bpre L) L i h);have hv := vl_le (bpre L)
 have hpl : bpre L ≤ 1000000 := by
  cases L with
  | nil => exact Nat.zero_le _
  | cons x L => exact Nat.le_trans (bpre_each x List.mem_cons_self).1 (hk x List.mem_cons_self)
 have HK := hJ hk;clear hl hk;go_enter Tryz.func170, Tryz.ntmps170
 go_wp2_with fail
 refine (bcommonAll_any a n cap L _ HL.out hn hc hcap).mono ?_;rintro en w1 ⟨rfl, hg1⟩;have HG := hJ hg1;clear hg1;generalize bpre L = p at *
 go_wp2_with fail
 refine (stringSize_any p _ (by omega)).mono ?_;rintro en w2 ⟨rfl, rfl⟩;generalize hvv : vl p = v at *;have HV := hJ hvv;clear hvv;go_wp2;go_loopw [4, 6, 15] (fun sn _ si wr => ∃ i : Nat, i ≤ n ∧ si = .int .i64 i ∧ sn = .int .i64 ((12 + v + p + bsums p (L.take i) : Nat) : Int) ∧ w.grownBy wr none) (fun _ _ si _ => n - (intOf si).toNat)
 case atStart => exact ⟨0, Nat.zero_le _, rfl, by simp [bsums]; go_num, HG.out⟩
 case round =>
  obtain ⟨i, hi, rfl, rfl, hg⟩ := hrel;have HG1 := hJ hg;have b1 := HS.out i (by omega);clear hg HG
  by_cases hlt : i < n
  ·obtain ⟨b, off, ao, m, c, rfl, q2, q3, q4, q5⟩ := HL.out.row i (by omega)
   have c0 := HG1.out.cell q2 (by simp);have hx := lget_mem (L := L) (i := i) (by omega);have hm1 := q3.len;have hp1 := HP.out _ hx;have hk1 := HK.out _ hx;have b2 := bcl_le p (L.getD i []);have HX : Hid (bsums p (L.take (i + 1)) = bsums p (L.take i) + (2 + bcl p (L.getD i []))) := HN.out i (by omega);obtain ⟨r, hr⟩ : ∃ r, m - p = r := ⟨_, rfl⟩;have HCL : Hid (bcl p (L.getD i []) = vl r + r + 8) := by show _ = _; unfold bcl; rw [hm1, hr]
   have hnil := q3.nil;rw [HCL.out] at b2;rw [HCL.out] at HX;have HC := hJ (fun (ao' : Option Addr) (c' : Nat) (W : World) => bcellSize_any ao' r c' W (by omega));clear q2 q3 HCL;generalize vl r + r + 8 = C at *;generalize bsums p (L.take i) = U at *;have g1 : (p : Int) ≤ (m : Int) := by omega
   have g2 : (0 : Int) ≤ (p : Int) := by omega
   have g3 : (p : Int) ≤ (c : Int) := by omega
   rw [hm1] at hp1;clear hm1 hx;cases ao with
   | none =>
    obtain ⟨rfl, rfl⟩ := hnil rfl;have g4 : ¬ (0 : Int) < (p : Int) := by omega
    go_wp2_with fail
    refine (HC.out _ _ _).mono ?_;rintro en w2 ⟨rfl, rfl⟩;go_wp2;go_roundw
    case rel => exact ⟨i + 1, by omega, by go_num, by rw [HX.out]; go_num, HG1.out⟩
    case measure => simp [intOf]; omega
   | some ad =>
    clear hnil
    by_cases hcp : c = p
    ·subst hcp
     go_wp2_with fail
     refine (HC.out _ _ _).mono ?_;rintro en w2 ⟨rfl, rfl⟩;go_wp2;go_roundw
     case rel => exact ⟨i + 1, by omega, by go_num, by rw [HX.out]; go_num, HG1.out⟩
     case measure => simp [intOf]; omega
    ·go_wp2_with fail
     refine (HC.out _ _ _).mono ?_;rintro en w2 ⟨rfl, rfl⟩;go_wp2;go_roundw
     case rel => exact ⟨i + 1, by omega, by go_num, by rw [HX.out]; go_num, HG1.out⟩
     case measure => simp [intOf]; omega
  ·have hin : i = n := by omega
   subst hin;go_wp2;go_ret;refine ⟨ret_int ?_, HG1.out⟩;rw [HM.out, ← hn, List.take_length]
theorem wrongKid_any (no ks : Int) (w : World) : Calls Tryz.prog 166 #[.agg #[.int .i64 no, .int .i64 ks]] w fun en w' => en = .returned (.bool (wk ⟨no, ks⟩)) ∧ w.grownBy w' none := by
 have HW : Hid (wk ⟨no, ks⟩ = (decide (no < 2) || decide (524287 ≤ no) || decide (ks < 1) || decide (4294967295 < ks))) := rfl;have G1 := hJ (World.grownBy_alloc w (.cells #[.int .i64 no, .int .i64 ks] 67) none)
 by_cases h1 : no < 2
 ·go_enter Tryz.func166, Tryz.ntmps166
  go_wp2;go_ret;exact ⟨by rw [HW.out]; simp [h1], G1.out⟩
 ·by_cases h2 : (524287 : Int) ≤ no
  ·go_enter Tryz.func166, Tryz.ntmps166
   go_wp2;go_ret;exact ⟨by rw [HW.out]; simp [h2], G1.out⟩
  ·by_cases h3 : ks < 1
   ·go_enter Tryz.func166, Tryz.ntmps166
    go_wp2;go_ret;exact ⟨by rw [HW.out]; simp [h3], G1.out⟩
   ·go_enter Tryz.func166, Tryz.ntmps166
    go_wp2;go_ret;exact ⟨by rw [HW.out]; simp; omega, G1.out⟩
theorem wrongSep_any (ao : Option Addr) (n c : Nat) (w : World) (x : List Int) (hx : x.length = n) : Calls Tryz.prog 168 #[.slice ao n c] w fun en w' => en = .returned (.bool (wsep x)) ∧ w' = w := by
 have HW : Hid (wsep x = !(valid n)) := by show _ = _; unfold wsep valid; rw [hx]
 go_enter Tryz.func168, Tryz.ntmps168
 go_wp2_with fail
 refine (valid_any _ _ _ _).mono ?_;rintro en w1 ⟨rfl, rfl⟩;generalize valid n = v at *;go_wp2;go_ret;exact ⟨by rw [HW.out]; rfl, rfl⟩
theorem kany_take {P : Kd → Bool} {K : List Kd} {i : Nat} (h : i < K.length) (k : (K.take i).any P = false) (e : P (K.getD i kd0) = false) : (K.take (i + 1)).any P = false := by
 have hg : K.getD i kd0 = K[i] := by simp [List.getD, List.getElem?_eq_getElem h]
 rw [List.take_add_one, List.getElem?_eq_getElem h, List.any_append, k];rw [hg] at e;simp [e]
theorem lany_take {P : List Int → Bool} {K : List (List Int)} {i : Nat} (h : i < K.length) (k : (K.take i).any P = false) (e : P (K.getD i []) = false) : (K.take (i + 1)).any P = false := by
 have hg : K.getD i [] = K[i] := by simp [List.getD, List.getElem?_eq_getElem h]
 rw [List.take_add_one, List.getElem?_eq_getElem h, List.any_append, k];rw [hg] at e;simp [e]
theorem index_kid (a : Option Addr) (n cap : Nat) (K : List Kd) (w : World) (hl : Kl w a K) (hn : K.length = n) (hm : n ≤ 5000) :
  Calls Tryz.prog 200 #[.slice a n cap, .func (.func 166) #[] #[]] w fun en w' => (∃ r : Int, en = .returned (.int .i64 r) ∧ (r < 0 ↔ K.any wk = false)) ∧ w.grownBy w' none := by
 have HL := hJ hl;clear hl;go_enter Tryz.func200, Tryz.ntmps200;go_wp2;go_loopw [5, 8] (fun _ si wr => ∃ i : Nat, i ≤ n ∧ si = .int .i64 i ∧ (K.take i).any wk = false ∧ w.grownBy wr none) (fun _ si _ => n - (intOf si).toNat)
 case atStart => exact ⟨0, Nat.zero_le _, rfl, by simp, World.grownBy.refl _ _⟩
 case round =>
  obtain ⟨i, hi, rfl, ha, hg⟩ := hrel;have HG1 := hJ hg;have HA := hJ ha;clear hg ha
  by_cases hlt : i < n
  ·obtain ⟨b, off, rfl, q2, q3⟩ := HL.out.row i (by omega)
   have c0 := HG1.out.cell q2 (by simp);have c1 := HG1.out.cell q3 (by simp);have HX : Hid (wk (K.getD i kd0) = false → (K.take (i + 1)).any wk = false) := fun e => kany_take (by omega) HA.out e
   have HY : Hid (wk (K.getD i kd0) = true → K.any wk = true) := fun e => List.any_eq_true.2 ⟨_, kget_mem (by omega), e⟩
   have HC := hJ (fun (W : World) => wrongKid_any (K.getD i kd0).no (K.getD i kd0).keys W);have HE : Hid (wk ⟨(K.getD i kd0).no, (K.getD i kd0).keys⟩ = wk (K.getD i kd0)) := rfl;rw [HE.out] at HC;clear q2 q3 HE;generalize (K.getD i kd0).no = no at *;generalize (K.getD i kd0).keys = ks at *;generalize wk (K.getD i kd0) = bb at *
   go_wp2_with fail
   refine (HC.out _).mono ?_;rintro en w2 ⟨rfl, hg2⟩;have HG2 := hJ (gQ HG1.out hg2);clear hg2;cases bb with
   | true =>
    have HY1 := hJ (HY.out rfl);clear HX HY;go_wp2;go_ret;refine ⟨⟨_, rfl, ?_⟩, HG2.out⟩;rw [HY1.out];simp
   | false =>
    have HX1 := hJ (HX.out rfl);clear HX HY;go_wp2;go_roundw
    case rel => exact ⟨i + 1, by omega, by go_num, HX1.out, HG2.out⟩
    case measure => simp [intOf]; omega
  ·have hin : i = n := by omega
   subst hin;go_wp2;go_ret;refine ⟨⟨-1, rfl, ?_⟩, HG1.out⟩;have := HA.out;rw [← hn, List.take_length] at this;rw [this];simp
theorem contains_kid (a : Option Addr) (n cap : Nat) (K : List Kd) (w : World) (hl : Kl w a K) (hn : K.length = n) (hm : n ≤ 5000) :
  Calls Tryz.prog 165 #[.slice a n cap, .func (.func 166) #[] #[]] w fun en w' => en = .returned (.bool (K.any wk)) ∧ w.grownBy w' none := by
 go_enter Tryz.func165, Tryz.ntmps165
 go_wp2_with fail
 refine (index_kid a n cap K _ hl hn hm).mono ?_;rintro en w1 ⟨⟨r, rfl, hr⟩, hg⟩;have HR := hJ hr;have HG := hJ hg;clear hr hg hl
 by_cases h0 : r < 0
 ·go_wp2
  go_ret;exact ⟨by rw [HR.out.1 h0]; simp [h0], HG.out⟩
 ·have this : Hid (K.any wk = true) := by
   show _ = _
   cases hb : K.any wk with
   | true => rfl
   | false => exact absurd (HR.out.2 hb) h0
  go_wp2;go_ret;exact ⟨by rw [this.out]; rfl, HG.out⟩
theorem index_sep (a : Option Addr) (n cap : Nat) (K : List (List Int)) (w : World) (hl : Lz w a K) (hn : K.length = n) (hm : n ≤ 5000) :
  Calls Tryz.prog 201 #[.slice a n cap, .func (.func 168) #[] #[]] w fun en w' => (∃ r : Int, en = .returned (.int .i64 r) ∧ (r < 0 ↔ K.any wsep = false)) ∧ w.grownBy w' none := by
 have HL := hJ hl;clear hl;go_enter Tryz.func201, Tryz.ntmps201;go_wp2;go_loopw [5, 8] (fun _ si wr => ∃ i : Nat, i ≤ n ∧ si = .int .i64 i ∧ (K.take i).any wsep = false ∧ w.grownBy wr none) (fun _ si _ => n - (intOf si).toNat)
 case atStart => exact ⟨0, Nat.zero_le _, rfl, by simp, World.grownBy.refl _ _⟩
 case round =>
  obtain ⟨i, hi, rfl, ha, hg⟩ := hrel;have HG1 := hJ hg;have HA := hJ ha;clear hg ha
  by_cases hlt : i < n
  ·obtain ⟨b, off, ao, m, c, rfl, q2, q3, q4, q5⟩ := HL.out.row i (by omega)
   have c0 := HG1.out.cell q2 (by simp);have HX : Hid (wsep (K.getD i []) = false → (K.take (i + 1)).any wsep = false) := fun e => lany_take (by omega) HA.out e
   have HY : Hid (wsep (K.getD i []) = true → K.any wsep = true) := fun e => List.any_eq_true.2 ⟨_, lget_mem (by omega), e⟩
   have HC := hJ (fun (W : World) => wrongSep_any ao m c W (K.getD i []) q3.len);clear q2 q3;generalize wsep (K.getD i []) = bb at *
   go_wp2_with fail
   refine (HC.out _).mono ?_;rintro en w2 ⟨rfl, rfl⟩;cases bb with
   | true =>
    have HY1 := hJ (HY.out rfl);clear HX HY;go_wp2;go_ret;refine ⟨⟨_, rfl, ?_⟩, HG1.out⟩;rw [HY1.out];simp
   | false =>
    have HX1 := hJ (HX.out rfl);clear HX HY;go_wp2;go_roundw
    case rel => exact ⟨i + 1, by omega, by go_num, HX1.out, HG1.out⟩
    case measure => simp [intOf]; omega
  ·have hin : i = n := by omega
   subst hin;go_wp2;go_ret;refine ⟨⟨-1, rfl, ?_⟩, HG1.out⟩;have := HA.out;rw [← hn, List.take_length] at this;rw [this];simp
theorem contains_sep (a : Option Addr) (n cap : Nat) (K : List (List Int)) (w : World) (hl : Lz w a K) (hn : K.length = n) (hm : n ≤ 5000) :
  Calls Tryz.prog 167 #[.slice a n cap, .func (.func 168) #[] #[]] w fun en w' => en = .returned (.bool (K.any wsep)) ∧ w.grownBy w' none := by
 go_enter Tryz.func167, Tryz.ntmps167
 go_wp2_with fail
 refine (index_sep a n cap K _ hl hn hm).mono ?_;rintro en w1 ⟨⟨r, rfl, hr⟩, hg⟩;have HR := hJ hr;have HG := hJ hg;clear hr hg hl
 by_cases h0 : r < 0
 ·go_wp2
  go_ret;exact ⟨by rw [HR.out.1 h0]; simp [h0], HG.out⟩
 ·have this : Hid (K.any wsep = true) := by
   show _ = _
   cases hb : K.any wsep with
   | true => rfl
   | false => exact absurd (HR.out.2 hb) h0
  go_wp2;go_ret;exact ⟨by rw [this.out]; rfl, HG.out⟩
theorem brising_any (a : Option Addr) (n cap : Nat) (L : List (List Int)) (w : World) (hl : Lz w a L) (hb : Lb L) (hn : L.length = n) (hm : n ≤ 5000) :
  Calls Tryz.prog 169 #[.slice a n cap] w fun en w' => en = .returned (.bool (bups L)) ∧ w.grownBy w' none := by
 have HL := hJ hl;have HB := hJ hb;clear hl hb;go_enter Tryz.func169, Tryz.ntmps169;go_wp2;go_loopw [3] (fun si wr => ∃ i : Nat, i ≤ n ∧ si = .int .i64 ((i + 1 : Nat) : Int) ∧ (∀ j, j < i → j + 1 < n → cmpZ (L.getD j []) (L.getD (j + 1) []) < 0) ∧ Qt w wr) (fun si _ => n + 1 - (intOf si).toNat)
 case atStart => exact ⟨0, Nat.zero_le _, rfl, fun j hj => by omega, Qt.refl _⟩
 case round =>
  obtain ⟨i, hi, rfl, ha, hq⟩ := hrel;have HQ := hJ hq;have HA := hJ ha;clear hq ha
  by_cases hlt : i + 1 < n
  ·obtain ⟨b, off, ao, m, c, rfl, q2, q3, q4, q5⟩ := HL.out.row i (by omega)
   obtain ⟨b', off', ao', m', c', e1, r2, r3, r4, r5⟩ := HL.out.row (i + 1) (by omega);simp only [Option.some.injEq, Addr.mk.injEq] at e1;obtain ⟨rfl, rfl, _⟩ := e1;have c0 := (HQ.out.cell _).trans q2;have c1 := (HQ.out.cell _).trans r2;have HC := hJ (fun (W : World) (hW : W.heap = wr.heap) => compare_any ao ao' m m' c c' _ _ W (q3.heap (hW.trans HQ.out.heap)) (r3.heap (hW.trans HQ.out.heap)) (HB.out _ (lget_mem (by omega))) (HB.out _ (lget_mem (by omega))))
   have HD : Hid (cmpZ (L.getD i []) (L.getD (i + 1) []) < 0 → ∀ j, j < i + 1 → j + 1 < n → cmpZ (L.getD j []) (L.getD (j + 1) []) < 0) := by
    intro h j hj hj2
    by_cases e : j = i
    ·subst e; exact h
    ·exact HA.out j (by omega) hj2
   have HE : Hid (¬ cmpZ (L.getD i []) (L.getD (i + 1) []) < 0 → bups L = false) := by
    intro h;cases hu : bups L with
    | false => rfl
    | true => exact absurd ((bups_iff L).1 hu i (by omega)) h
   clear q2 q3 r2 r3;generalize cmpZ (L.getD i []) (L.getD (i + 1) []) = z at *;have g1 : ((i + 1 : Nat) : Int) < (n : Int) := by omega
   have g0 : (0 : Int) ≤ ((i + 1 : Nat) : Int) := by omega
   have g2 : ((i + 1 : Nat) : Int) - 1 = (i : Int) := by omega
   have g3 : (i : Int) < (n : Int) := by omega
   have g4 : (0 : Int) ≤ (i : Int) := by omega
   obtain ⟨j, hj⟩ : ∃ j, i + 1 = j := ⟨_, rfl⟩;rw [hj] at g1 g0 g2 c1 ⊢;have HJ := hJ hj;clear hj
   by_cases hz : z < 0
   ·have hz' : decide (0 ≤ z) = false := decide_eq_false (by omega)
    go_wp2
    go_quiet ((go_at_call 194; exact Calls.quiet_of_same (HC.out _ rfl)))
    go_wp2;go_roundw
    case rel => exact ⟨i + 1, by omega, by have := HJ.out; go_num, HD.out hz, HQ.out.trans (Qt.drewN _ _)⟩
    case measure => have := HJ.out; simp [intOf]; omega
   ·have hz' : decide (0 ≤ z) = true := decide_eq_true (by omega)
    go_wp2
    go_quiet ((go_at_call 194; exact Calls.quiet_of_same (HC.out _ rfl)))
    go_wp2;go_ret;exact ⟨by rw [HE.out hz]; rfl, (HQ.out.trans (Qt.drewN _ _)).grown _⟩
  ·have g1 : ¬ ((i + 1 : Nat) : Int) < (n : Int) := by omega
   obtain ⟨j, hj⟩ : ∃ j, i + 1 = j := ⟨_, rfl⟩;rw [hj] at g1 ⊢;have HU : Hid (bups L = true) := (bups_iff L).2 (fun k hk => HA.out k (by omega) (by omega));go_wp2;go_ret;exact ⟨by rw [HU.out]; rfl, HQ.out.grown _⟩
theorem berrorOf_any (lv : Int) (a : Option Addr) (n cap : Nat) (L : List (List Int)) (b : Option Addr) (m cap2 : Nat) (K : List Kd) (w : World) (hl : Lz w a L) (hb : Lb L) (hn : L.length = n) (hm : n ≤ 5000) (hc : n ≤ cap) (hcap : cap ≤ 9223372036854775807) (hk : Kl w b K) (hkn : K.length = m) (hkm : m ≤ 5000) :
  Calls Tryz.prog 127 #[.int .i64 lv, .slice a n cap, .slice b m cap2] w fun en w' => en = .returned (.int .i64 (bwrong lv L K)) ∧ w.grownBy w' none := by
 have HW : Hid (bwrong lv L K = if lv < 1 ∨ 15 < lv ∨ m ≠ n + 1 then 50 else if K.any wk then 51 else if L.any wsep then 41 else if bups L then (if 4092 < bsize L then 42 else 0) else 30) := by show _ = _; unfold bwrong; rw [hn, hkn]
 have HL := hJ hl;have HK := hJ hk
 have HLN : Hid (L.any wsep = false → ∀ x ∈ L, x.length ≤ 1000000) := by
  intro h x hx;have := List.any_eq_false.1 h x hx;have := (wsep_parts (by simpa using this)).2;omega
 clear hl hk
 by_cases h1 : lv < 1
 ·rw [if_pos (.inl h1)] at HW
  go_enter Tryz.func127, Tryz.ntmps127;go_wp2;go_ret;exact ⟨by rw [HW.out]; rfl, World.grownBy.refl _ _⟩
 ·by_cases h2 : 15 < lv
  ·rw [if_pos (.inr (.inl h2))] at HW
   go_enter Tryz.func127, Tryz.ntmps127;go_wp2;go_ret;exact ⟨by rw [HW.out]; rfl, World.grownBy.refl _ _⟩
  ·by_cases h3 : m = n + 1
   ·rw [if_neg (by omega)] at HW
    have h3' : (m : Int) = (n : Int) + 1 := by omega
    go_enter Tryz.func127, Tryz.ntmps127
    go_wp2_with fail
    refine (contains_kid b _ cap2 K _ HK.out (by omega) (by omega)).mono ?_;rintro en w1 ⟨rfl, hg1⟩;have G1 := hJ hg1;clear hg1;generalize K.any wk = b1 at *;cases b1 with
    | true =>
     go_wp2;go_ret;exact ⟨by rw [HW.out]; rfl, G1.out⟩
    | false =>
     go_wp2_with fail
     refine (contains_sep a n cap L _ (HL.out.keptN G1.out) hn hm).mono ?_;rintro en w2 ⟨rfl, hg2⟩;have G2 := hJ (gQ G1.out hg2);clear hg2 G1;generalize L.any wsep = b2 at *;cases b2 with
     | true =>
      go_wp2;go_ret;exact ⟨by rw [HW.out]; rfl, G2.out⟩
     | false =>
      have HLN1 := hJ (HLN.out rfl);clear HLN
      go_wp2_with fail
      refine (brising_any a n cap L _ (HL.out.keptN G2.out) hb hn hm).mono ?_;rintro en w3 ⟨rfl, hg3⟩;have G3 := hJ (gQ G2.out hg3);clear hg3 G2;generalize bups L = b3 at *;cases b3 with
      | false =>
       go_wp2;go_ret;exact ⟨by rw [HW.out]; rfl, G3.out⟩
      | true =>
       go_wp2_with fail
       refine (bsize_any a n cap L _ (HL.out.keptN G3.out) hn hm hc hcap HLN1.out).mono ?_;rintro en w4 ⟨rfl, hg4⟩;have G4 := hJ (gQ G3.out hg4);clear hg4 G3;generalize bsize L = s at *
       by_cases h5 : 4092 < s
       ·have h5' : (4092 : Int) < (s : Int) := by omega
        go_wp2;go_ret;exact ⟨by rw [HW.out]; simp [h5], G4.out⟩
       ·have h5' : ¬ (4092 : Int) < (s : Int) := by omega
        go_wp2;go_ret;exact ⟨by rw [HW.out]; simp [h5], G4.out⟩
   ·rw [if_pos (.inr (.inr h3))] at HW
    have h3' : ¬ (m : Int) = (n : Int) + 1 := by omega
    go_enter Tryz.func127, Tryz.ntmps127;go_wp2;go_ret;exact ⟨by rw [HW.out]; rfl, World.grownBy.refl _ _⟩
theorem it_eq {x y : It} : x = y ↔ x.key = y.key ∧ x.val = y.val ∧ x.size = y.size ∧ x.first = y.first := by
 obtain ⟨a, b, c, d⟩ := x;obtain ⟨a', b', c', d'⟩ := y;simp
theorem sameItem_any (ao : Option Addr) (n c : Nat) (bo : Option Addr) (m d : Nat) (ao' : Option Addr) (n' c' : Nat) (bo' : Option Addr) (m' d' : Nat) (x y : It) (s f s' f' : Int) (hs : x.size = s) (hf : x.first = f) (hs' : y.size = s') (hf' : y.first = f') (w : World)
  (h1 : Byt w ao n c x.key) (h2 : Byt w bo m d x.val) (h3 : Byt w ao' n' c' y.key) (h4 : Byt w bo' m' d' y.val) (hx : Itb x) (hy : Itb y) :
  Calls Tryz.prog 69 #[.agg #[.slice ao n c, .slice bo m d, .int .i64 s, .int .i64 f], .agg #[.slice ao' n' c', .slice bo' m' d', .int .i64 s', .int .i64 f']] w fun en w' => (∃ b, en = .returned (.bool b) ∧ (b = true ↔ x = y)) ∧ w.grownBy w' none := by
 have HE := hJ (it_eq (x := x) (y := y));rw [hs, hs', hf, hf'] at HE;have ga := World.grownBy_alloc w (.cells #[.slice ao n c, .slice bo m d, .int .i64 s, .int .i64 f] 62) none;have gb := World.grownBy_alloc (w.alloc (.cells #[.slice ao n c, .slice bo m d, .int .i64 s, .int .i64 f] 62)) (.cells #[.slice ao' n' c', .slice bo' m' d', .int .i64 s', .int .i64 f'] 62) none;have G := hJ (gQ ga gb);have H1 := hJ (h1.keptN G.out);have H2 := hJ (h2.keptN G.out);have H3 := hJ (h3.keptN G.out);have H4 := hJ (h4.keptN G.out);have HX := hJ hx;have HY := hJ hy;clear h1 h2 h3 h4 ga gb hx hy
 by_cases hk : x.key = y.key
 ·by_cases hv : x.val = y.val
  ·have HE2 : Hid (x = y ↔ s = s' ∧ f = f') := by
    show _ ↔ _
    rw [HE.out];exact ⟨fun h => h.2.2, fun h => ⟨hk, hv, h⟩⟩
   clear HE
   by_cases hss : s = s'
   ·subst hss
    go_enter Tryz.func69, Tryz.ntmps69
    go_wp2_with fail
    refine (same_yes _ _ _ _ _ _ _ _ _ H1.out H3.out hk).mono ?_;rintro en w1 ⟨rfl, rfl⟩
    go_wp2_with fail
    refine (same_yes _ _ _ _ _ _ _ _ _ H2.out H4.out hv).mono ?_;rintro en w1 ⟨rfl, rfl⟩;go_wp2;go_ret;refine ⟨⟨_, rfl, ?_⟩, G.out⟩;rw [HE2.out];simp
   ·go_enter Tryz.func69, Tryz.ntmps69
    go_wp2_with fail
    refine (same_yes _ _ _ _ _ _ _ _ _ H1.out H3.out hk).mono ?_;rintro en w1 ⟨rfl, rfl⟩
    go_wp2_with fail
    refine (same_yes _ _ _ _ _ _ _ _ _ H2.out H4.out hv).mono ?_;rintro en w1 ⟨rfl, rfl⟩;go_wp2;go_ret;refine ⟨⟨_, rfl, ?_⟩, G.out⟩;rw [HE2.out];simp [hss]
  ·have HE2 : Hid (¬ x = y) := fun h => hv (by rw [h])
   clear HE;go_enter Tryz.func69, Tryz.ntmps69
   go_wp2_with fail
   refine (same_yes _ _ _ _ _ _ _ _ _ H1.out H3.out hk).mono ?_;rintro en w1 ⟨rfl, rfl⟩
   go_wp2_with fail
   refine (same_no _ _ _ _ _ _ _ _ _ H2.out H4.out HX.out.val HY.out.val hv).mono ?_;rintro en w1 ⟨rfl, rfl⟩;go_wp2;go_ret;exact ⟨⟨_, rfl, by simp [HE2.out]⟩, G.out⟩
 ·have HE2 : Hid (¬ x = y) := fun h => hk (by rw [h])
  clear HE
  by_cases hv : x.val = y.val
  ·go_enter Tryz.func69, Tryz.ntmps69
   go_wp2_with fail
   refine (same_no _ _ _ _ _ _ _ _ _ H1.out H3.out HX.out.key HY.out.key hk).mono ?_;rintro en w1 ⟨rfl, rfl⟩
   go_wp2_with fail
   refine (same_yes _ _ _ _ _ _ _ _ _ H2.out H4.out hv).mono ?_;rintro en w1 ⟨rfl, rfl⟩;go_wp2;go_ret;exact ⟨⟨_, rfl, by simp [HE2.out]⟩, G.out⟩
  ·go_enter Tryz.func69, Tryz.ntmps69
   go_wp2_with fail
   refine (same_no _ _ _ _ _ _ _ _ _ H1.out H3.out HX.out.key HY.out.key hk).mono ?_;rintro en w1 ⟨rfl, rfl⟩
   go_wp2_with fail
   refine (same_no _ _ _ _ _ _ _ _ _ H2.out H4.out HX.out.val HY.out.val hv).mono ?_;rintro en w1 ⟨rfl, rfl⟩;go_wp2;go_ret;exact ⟨⟨_, rfl, by simp [HE2.out]⟩, G.out⟩
theorem getD_ext {L M : List It} (hl : L.length = M.length) (h : ∀ j, j < L.length → L.getD j it0 = M.getD j it0) : L = M := by
 refine List.ext_getElem hl fun j h1 h2 => ?_
 have := h j h1;simpa [List.getD, List.getElem?_eq_getElem h1, List.getElem?_eq_getElem h2] using this
theorem sameItems_any (a : Option Addr) (n cap : Nat) (L : List It) (a' : Option Addr) (n' cap' : Nat) (M : List It) (w : World) (hl : Il w a L) (hb : Ib L) (hn : L.length = n) (hl' : Il w a' M) (hb' : Ib M) (hn' : M.length = n') (hm : n ≤ 9223372036854775807) :
  Calls Tryz.prog 46 #[.slice a n cap, .slice a' n' cap'] w fun en w' => (∃ b, en = .returned (.bool b) ∧ (b = true ↔ L = M)) ∧ w.grownBy w' none := by
 have HL := hJ hl;have HM := hJ hl';have HB := hJ hb;have HB' := hJ hb';clear hl hl' hb hb'
 by_cases he : n = n'
 ·subst he
  go_enter Tryz.func46, Tryz.ntmps46;go_wp2;go_loopw [5, 6] (fun si _ wr => ∃ i : Nat, i ≤ n ∧ si = .int .i64 i ∧ (∀ j, j < i → L.getD j it0 = M.getD j it0) ∧ w.grownBy wr none) (fun si _ _ => n - (intOf si).toNat)
  case atStart => exact ⟨0, Nat.zero_le _, rfl, fun j hj => by omega, World.grownBy.refl _ _⟩
  case round =>
   obtain ⟨i, hi, rfl, ha, hg⟩ := hrel;have HG := hJ hg;have HA := hJ ha;clear hg ha
   by_cases hlt : i < n
   ·obtain ⟨b, off, ao, m, c, bo, m2, d2, rfl, q2, q3, q4, q5, q6, q7, q8, q9, q10, q11⟩ := HL.out.row i (by omega)
    obtain ⟨b', off', ao', m', c', bo', m2', d2', rfl, r2, r3, r4, r5, r6, r7, r8, r9, r10, r11⟩ := HM.out.row i (by omega);have HGd := fun row => hJ (gQ (grown_any (row := row) HG.out) ((Qt.refl wr).drew.grown row))
    have c0 := HG.out.cell q2 (by simp);have c1 := HG.out.cell q3 (by simp);have c2 := HG.out.cell q4 (by simp);have c3 := HG.out.cell q5 (by simp);have d0 := HG.out.cell r2 (by simp);have d1 := HG.out.cell r3 (by simp);have d2 := HG.out.cell r4 (by simp);have d3 := HG.out.cell r5 (by simp);have HC := hJ (sameItem_any ao m c bo m2 _ ao' m' c' bo' m2' _ (L.getD i it0) (M.getD i it0) _ _ _ _ rfl rfl rfl rfl wr.drew (q6.keptN (HGd none).out) (q9.keptN (HGd none).out) (r6.keptN (HGd none).out) (r9.keptN (HGd none).out) (HB.out.at (by omega)) (HB'.out.at (by omega)))
    have HX : Hid (L.getD i it0 = M.getD i it0 → ∀ j, j < i + 1 → L.getD j it0 = M.getD j it0) := by
     intro h j hj
     by_cases e : j = i
     ·subst e; exact h
     ·exact HA.out j (by omega)
    have HN : Hid (¬ L.getD i it0 = M.getD i it0 → ¬ L = M) := fun h e => h (by rw [e])
    clear q2 q3 q4 q5 q6 q9 r2 r3 r4 r5 r6 r9 HA;generalize (L.getD i it0).size = sz at *;generalize (L.getD i it0).first = fs at *
    generalize (M.getD i it0).size = sz' at *;generalize (M.getD i it0).first = fs' at *
    generalize L.getD i it0 = x at *;generalize M.getD i it0 = y at *;have g0 : (0 : Int) ≤ (i : Int) := by omega
    have g1 : (i : Int) < (n : Int) := by omega
    go_wp2_with fail
    go_region_with (go_at_call 69; refine HC.out.mono ?_; rintro en w2 ⟨⟨bb, rfl, hbb⟩, hg2⟩)
    all_goals
     have HG2 := hJ (gQ (HGd none).out hg2);have HBB := hJ hbb;clear hg2 hbb;cases bb with
     | true =>
      have HX1 := hJ (HX.out (HBB.out.1 rfl));clear HX HN HBB;go_wp2;go_roundw
      case rel => exact ⟨i + 1, by omega, by go_num, HX1.out, HG2.out⟩
      case measure => simp [intOf]; omega
     | false =>
      have HN1 := hJ (HN.out (fun e => by cases (HBB.out.2 e)));clear HX HN HBB;go_wp2;go_ret;exact ⟨⟨_, rfl, by simp [HN1.out]⟩, HG2.out⟩
   ·have hin : i = n := by omega
    subst hin;have HE : Hid (L = M) := getD_ext (by omega) (fun j hj => HA.out j (by omega));clear HA;go_wp2;go_ret;exact ⟨⟨_, rfl, by simp [HE.out]⟩, HG.out⟩
 ·have HE : Hid (¬ L = M) := fun e => he (by rw [← hn, ← hn', e])
  go_enter Tryz.func46, Tryz.ntmps46;go_wp2;go_ret;exact ⟨⟨_, rfl, by simp [HE.out]⟩, World.grownBy.refl _ _⟩
theorem refLong_any (s : Int) (w : World) : Calls Tryz.prog 118 #[.int .i64 s] w fun en w' => en = .returned (.int .i64 ((lg s : Nat) : Int)) ∧ w' = w := by
 have HL := hJ (lg_int s)
 by_cases h0 : s < 0
 ·go_enter Tryz.func118, Tryz.ntmps118
  go_wp2;go_ret;exact ⟨ret_int (by rw [HL.out]; omega), rfl⟩
 ·by_cases h1 : 262144 < s
  ·go_enter Tryz.func118, Tryz.ntmps118
   go_wp2;go_ret;exact ⟨ret_int (by rw [HL.out]; omega), rfl⟩
  ·go_enter Tryz.func118, Tryz.ntmps118
   go_wp2;go_ret;exact ⟨ret_int (by rw [HL.out]; omega), rfl⟩
theorem ret_u64 {x y : Int} (h : x = y) : Ending.returned (Value.int IntKind.u64 x) = .returned (.int .u64 y) := by rw [h]
theorem refTag_any (s : Int) (w : World) : Calls Tryz.prog 117 #[.int .i64 s] w fun en w' => en = .returned (.int .u64 ((tg s : Nat) : Int)) ∧ w' = w := by
 have hl := lg_le s;have HT : Hid (tg s = if 512 < lg s then 2 * lg s + 1 else 2 * lg s) := rfl;go_enter Tryz.func117, Tryz.ntmps117
 go_wp2_with fail
 refine (refLong_any s _).mono ?_;rintro en w1 ⟨rfl, rfl⟩;generalize lg s = q at *
 by_cases h5 : 512 < q
 ·go_wp2
  go_ret;exact ⟨ret_u64 (by rw [HT.out, if_pos h5]; go_num), rfl⟩
 ·go_wp2
  go_ret;exact ⟨ret_u64 (by rw [HT.out, if_neg h5]; go_num), rfl⟩
theorem refCommon4_none (a : Option Addr) (cap : Nat) (w : World) : Calls Tryz.prog 89 #[.slice a 0 cap] w fun en w' => en = .returned (.int .i64 0) ∧ w' = w := by
 go_enter Tryz.func89, Tryz.ntmps89;go_wp2;go_ret;exact ⟨rfl, rfl⟩
theorem refCommon4_some (a : Option Addr) (cap : Nat) (x : It) (T : List It) (w : World) (hl : Il w a (x :: T)) (hc : T.length + 1 ≤ 5000) :
  Calls Tryz.prog 89 #[.slice a (T.length + 1) cap] w fun en w' => en = .returned (.int .i64 ((pre (x :: T) : Nat) : Int)) ∧ Dr w w' := by
 have HM : Hid (pre (x :: T) = comAll x.key x.key.length (T.map It.key)) := rfl;obtain ⟨b, off, ao, n, c, bo, m2, d2, rfl, q2, q3, q4, q5, q6, q7, q8, q9, q10, q11⟩ := hl.row 0 (by simp);have h3' : Byt w ao n c x.key := by simpa using q6
 have hz := h3'.len;have HF := hJ h3';have HL := hJ hl;rw [Nat.zero_mul, Nat.add_zero] at q2;have HQ2 := hJ q2;clear q2 q3 q4 q5 q6 q9 h3' hl;obtain ⟨N, hN⟩ : ∃ N, T.length + 1 = N := ⟨_, rfl⟩;rw [hN];have HN := hJ hN;have hN5 : N ≤ 5000 := by omega
 have hN1 : ¬ N = 0 := by omega
 have hN0 : (0 : Int) < (N : Int) := by omega
 clear hN hc;have cq := HQ2.out;go_enter Tryz.func89, Tryz.ntmps89;go_wp2;go_loopw [3, 4, 5] (fun sn si _ wr => ∃ i : Nat, i + 1 ≤ N ∧ si = .int .i64 ((i + 1 : Nat) : Int) ∧ sn = .int .i64 ((comAll x.key n ((T.map It.key).take i) : Nat) : Int) ∧ Dr w wr) (fun _ si _ _ => N - (intOf si).toNat)
 case atStart => exact ⟨0, by omega, rfl, rfl, Dr.refl _⟩
 case round =>
  obtain ⟨i, hi, rfl, rfl, hq⟩ := hrel;have HQ := hJ hq;clear hq;have hle : comAll x.key n ((T.map It.key).take i) ≤ n := comAll_le _ _ _
  by_cases hlt : i + 1 < N
  ·obtain ⟨b', off', bo', m, d, bo2, m3, d3, e1, k2, k3, k4, k5, k6, k7, k8, k9, k10, k11⟩ := HL.out.row (i + 1) (by have := HN.out; simp; omega)
   simp only [Option.some.injEq, Addr.mk.injEq] at e1;obtain ⟨rfl, rfl, _⟩ := e1;have k6' : Byt w bo' m d (T.getD i it0).key := by simpa using k6
   have hlk := k6'.len
   have HS : Hid (comAll x.key n ((T.map It.key).take (i + 1)) = min (comAll x.key n ((T.map It.key).take i)) (com x.key (T.getD i it0).key)) := by
    have := comAll_snoc x.key n (T.map It.key) i (by have := HN.out; rw [List.length_map]; omega);rw [key_map] at this;exact this
   have HB := hJ k6';have HK2 := hJ k2;clear k2 k3 k4 k5 k6 k6' k9;generalize comAll x.key n ((T.map It.key).take i) = t at *;generalize (T.getD i it0).key = g at *;obtain ⟨j, hj⟩ : ∃ j, i + 1 = j := ⟨_, rfl⟩;rw [hj] at HK2 hlt hi HS ⊢;have HJ := hJ hj;clear hj;have g0 : (0 : Int) ≤ (j : Int) := by omega
   have g1 : (j : Int) < (N : Int) := by omega
   go_wp2;go_loopw [5] (fun sk wk => ∃ k : Nat, k ≤ t ∧ k ≤ m ∧ sk = .int .i64 k ∧ com (x.key.drop k) (g.drop k) + k = com x.key g ∧ Dr w wk) (fun sk _ => t - (intOf sk).toNat)
   case atStart => exact ⟨0, Nat.zero_le _, Nat.zero_le _, rfl, rfl, HQ.out⟩
   case round =>
    obtain ⟨k, hk1, hk2, rfl, he, hqk⟩ := hrel;have HE := hJ he;have HQK := hJ hqk;clear he hqk;have cf := (HQK.out.cell _).trans HQ2.out;have cg := (HQK.out.cell _).trans HK2.out
    by_cases h1 : k < t
    ·by_cases h2 : k < m
     ·obtain ⟨b1, o1, rfl, _, r1⟩ := HF.out.at (by omega)
      obtain ⟨b2, o2, rfl, _, r2⟩ := HB.out.at (by omega);have c1 := (HQK.out.cell _).trans (r1 k (by omega));have c2 := (HQK.out.cell _).trans (r2 k h2);have e1 : Hid (x.key.getD k 0 = g.getD k 0 → com (x.key.drop k) (g.drop k) = com (x.key.drop (k + 1)) (g.drop (k + 1)) + 1) := fun h => com_on (by omega) (by omega) h
      have e2 : Hid (x.key.getD k 0 ≠ g.getD k 0 → com (x.key.drop k) (g.drop k) = 0) := fun h => com_off (by omega) (by omega) h
      have gg1 : decide ((k : Int) < (t : Int)) = true := by simp; omega
      have gg2 : decide ((k : Int) < (m : Int)) = true := by simp; omega
      have gg3 : (k : Int) < (n : Int) := by omega
      have gg4 : (k : Int) < (m : Int) := by omega
      have gg0 : (0 : Int) ≤ (k : Int) := by omega
      clear r1 r2;generalize x.key.getD k 0 = u at *;generalize g.getD k 0 = v at *
      by_cases huv : u = v
      ·subst huv
       have E1 := hJ (e1.out rfl);clear e1 e2;have hd : (u == u) = true := by simp
       go_wp2
       go_quiet (fail)
       go_wp2;go_roundw
       case rel => exact ⟨k + 1, by omega, by omega, by go_num, by have := E1.out; have := HE.out; omega, HQK.out.more _⟩
       case measure => simp [intOf]; omega
      ·have hd : (v == u) = false := by simpa using fun e => huv e.symm
       have HC : Hid (com x.key g = k) := by have := e2.out huv; have := HE.out; show _ = _; omega
       clear e1 e2;go_wp2
       go_quiet (fail)
       go_wp2;go_roundw
       case rel => exact ⟨i + 1, by have := HJ.out; omega, by have := HJ.out; go_num, by rw [HJ.out, HS.out, HC.out, Nat.min_eq_right (by omega)], HQK.out.more _⟩
       case measure => have := HJ.out; simp [intOf]; omega
     ·have hend := com_end (a := x.key) (b := g) (i := k) (by omega)
      have HC : Hid (com x.key g = k) := by have := HE.out; show _ = _; omega
      clear hend;have gg1 : decide ((k : Int) < (t : Int)) = true := by simp; omega
      have gg2 : decide ((k : Int) < (m : Int)) = false := by simp; omega
      go_wp2
      go_quiet (fail)
      go_wp2;go_roundw
      case rel => exact ⟨i + 1, by have := HJ.out; omega, by have := HJ.out; go_num, by rw [HJ.out, HS.out, HC.out, Nat.min_eq_right (by omega)], HQK.out.more _⟩
      case measure => have := HJ.out; simp [intOf]; omega
    ·have HC : Hid (t ≤ com x.key g) := by have := HE.out; show _ ≤ _; omega
     have hkt : k = t := by omega
     have gg1 : decide ((k : Int) < (t : Int)) = false := by simp; omega
     go_wp2
     go_quiet (fail)
     go_wp2;go_roundw
     case rel => exact ⟨i + 1, by have := HJ.out; omega, by have := HJ.out; go_num, by rw [HJ.out, HS.out, Nat.min_eq_left HC.out, hkt], HQK.out.more _⟩
     case measure => have := HJ.out; simp [intOf]; omega
  ·have hin : i = T.length := by have := HN.out; omega
   have HT : Hid (comAll x.key n ((T.map It.key).take i) = pre (x :: T)) := by
    show _ = _
    rw [HM.out, hin, hz, List.take_of_length_le (by rw [List.length_map]; exact Nat.le_refl _)]
   generalize comAll x.key n ((T.map It.key).take i) = t at *;obtain ⟨j, hj⟩ : ∃ j, i + 1 = j := ⟨_, rfl⟩;rw [hj] at hlt ⊢;have g1 : ¬ (j : Int) < (N : Int) := by omega
   go_wp2;go_ret;exact ⟨ret_int (by rw [HT.out]), HQ.out⟩
theorem refCommon4_any (a : Option Addr) (n cap : Nat) (L : List It) (w : World) (hl : Il w a L) (hn : L.length = n) (hm : n ≤ 5000) :
  Calls Tryz.prog 89 #[.slice a n cap] w fun en w' => en = .returned (.int .i64 ((pre L : Nat) : Int)) ∧ Dr w w' := by
 cases L with
 | nil =>
  obtain rfl : n = 0 := by simpa using hn.symm
  refine (refCommon4_none a cap w).mono ?_;rintro en w' ⟨rfl, rfl⟩;exact ⟨rfl, Dr.refl _⟩
 | cons x T =>
  have e : n = T.length + 1 := by simpa using hn.symm
  subst e;exact refCommon4_some a cap x T w hl hm
theorem refSize_any (a : Option Addr) (n cap : Nat) (L : List It) (w : World) (hl : Il w a L) (hn : L.length = n) (hm : n ≤ 5000) (hk : ∀ x ∈ L, x.key.length ≤ 1000000) :
  Calls Tryz.prog 88 #[.slice a n cap] w fun en w' => en = .returned (.int .i64 ((size L : Nat) : Int)) ∧ Dr w w' := by
 have HL := hJ hl;have HP : Hid (∀ x ∈ L, pre L ≤ x.key.length) := fun x hx => (pre_each x hx).1
 have HS := hJ (size_int (by omega) hk);have HM : Hid (size L = 3 + vl (pre L) + pre L + sums (pre L) L) := rfl;have HN := hJ (fun i h => sums_snoc (pre L) L i h);have hv := vl_le (pre L)
 have hpl : pre L ≤ 1000000 := by
  cases L with
  | nil => exact Nat.zero_le _
  | cons x L => exact Nat.le_trans (pre_each x List.mem_cons_self).1 (hk x List.mem_cons_self)
 have HK := hJ hk;clear hl hk;go_enter Tryz.func88, Tryz.ntmps88
 go_wp2_with fail
 refine (refCommon4_any a n cap L _ HL.out hn hm).mono ?_;rintro en w1 ⟨rfl, hg1⟩;have HG := hJ hg1;clear hg1;generalize pre L = p at *
 go_wp2_with fail
 refine (refVLen_any p _ (by omega)).mono ?_;rintro en w2 ⟨rfl, rfl⟩;have hv' : (vform p).length ≤ 10 := hv;generalize hvv : (vform p).length = v at *;have HV : Hid (vl p = v) := hvv;clear hvv hv;go_wp2;go_loopw [4, 5, 6] (fun sn si _ wr => ∃ i : Nat, i ≤ n ∧ si = .int .i64 i ∧ sn = .int .i64 ((3 + v + p + sums p (L.take i) : Nat) : Int) ∧ Dr w wr) (fun _ si _ _ => n - (intOf si).toNat)
 case atStart => exact ⟨0, Nat.zero_le _, rfl, by simp [sums], HG.out⟩
 case round =>
  obtain ⟨i, hi, rfl, rfl, hg⟩ := hrel;have HG1 := hJ hg;have b1 := HS.out i (by omega);clear hg HG
  by_cases hlt : i < n
  ·obtain ⟨b, off, ao, m, c, bo, m2, d2, rfl, q2, q3, q4, q5, q6, q7, q8, q9, q10, q11⟩ := HL.out.row i (by omega)
   have c0 := (HG1.out.cell _).trans q2;have c2 := (HG1.out.cell _).trans q4;have hx := getD_mem (L := L) (i := i) (by omega);have hm1 := q6.len;have hp1 := HP.out _ hx;have hk1 := HK.out _ hx;have b2 := cl_le p (L.getD i it0);have HX : Hid (sums p (L.take (i + 1)) = sums p (L.take i) + (2 + cl p (L.getD i it0))) := HN.out i (by omega);obtain ⟨r, hr⟩ : ∃ r, m - p = r := ⟨_, rfl⟩;have hr' : (m : Int) - (p : Int) = (r : Int) := by omega
   have HCL : Hid (cl p (L.getD i it0) = vl r + r + vl (tg (L.getD i it0).size) + tl (L.getD i it0).size) := by show _ = _; unfold cl; rw [hm1, hr]
   have htl : tl (L.getD i it0).size = if 512 < lg (L.getD i it0).size then 4 else lg (L.getD i it0).size := rfl
   have hlg := lg_le (L.getD i it0).size;have htt := tg_lt (L.getD i it0).size;have hv1 : (vform r).length ≤ 10 := vl_le r;have hv2 : (vform (tg (L.getD i it0).size)).length ≤ 10 := vl_le _;have HVR := hJ (fun W : World => refVLen_any r W (by omega));have HVT := hJ (fun W : World => refVLen_any (tg (L.getD i it0).size) W (by omega));have HTG := hJ (fun W : World => refTag_any (L.getD i it0).size W);have HLG := hJ (fun W : World => refLong_any (L.getD i it0).size W);have hrb : r ≤ 1000000 := by omega
   clear q2 q3 q4 q5 q6 q9 hm1 hp1 hx hr;generalize cl p (L.getD i it0) = C at *;generalize sums p (L.take i) = U at *;generalize tl (L.getD i it0).size = tl1 at *;generalize lg (L.getD i it0).size = lg1 at *;generalize (L.getD i it0).size = sz at *;have HTL := hJ htl;clear htl;generalize hla : (vform r).length = la at *;generalize hlb : (vform (tg sz)).length = lb1 at *;have HLA : Hid (vl r = la) := hla;have HLB : Hid (vl (tg sz) = lb1) := hlb;clear hla hlb;generalize tg sz = t at *;have g0 : (0 : Int) ≤ (i : Int) := by omega
   have g1 : (i : Int) < (n : Int) := by omega
   obtain ⟨S0, hS0⟩ : ∃ S0, 3 + v + p + U = S0 := ⟨_, rfl⟩;rw [hS0];have HS0 := hJ hS0;have hSb : S0 ≤ 6006000000 := by omega
   clear hS0;go_wp2
   go_quiet ((first
    | (go_at_call_of 116 (Value.int IntKind.u64 (r : Int)); exact Calls.quiet_of_same (HVR.out _))
    | (go_at_call_of 116 (Value.int IntKind.u64 (t : Int)); exact Calls.quiet_of_same (HVT.out _))
    | (go_at_call 117; exact Calls.quiet_of_same (HTG.out _))))
   go_wp2_with fail
   refine (HLG.out _).mono ?_;rintro en w5 ⟨rfl, rfl⟩
   by_cases h5 : 512 < lg1
   ·rw [if_pos h5] at HTL
    go_wp2;go_roundw
    case rel => exact ⟨i + 1, by omega, by go_num, by rw [HX.out, HCL.out, HLA.out, HLB.out, HTL.out]; have := HS0.out; go_num, HG1.out.more _⟩
    case measure => simp [intOf]; omega
   ·rw [if_neg h5] at HTL
    go_wp2_with fail
    refine (HLG.out _).mono ?_;rintro en w5 ⟨rfl, rfl⟩;go_wp2;go_roundw
    case rel => exact ⟨i + 1, by omega, by go_num, by rw [HX.out, HCL.out, HLA.out, HLB.out, HTL.out]; have := HS0.out; go_num, HG1.out.more _⟩
    case measure => simp [intOf]; omega
  ·have hin : i = n := by omega
   subst hin;go_wp2;go_ret;refine ⟨ret_int ?_, HG1.out⟩;rw [HM.out, HV.out, ← hn, List.take_length]
theorem less_nums : ∀ {a b : List Int}, Bt a → Bt b → Op.bytesLess (a.map fun n => UInt8.ofNat n.toNat) (b.map fun n => UInt8.ofNat n.toNat) = decide (cmpZ a b < 0)
 | [], [], _, _ => by simp [Op.bytesLess, cmpZ]
 | _ :: _, [], _, _ => by simp [Op.bytesLess, cmpZ]
 | [], _ :: _, _, _ => by simp [Op.bytesLess, cmpZ]
 | a :: xs, b :: ys, ha, hb => by
  have h1 := ha a (List.mem_cons_self ..);have h2 := hb b (List.mem_cons_self ..);have ih := less_nums (a := xs) (b := ys) (fun z hz => ha z (List.mem_cons_of_mem _ hz)) (fun z hz => hb z (List.mem_cons_of_mem _ hz))
  have e1 : (UInt8.ofNat a.toNat < UInt8.ofNat b.toNat) ↔ a < b := by
   rw [UInt8.lt_iff_toNat_lt]; simp; omega
  have e2 : (UInt8.ofNat a.toNat = UInt8.ofNat b.toNat) ↔ a = b := by
   rw [← UInt8.toNat_inj]; simp; omega
  rw [List.map_cons, List.map_cons, Op.bytesLess, ih, cmp_cons]
  by_cases h3 : a < b
  ·simp [e1, h3]
  ·by_cases h4 : b < a
   ·have h5 : ¬ a = b := by omega
    simp [e1, e2, h3, h4, h5]
   ·have h5 : a = b := by omega
    subst h5;simp
theorem less_any (ao bo : Option Addr) (n m c d : Nat) (za zb : List Int) (w : World) (ha : Byt w ao n c za) (hb : Byt w bo m d zb) (ba : Bt za) (bb : Bt zb) :
  Calls Tryz.prog 94 #[.slice ao n c, .slice bo m d] w fun en w' => en = .returned (.bool (decide (cmpZ za zb < 0))) ∧ w' = w := by
 have h1 := conv_str ha;have h2 := conv_str hb
 have HE : Hid (Op.bytesLess (strOfNums za).toList (strOfNums zb).toList = decide (cmpZ za zb < 0)) := by
  show _ = _
  rw [ByteArray.toList_eq, ByteArray.toList_eq, strOfNums_data, strOfNums_data];exact less_nums ba bb
 clear ha hb;go_enter Tryz.func94, Tryz.ntmps94;go_wp2;go_ret;exact ⟨by rw [← HE.out]; rfl, rfl⟩
theorem holds_any (ao : Option Addr) (n c : Nat) (bo : Option Addr) (m d : Nat) (s f : Int) (w : World) (x : It) (hv : x.val.length = m) (hs : x.size = s) (hf : x.first = f) :
  Calls Tryz.prog 115 #[.agg #[.slice ao n c, .slice bo m d, .int .i64 s, .int .i64 f]] w fun en w' => en = .returned (.bool (!wv x)) ∧ w.grownBy w' none := by
 have HW : Hid (wv x = if 512 < s then decide (m ≠ 0) || decide (f < 2) || decide (524287 ≤ f) else decide ((m : Int) ≠ s) || decide (f ≠ 0)) := by show _ = _; unfold wv; rw [hv, hs, hf]
 have G1 := hJ (World.grownBy_alloc w (.cells #[.slice ao n c, .slice bo m d, .int .i64 s, .int .i64 f] 62) none)
 by_cases h5 : 512 < s
 ·rw [if_pos h5] at HW
  by_cases h0 : m = 0
  ·subst h0
   by_cases h2 : f < 2
   ·go_enter Tryz.func115, Tryz.ntmps115
    go_wp2;go_ret;exact ⟨by rw [HW.out]; simp [h2], G1.out⟩
   ·go_enter Tryz.func115, Tryz.ntmps115
    go_wp2;go_ret;refine ⟨?_, G1.out⟩;rw [HW.out];have h4 : decide (f < 2) = false := decide_eq_false (by omega);rw [h4]
    by_cases h3 : 524287 ≤ f
    ·have h5 : ¬ f < 524287 := by omega
     simp [h3, h5]
    ·have h5 : f < 524287 := by omega
     simp [h3, h5]
  ·go_enter Tryz.func115, Tryz.ntmps115
   go_wp2;go_ret;exact ⟨by rw [HW.out]; simp [h0], G1.out⟩
 ·rw [if_neg h5] at HW
  by_cases h0 : (m : Int) = s
  ·go_enter Tryz.func115, Tryz.ntmps115
   go_wp2;go_ret;refine ⟨?_, G1.out⟩;rw [HW.out]
   by_cases hz : f = 0 <;> simp [h0, hz]
  ·go_enter Tryz.func115, Tryz.ntmps115
   go_wp2;go_ret;exact ⟨by rw [HW.out]; simp [h0], G1.out⟩
def NoW (P : It → Bool) (L : List It) (i : Nat) : Prop := (L.take i).any P = false
theorem NoW.zero (P : It → Bool) (L : List It) : NoW P L 0 := by unfold NoW; simp
def Rise (L : List It) (n k : Nat) : Prop := ∀ j, j < k → j + 1 < n → cmpZ (L.getD j it0).key (L.getD (j + 1) it0).key < 0
theorem refWrong_any (a : Option Addr) (n cap : Nat) (L : List It) (w : World) (hl : Il w a L) (hb : Ib L) (hn : L.length = n) (hm : n ≤ 5000) :
  Calls Tryz.prog 87 #[.slice a n cap] w fun en w' => en = .returned (.int .i64 (wrong L)) ∧ w.grownBy w' none := by
 have HW : Hid (wrong L = if n = 0 then 40 else if L.any ws then 41 else if L.any wv then 40 else if ups L then 0 else 30) := by show _ = _; unfold wrong; rw [hn]
 have HL := hJ hl;have HB := hJ hb;clear hl hb
 by_cases h0 : n = 0
 ·rw [if_pos h0] at HW
  go_enter Tryz.func87, Tryz.ntmps87;go_wp2;go_ret;exact ⟨by rw [HW.out]; rfl, World.grownBy.refl _ _⟩
 ·rw [if_neg h0] at HW
  have hn0 : ((n : Int) == 0) = false := by
   rw [beq_eq_false_iff_ne];omega
  go_enter Tryz.func87, Tryz.ntmps87;go_wp2;go_loopw [3, 4] (fun si _ wr => ∃ i : Nat, i ≤ n ∧ si = .int .i64 i ∧ NoW ws L i ∧ w.grownBy wr none) (fun si _ _ => n - (intOf si).toNat)
  case atStart => exact ⟨0, Nat.zero_le _, rfl, NoW.zero _ _, World.grownBy.refl _ _⟩
  case round =>
   obtain ⟨i, hi, rfl, ha, hg⟩ := hrel;have HG1 := hJ hg;have HA := hJ ha;clear hg ha
   by_cases hlt : i < n
   ·obtain ⟨b, off, ao, m, c, bo, m2, d2, rfl, q2, q3, q4, q5, q6, q7, q8, q9, q10, q11⟩ := HL.out.row i (by omega)
    have c0 := HG1.out.cell q2 (by simp);have c1 := HG1.out.cell q3 (by simp);have c2 := HG1.out.cell q4 (by simp);have c3 := HG1.out.cell q5 (by simp);have HX : Hid (ws (L.getD i it0) = false → NoW ws L (i + 1)) := fun e => any_take (by omega) HA.out e
    have HY : Hid (ws (L.getD i it0) = true → L.any ws = true) := fun e => any_yes (by omega) e
    have HWS : Hid (ws (L.getD i it0) = (!(decide (1 ≤ m) && decide (m ≤ 255)) || decide ((L.getD i it0).size < 0) || decide (262144 < (L.getD i it0).size))) := by show _ = _; unfold ws; rw [q6.len]
    clear q2 q3 q4 q5 q6 q9;generalize (L.getD i it0).size = sz at *;generalize (L.getD i it0).first = fs at *
    generalize ws (L.getD i it0) = bb at *;have G2 := hJ (gQ HG1.out (World.grownBy_alloc wr (.cells #[.slice ao m c, .slice bo m2 d2, .int .i64 sz, .int .i64 fs] 62) none))
    by_cases k1 : m < 1
    ·have HY1 := hJ (HY.out (by rw [HWS.out]; simp; omega))
     clear HX HY HWS;go_wp2;go_ret;exact ⟨by rw [HW.out, HY1.out]; rfl, G2.out⟩
    ·by_cases k2 : 255 < m
     ·have HY1 := hJ (HY.out (by rw [HWS.out]; simp; omega))
      clear HX HY HWS;go_wp2;go_ret;exact ⟨by rw [HW.out, HY1.out]; rfl, G2.out⟩
     ·by_cases k3 : sz < 0
      ·have HY1 := hJ (HY.out (by rw [HWS.out]; simp [k3]))
       clear HX HY HWS;go_wp2;go_ret;exact ⟨by rw [HW.out, HY1.out]; rfl, G2.out⟩
      ·by_cases k4 : 262144 < sz
       ·have HY1 := hJ (HY.out (by rw [HWS.out]; simp [k4]))
        clear HX HY HWS;go_wp2;go_ret;exact ⟨by rw [HW.out, HY1.out]; rfl, G2.out⟩
       ·have HX1 := hJ (HX.out (by rw [HWS.out]; simp [k3, k4]; omega))
        clear HX HY HWS;go_wp2;go_roundw
        case rel => exact ⟨i + 1, by omega, by go_num, HX1.out, G2.out⟩
        case measure => simp [intOf]; omega
   ·have hin : n = i := by omega
    subst hin
    have HA1 : Hid (L.any ws = false) := by
     have := HA.out;unfold NoW at this
     rwa [← hn, List.take_length] at this
    rw [HA1.out, if_neg (by simp)] at HW;clear HA HA1;go_wp2;go_loopw [2, 5, 6] (fun _ si _ wr => ∃ i : Nat, i ≤ n ∧ si = .int .i64 i ∧ NoW wv L i ∧ w.grownBy wr none) (fun _ si _ _ => n - (intOf si).toNat)
    case atStart => exact ⟨0, Nat.zero_le _, rfl, NoW.zero _ _, HG1.out⟩
    case round =>
     obtain ⟨j, hj, rfl, ha, hg⟩ := hrel;have HG2 := hJ hg;have HA := hJ ha;clear hg ha HG1
     by_cases hlt2 : j < n
     ·obtain ⟨b, off, ao, m, c, bo, m2, d2, rfl, q2, q3, q4, q5, q6, q7, q8, q9, q10, q11⟩ := HL.out.row j (by omega)
      have c0 := HG2.out.cell q2 (by simp);have c1 := HG2.out.cell q3 (by simp);have c2 := HG2.out.cell q4 (by simp);have c3 := HG2.out.cell q5 (by simp);have HX : Hid (wv (L.getD j it0) = false → NoW wv L (j + 1)) := fun e => any_take (by omega) HA.out e
      have HY : Hid (wv (L.getD j it0) = true → L.any wv = true) := fun e => any_yes (by omega) e
      have HC := hJ (fun (W : World) => holds_any ao m c bo m2 d2 (L.getD j it0).size (L.getD j it0).first W (L.getD j it0) q9.len rfl rfl);clear q2 q3 q4 q5 q6 q9;generalize (L.getD j it0).size = sz at *;generalize (L.getD j it0).first = fs at *
      generalize wv (L.getD j it0) = bb at *
      go_wp2_with fail
      refine (HC.out _).mono ?_;rintro en w2 ⟨rfl, hg2⟩;have HG3 := hJ (gQ HG2.out hg2);clear hg2;cases bb with
      | true =>
       have HY1 := hJ (HY.out rfl);clear HX HY;go_wp2;go_ret;exact ⟨by rw [HW.out, HY1.out]; rfl, HG3.out⟩
      | false =>
       have HX1 := hJ (HX.out rfl);clear HX HY;go_wp2;go_roundw
       case rel => exact ⟨j + 1, by omega, by go_num, HX1.out, HG3.out⟩
       case measure => simp [intOf]; omega
     ·have hjn : n = j := by omega
      subst hjn
      have HA1 : Hid (L.any wv = false) := by
       have := HA.out;unfold NoW at this
       rwa [← hn, List.take_length] at this
      rw [HA1.out, if_neg (by simp)] at HW;clear HA HA1;go_wp2;go_loopw [2, 7, 8] (fun _ si _ wr => ∃ k : Nat, k ≤ n ∧ si = .int .i64 ((k + 1 : Nat) : Int) ∧ Rise L n k ∧ w.grownBy wr none) (fun _ si _ _ => n + 1 - (intOf si).toNat)
      case atStart => exact ⟨0, Nat.zero_le _, rfl, fun j hj => by omega, HG2.out⟩
      case round =>
       obtain ⟨k, hk, rfl, ha, hg⟩ := hrel;have HG := hJ hg;have HA := hJ ha;clear hg ha HG2
       by_cases hlt3 : k + 1 < n
       ·obtain ⟨b, off, ao, m, c, bo, m2, d2, rfl, q2, q3, q4, q5, q6, q7, q8, q9, q10, q11⟩ := HL.out.row k (by omega)
        obtain ⟨b', off', ao', m', c', bo', m2', d2', e1, r2, r3, r4, r5, r6, r7, r8, r9, r10, r11⟩ := HL.out.row (k + 1) (by omega);simp only [Option.some.injEq, Addr.mk.injEq] at e1;obtain ⟨rfl, rfl, _⟩ := e1;have c0 := HG.out.cell q2 (by simp);have c1 := HG.out.cell r2 (by simp);have HC := hJ (fun (W : World) (hW : W.heap = wr.heap) => less_any ao ao' m m' c c' _ _ W ((q6.keptN HG.out).heap hW) ((r6.keptN HG.out).heap hW) (HB.out.at (by omega)).key (HB.out.at (by omega)).key)
        have HD : Hid (cmpZ (L.getD k it0).key (L.getD (k + 1) it0).key < 0 → Rise L n (k + 1)) := by
         intro h j hj hj2
         by_cases e : j = k
         ·subst e; exact h
         ·exact HA.out j (by omega) hj2
        have HE : Hid (¬ cmpZ (L.getD k it0).key (L.getD (k + 1) it0).key < 0 → ups L = false) := by
         intro h;cases hu : ups L with
         | false => rfl
         | true => exact absurd ((ups_iff L).1 hu k (by omega)) h
        clear q2 q3 q4 q5 q6 q9 r2 r3 r4 r5 r6 r9;generalize cmpZ (L.getD k it0).key (L.getD (k + 1) it0).key = z at *;have g1 : ((k + 1 : Nat) : Int) < (n : Int) := by omega
        have g0 : (0 : Int) ≤ ((k + 1 : Nat) : Int) := by omega
        have g2 : ((k + 1 : Nat) : Int) - 1 = (k : Int) := by omega
        have g3 : (k : Int) < (n : Int) := by omega
        have g4 : (0 : Int) ≤ (k : Int) := by omega
        obtain ⟨q, hq⟩ : ∃ q, k + 1 = q := ⟨_, rfl⟩;rw [hq] at g1 g0 g2 c1 ⊢;have HJ := hJ hq;clear hq
        by_cases hz : z < 0
        ·have hz' : decide (z < 0) = true := decide_eq_true hz
         rw [hz'] at HC;go_wp2
         go_quiet ((go_at_call 94; exact Calls.quiet_of_same (HC.out _ rfl)))
         go_wp2;go_roundw
         case rel => exact ⟨k + 1, by omega, by have := HJ.out; go_num, HD.out hz, gQ HG.out ((Qt.drewN _ _).grown _)⟩
         case measure => have := HJ.out; simp [intOf]; omega
        ·have hz' : decide (z < 0) = false := decide_eq_false hz
         rw [hz'] at HC;go_wp2
         go_quiet ((go_at_call 94; exact Calls.quiet_of_same (HC.out _ rfl)))
         go_wp2;go_ret;exact ⟨by rw [HW.out, HE.out hz]; rfl, gQ HG.out ((Qt.drewN _ _).grown _)⟩
       ·have g1 : ¬ ((k + 1 : Nat) : Int) < (n : Int) := by omega
        obtain ⟨q, hq⟩ : ∃ q, k + 1 = q := ⟨_, rfl⟩;rw [hq] at g1 ⊢;have HU : Hid (ups L = true) := (ups_iff L).2 (fun r hr => HA.out r (by omega) (by omega));go_wp2;go_ret;exact ⟨by rw [HW.out, HU.out]; rfl, HG.out⟩
theorem take_snoc {zs : List Int} {i : Nat} (h : i < zs.length) : zs.take (i + 1) = zs.take i ++ [zs.getD i 0] := by
 rw [List.take_add_one, List.getElem?_eq_getElem h];simp [List.getD, List.getElem?_eq_getElem h]
theorem range_snoc {zs : List Int} {p i : Nat} (hp : p ≤ i) (h : i < zs.length) : (zs.drop p).take (i + 1 - p) = (zs.drop p).take (i - p) ++ [zs.getD i 0] := by
 have e : i + 1 - p = (i - p) + 1 := by omega
 rw [e, take_snoc (by rw [List.length_drop]; omega)];simp [List.getD, show p + (i - p) = i by omega]
structure Gb (w wr : World) (base : Nat) (v : Value) (zs : List Int) : Prop where
 own : wr.ownsRow base 5 1 v zs.length (zs.map (Value.int .u8))
 gr : w.grownBy wr none
 le : w.heap.size ≤ base ∧ base ≤ wr.heap.size
theorem Gb.byt {w wr : World} {base : Nat} {v : Value} {zs : List Int} (h : Gb w wr base v zs) : ∃ ao cap, v = .slice ao zs.length cap ∧ Byt wr ao zs.length cap zs := owns_any h.own
theorem Gb.app {w wr w' : World} {base : Nat} {v v' : Value} {zs : List Int} {z : Int} (h : Gb w wr base v zs) (o : Obj) (ho : w'.ownsRow base 5 1 v' (zs.length + 1) ((zs ++ [z]).map (Value.int .u8))) (hg : (wr.alloc o).grownBy w' v.ownBlock) : Gb w w' base v' (zs ++ [z]) := by
 refine ⟨by rw [List.length_append]; exact ho, grown_own h.gr h.own h.le.1 hg, h.le.1, ?_⟩;have := hg.size;have := h.le.2;simp at *;omega
theorem Gb.keptN {w wr w' : World} {base : Nat} {v : Value} {zs : List Int} (h : Gb w wr base v zs) (hg : wr.grownBy w' none) : Gb w w' base v zs :=
 ⟨h.own.kept hg (by cases v.ownBlock <;> simp), gQ h.gr hg, h.le.1, Nat.le_trans h.le.2 hg.size⟩
theorem refPut_own (ao : Option Addr) (n cap : Nat) (zs : List Int) (x d : Nat) (w : World) (hb : Byt w ao n cap zs) (hn : n ≤ 1099511627776) (_hx : x < 18446744073709551616) (hd : d ≤ 8) :
  Calls Tryz.prog 90 #[.slice ao n cap, .int .u64 x, .int .i64 d] w fun e w' => ∃ ao' cap', e = .returned (.slice ao' (n + d) cap') ∧ w'.ownsRow w.heap.size 5 1 (.slice ao' (n + d) cap') (n + d) ((zs ++ lb d x).map (Value.int .u8)) ∧ w.grownBy w' none ∧ w.heap.size ≤ w'.heap.size := by
 go_enter Tryz.func90, Tryz.ntmps90
 go_wp2_with fail
 refine (refBytes_any ao n cap zs _ hb (by omega)).mono ?_;rintro en w0 ⟨rfl, hown0, hg0, hs0⟩;clear hb;go_wp2;go_loopw [7, 8] (fun out si wr => ∃ (k : Nat), k ≤ d ∧ si = .int .i64 k ∧ wr.ownsRow w.heap.size 5 1 out (n + k) ((zs ++ lb k x).map (Value.int .u8)) ∧ w.grownBy wr none) (fun _ si _ => d - (intOf si).toNat)
 case atStart => exact ⟨0, by omega, rfl, by simpa [lb] using hown0, hg0⟩
 case round =>
  obtain ⟨k, hk, rfl, hown, hg⟩ := hrel
  by_cases hlt : k < d
  ·go_wp2_with (at_builtin; refine wpList_append_byt rfl _ _ rfl w.heap.size _ (n + k) (zs ++ lb k x) rfl (hown.alloc _) (some ⟨wr.heap.size, 0, none⟩) 1 1 [(x : Int) / 2 ^ (8 * k) % 256] rfl (Byt.lit wr 5 _ [(x : Int) / 2 ^ (8 * k) % 256] 1 rfl rfl) (by omega) (by have := hg.size; simp; omega) ?_)
   intro v' w1 h1 h2;have hg2 := grown_own hg hown (Nat.le_refl _) h2
   have hown2 : w1.ownsRow w.heap.size 5 1 v' (n + (k + 1)) ((zs ++ lb (k + 1) x).map (Value.int .u8)) := by
    rw [lb_snoc, List.map_append, List.map_append, ← Nat.add_assoc, ← shift_byte];simpa using h1
   clear h1 h2 hown;go_wp2;go_roundw
   case rel => exact ⟨k + 1, by omega, by go_num, hown2, hg2⟩
   case measure => simp [intOf]; omega
  ·have hkd : k = d := by omega
   subst hkd;obtain ⟨ao', cap', hv, hB⟩ := owns_any hown;subst hv;have HB := hJ hown;have HG : Hid (w.grownBy wr none) := hg;clear hB hown hg;go_wp2;go_ret;exact ⟨_, _, rfl, HB.out, HG.out, HG.out.size⟩
theorem refPutV_own (ao : Option Addr) (n cap : Nat) (zs : List Int) (x : Nat) (w : World) (hb : Byt w ao n cap zs) (hn : n ≤ 1099511627776) (hx : x < 18446744073709551616) :
  Calls Tryz.prog 91 #[.slice ao n cap, .int .u64 x] w fun e w' => ∃ ao' cap', e = .returned (.slice ao' (n + (vform x).length) cap') ∧ w'.ownsRow w.heap.size 5 1 (.slice ao' (n + (vform x).length) cap') (n + (vform x).length) ((zs ++ vform x).map (Value.int .u8)) ∧ w.grownBy w' none ∧ w.heap.size ≤ w'.heap.size := by
 have HL : Hid (zs.length = n) := hb.len;have hvl := vform_le x;go_enter Tryz.func91, Tryz.ntmps91
 go_wp2_with fail
 refine (refBytes_any ao n cap zs _ hb (by omega)).mono ?_;rintro en w0 ⟨rfl, hown0, hg0, hs0⟩;clear hb;go_wp2
 go_loopw [5, 1] (fun out sx wr => ∃ (f y : Nat) (pre : List Int), 1 ≤ f ∧ f ≤ 10 ∧ y < 2 * 128 ^ (f - 1) ∧ sx = .int .u64 y ∧ y < 18446744073709551616 ∧ pre ++ lf f y = zs ++ vform x ∧
   wr.ownsRow w.heap.size 5 1 out pre.length (pre.map (Value.int .u8)) ∧ w.grownBy wr none) (fun _ sx _ => (intOf sx).toNat)
 case atStart => exact ⟨10, x, zs, by omega, by omega, by simp; omega, rfl, hx, rfl, by rw [HL.out]; exact hown0, hg0⟩
 case round =>
  obtain ⟨f, y, pre, hf1, hf2, hy, rfl, hy64, hpre, hown, hg⟩ := hrel;have HP : Hid (pre ++ lf f y = zs ++ vform x) := hpre;have hpl : pre.length ≤ n + 10 := by have := congrArg List.length hpre; simp at this; have := HL.out; omega
  have HY : Hid (y < 2 * 128 ^ (f - 1)) := hy;clear hpre hy
  by_cases hlt : y < 128
  ·go_wp2_with (at_builtin; refine wpList_append_byt rfl _ _ rfl w.heap.size _ pre.length pre rfl (hown.alloc _) (some ⟨wr.heap.size, 0, none⟩) 1 1 [(y : Int)] rfl (Byt.lit wr 5 _ [(y : Int)] 1 rfl rfl) (by omega) (by have := hg.size; simp; omega) ?_)
   intro v' w1 h1 h2;have hg2 := grown_own hg hown (Nat.le_refl _) h2;have hfin : pre ++ [(y : Int)] = zs ++ vform x := by rw [← HP.out]; obtain ⟨f', rfl⟩ : ∃ f', f = f' + 1 := ⟨f - 1, by omega⟩; rw [lf_small f' y hlt]
   have hl1 : pre.length + 1 = n + (vform x).length := by have := congrArg List.length hfin; simp at this; have := HL.out; omega
   have h3 : w1.ownsRow w.heap.size 5 1 v' (n + (vform x).length) ((zs ++ vform x).map (Value.int .u8)) := by rw [← hfin, ← hl1]; simpa using h1
   obtain ⟨ao', cap', hv, hB⟩ := owns_any h3;subst hv;have HB := hJ h3;have HG : Hid (w.grownBy w1 none) := hg2;clear hB hown hg h1 h2 h3 hfin hl1 hg2;go_wp2;go_ret;exact ⟨_, _, rfl, HB.out, HG.out, HG.out.size⟩
  ·go_wp2_with (at_builtin; refine wpList_append_byt rfl _ _ rfl w.heap.size _ pre.length pre rfl (hown.alloc _) (some ⟨wr.heap.size, 0, none⟩) 1 1 [(y : Int) % 128 + 128] rfl (Byt.lit wr 5 _ [(y : Int) % 128 + 128] 1 rfl rfl) (by omega) (by have := hg.size; simp; omega) ?_)
   intro v' w1 h1 h2;have hg2 := grown_own hg hown (Nat.le_refl _) h2;obtain ⟨f', rfl⟩ : ∃ f', f = f' + 1 := ⟨f - 1, by omega⟩;have hy := HY.out;have hp := HP.out;rw [lf_big f' y hlt] at hp
   have hf' : 1 ≤ f' := by
    rcases Nat.eq_zero_or_pos f' with h | h
    ·subst h; simp at hy; omega
    ·exact h
   have hy2 : y / 128 < 2 * 128 ^ (f' - 1) := by
    rw [Nat.add_sub_cancel, show f' = (f' - 1) + 1 by omega, Nat.pow_succ] at hy;omega
   have hp2 : (pre ++ [(y : Int) % 128 + 128]) ++ lf f' (y / 128) = zs ++ vform x := by rw [← hp]; simp
   have HP2 : Hid ((pre ++ [(y : Int) % 128 + 128]) ++ lf f' (y / 128) = zs ++ vform x) := hp2;have HY2 : Hid (y / 128 < 2 * 128 ^ (f' - 1)) := hy2
   have H1 : Hid (w1.ownsRow w.heap.size 5 1 v' (pre ++ [(y : Int) % 128 + 128]).length ((pre ++ [(y : Int) % 128 + 128]).map (Value.int .u8))) := by
    show w1.ownsRow _ _ _ _ _ _
    simpa using h1
   clear hp hp2 hy hy2 HP HY h1 h2 hown;go_wp2;go_roundw
   case rel => exact ⟨f', y / 128, pre ++ [(y : Int) % 128 + 128], hf', by omega, HY2.out, by go_num, by omega, HP2.out, H1.out, hg2⟩
   case measure => simp [intOf]; omega
theorem Gb.put {w wr w' : World} {v : Value} {zs : List Int} {n : Nat} (hl : zs.length = n) (ho : w'.ownsRow wr.heap.size 5 1 v n (zs.map (Value.int .u8))) (hw : w.grownBy wr none) (hg : wr.grownBy w' none) : Gb w w' wr.heap.size v zs :=
 ⟨by rw [hl]; exact ho, gQ hw hg, hw.size, hg.size⟩
theorem grown_app {w wr w1 : World} {o : Obj} {base n : Nat} {v : Value} {xs : List Value} (hg : w.grownBy wr none) (hown : wr.ownsRow base 5 1 v n xs) (hb : w.heap.size ≤ base) (h : (wr.alloc o).grownBy w1 v.ownBlock) : w.grownBy w1 none := grown_own hg hown hb h
theorem refCell_any (ao : Option Addr) (n c : Nat) (bo : Option Addr) (m d : Nat) (s f : Int) (p : Nat) (x : It) (w : World) (hk : Byt w ao n c x.key) (hv : Byt w bo m d x.val) (hs : x.size = s) (hf : x.first = f) (h1 : ws x = false) (h2 : wv x = false) (hib : Itb x) (hp : p ≤ n) :
  Calls Tryz.prog 92 #[.agg #[.slice ao n c, .slice bo m d, .int .i64 s, .int .i64 f], .int .i64 p] w fun en w' => ∃ ao' cap', en = .returned (.slice ao' (cb p x).length cap') ∧ Byt w' ao' (cb p x).length cap' (cb p x) ∧ w.grownBy w' none ∧ (∀ ad, ao' = some ad → w.heap.size ≤ ad.block) := by
 obtain ⟨a1, a2, a3, a4⟩ := ws_parts h1;have hlk := hk.len;have hlv := hv.len;have hkb := hib.key;have hvb := hib.val;have htt := tg_lt s;obtain ⟨r, hr⟩ : ∃ r, n - p = r := ⟨_, rfl⟩;have hr' : (n : Int) - (p : Int) = (r : Int) := by omega
 have hvl := wv_parts h2;rw [hs, hf] at hvl;have HCB : Hid (cb p x = vform r ++ (x.key.drop p ++ (vform (tg s) ++ (if 512 < s then lb 4 f.toNat else x.val)))) := by show _ = _; unfold cb; rw [hlk, hr, hs, hf]
 have ga := World.grownBy_alloc w (.cells #[.slice ao n c, .slice bo m d, .int .i64 s, .int .i64 f] 62) none;have G1 := hJ ga;have K1 := hJ (hk.keptN ga);have V1 := hJ (hv.keptN ga);have X1 := hJ (Bx.new w (.slice ao n c) (.slice bo m d) (.int .i64 s) (.int .i64 f));have hn5 : n ≤ 255 := by omega
 have HW0 := hJ ga;clear ga hk hv hr;go_enter Tryz.func92, Tryz.ntmps92
 go_wp2_with fail
 generalize w.alloc (.cells #[.slice ao n c, .slice bo m d, .int .i64 s, .int .i64 f] 62) = w1 at *;generalize hT : w.heap.size = T at *;have HT := hJ hT;clear hT;have hv1 : (vform r).length ≤ 10 := vl_le r;refine (refPutV_own none 0 0 [] r _ (Byt.empty _) (by omega) (by omega)).mono ?_;rintro en w2 ⟨ao2, c2, rfl, ho2, hg2, hs2⟩;have B2 := hJ (Gb.put (w := w) (n := 0 + (vform r).length) (by simp) ho2 G1.out hg2);have K2 := hJ (K1.out.keptN hg2);have V2 := hJ (V1.out.keptN hg2);have HG12 := hJ hg2;clear ho2 hg2 hs2 K2 V2;rw [Nat.zero_add] at *;rw [List.nil_append] at B2;have HR : Hid (x.key.length - p = r) := by show _ = _; omega
 have G2 : Hid (w1.grownBy w2 none) := HG12.out;clear HG12;generalize vform r = A at *;go_wp2;go_loopw [5, 6] (fun so si wr => ∃ (i base : Nat), w1.heap.size ≤ base ∧ p ≤ i ∧ i ≤ n ∧ si = .int .i64 i ∧ Gb w wr base so (A ++ (x.key.drop p).take (i - p)) ∧ w1.grownBy wr none) (fun _ si _ => n - (intOf si).toNat)
 case atStart => exact ⟨p, w1.heap.size, Nat.le_refl _, Nat.le_refl _, hp, rfl, by rw [Nat.sub_self, List.take_zero, List.append_nil]; exact B2.out, G2.out⟩
 case round =>
  obtain ⟨i, base, hbs, hi1, hi2, rfl, hgb, hgr⟩ := hrel;have HGB := hJ hgb;have HGR := hJ hgr;clear hgb hgr B2 G2;obtain ⟨x0, x1, x2, x3⟩ := (Bx.kept X1.out HGR.out (by simp)).cells
  by_cases hlt : i < n
  ·obtain ⟨kb, ko, rfl, _, hkc⟩ := K1.out.at (by omega)
   have ck := HGR.out.cell (hkc i hlt) (by simp);have hsn := range_snoc (zs := x.key) hi1 (by omega);have hz : 0 ≤ x.key.getD i 0 ∧ x.key.getD i 0 ≤ 255 := hkb.getD i;generalize x.key.getD i 0 = z at *;obtain ⟨Z, hZ⟩ : ∃ Z, A ++ (x.key.drop p).take (i - p) = Z := ⟨_, rfl⟩;have HN : Hid (A ++ (x.key.drop p).take (i + 1 - p) = Z ++ [z]) := by show _ = _; rw [hsn, ← hZ, List.append_assoc]
   have hzl : Z.length ≤ 300 := by rw [← hZ, List.length_append, List.length_take]; omega
   rw [hZ] at HGB;clear hZ hsn hkc;have hle := HGB.out.le.2
   go_wp2_with (at_builtin; refine wpList_append_byt rfl _ _ rfl base _ Z.length Z rfl (HGB.out.own.alloc _) (some ⟨wr.heap.size, 0, none⟩) 1 1 [z] rfl (Byt.lit wr 5 _ [z] 1 rfl rfl) (by omega) (by simp; omega) ?_)
   intro v' w3 ho3 hg3;have hg4 := grown_app HGR.out HGB.out.own hbs hg3;have GB3 := hJ (HGB.out.app _ (by simpa using ho3) hg3);have GR3 := hJ hg4;clear ho3 hg3 hg4 HGB HGR x0 x1 x2 x3 ck;go_wp2;go_roundw
   case rel => exact ⟨i + 1, base, hbs, by omega, by omega, by go_num, by rw [HN.out]; exact GB3.out, GR3.out⟩
   case measure => simp [intOf]; omega
  ·have hin : n = i := by omega
   subst hin;have e9 : (x.key.drop p).take (n - p) = x.key.drop p := List.take_of_length_le (by rw [List.length_drop]; omega);rw [e9] at HGB;clear e9;have HLA : Hid ((A ++ x.key.drop p).length ≤ 300) := by show _ ≤ _; rw [List.length_append, List.length_drop]; omega
   generalize hZ : A ++ x.key.drop p = Z at *;have HZ := hJ hZ;clear hZ;obtain ⟨ca, cc, e9, hbz⟩ := HGB.out.byt;subst e9;have BZ := hJ hbz;have hzl : Z.length ≤ 300 := HLA.out;clear hbz HGB HLA
   go_wp2_with fail
   refine (refTag_any s _).mono ?_;rintro en w4 ⟨rfl, rfl⟩
   go_wp2_with fail
   refine (refPutV_own ca Z.length cc Z (tg s) _ BZ.out (by omega) (by omega)).mono ?_;rintro en w5 ⟨ao5, c5, rfl, ho5, hg5, _⟩;have hv2 : (vform (tg s)).length ≤ 10 := vl_le _;have GB5 := hJ (Gb.put (w := w) (n := Z.length + (vform (tg s)).length) (by rw [List.length_append]) ho5 (gQ HW0.out HGR.out) hg5);have GR5 := hJ (gQ HGR.out hg5);have S5 := hJ HGR.out.size;have G5s := hJ (gQ HW0.out (gQ HGR.out hg5)).size;clear ho5 hg5 BZ HGR x0 x1 x2 x3;rw [← List.length_append] at GB5 ⊢;generalize hY : Z ++ vform (tg s) = Y at *;have HY := hJ hY;have hyl : Y.length ≤ 310 := by rw [← hY, List.length_append]; omega
   clear hY;obtain ⟨x0, x1, x2, x3⟩ := (Bx.kept X1.out GR5.out (by simp)).cells
   by_cases h5 : 512 < s
   ·rw [if_pos h5] at HCB
    obtain ⟨fn, hfn⟩ : ∃ fn : Nat, f = (fn : Int) := ⟨f.toNat, by omega⟩;subst hfn;obtain ⟨ca6, cc6, e6, hb6⟩ := GB5.out.byt;injection e6 with e61 e62 e63
    subst e61 e63;have B6 := hJ hb6;clear hb6 e62 GB5
    go_wp2_with fail
    refine (refPut_own ao5 Y.length c5 Y fn 4 _ B6.out (by omega) (by omega) (by omega)).mono ?_;rintro en w7 ⟨ao7, c7, rfl, ho7, hg7, _⟩;have G7 := hJ (gQ HW0.out (gQ GR5.out hg7));have e7 : cb p x = Y ++ lb 4 fn := by rw [HCB.out, Int.toNat_natCast, ← HY.out, ← HZ.out]; simp only [List.append_assoc]
    have hl7 : Y.length + 4 = (cb p x).length := by rw [e7, List.length_append, lb_len]
    rw [hl7, ← e7] at ho7;rw [hl7];obtain ⟨ca8, cc8, e8, hb8⟩ := owns_any ho7;injection e8 with e81 e82 e83
    subst e81 e83;have B8 := hJ hb8;have N8 := hJ (fun ad (e : ao7 = some ad) => Nat.le_trans G5s.out (ho7.lt ad.block (by rw [e]; rfl)).1);clear ho7 hg7 hb8 e82 e7 hl7 B6 GR5 x0 x1 x2 x3;go_wp2;go_ret;exact ⟨_, _, rfl, B8.out, G7.out, N8.out⟩
   ·rw [if_neg h5] at HCB
    have hm2 : m ≤ 512 := by omega
    go_wp2;go_loopw [5, 7] (fun so si wr => ∃ (j base : Nat), w1.heap.size ≤ base ∧ j ≤ m ∧ si = .int .i64 j ∧ Gb w wr base so (Y ++ x.val.take j) ∧ w1.grownBy wr none) (fun _ si _ => m - (intOf si).toNat)
    case atStart => exact ⟨0, _, S5.out, Nat.zero_le _, rfl, by rw [List.take_zero, List.append_nil]; exact GB5.out, GR5.out⟩
    case round =>
     obtain ⟨j, base2, hbs2, hj, rfl, hgb, hgr⟩ := hrel;have HGB := hJ hgb;have HGR := hJ hgr;clear hgb hgr GB5 GR5 x0 x1 x2 x3;obtain ⟨x0, x1, x2, x3⟩ := (Bx.kept X1.out HGR.out (by simp)).cells
     by_cases hlt2 : j < m
     ·obtain ⟨vb, vo, rfl, _, hvc⟩ := V1.out.at (by omega)
      have cv := HGR.out.cell (hvc j hlt2) (by simp);have hsn := take_snoc (zs := x.val) (i := j) (by omega);have hz : 0 ≤ x.val.getD j 0 ∧ x.val.getD j 0 ≤ 255 := hvb.getD j;generalize x.val.getD j 0 = z at *;obtain ⟨Z2, hZ2⟩ : ∃ Z2, Y ++ x.val.take j = Z2 := ⟨_, rfl⟩;have HN : Hid (Y ++ x.val.take (j + 1) = Z2 ++ [z]) := by show _ = _; rw [hsn, ← hZ2, List.append_assoc]
      have hzl2 : Z2.length ≤ 900 := by rw [← hZ2, List.length_append, List.length_take]; omega
      rw [hZ2] at HGB;clear hZ2 hsn hvc;have hle := HGB.out.le.2
      go_wp2_with (at_builtin; refine wpList_append_byt rfl _ _ rfl base2 _ Z2.length Z2 rfl (HGB.out.own.alloc _) (some ⟨wr.heap.size, 0, none⟩) 1 1 [z] rfl (Byt.lit wr 5 _ [z] 1 rfl rfl) (by omega) (by simp; omega) ?_)
      intro v' w3 ho3 hg3;have hg4 := grown_app HGR.out HGB.out.own hbs2 hg3;have GB3 := hJ (HGB.out.app _ (by simpa using ho3) hg3);have GR3 := hJ hg4;clear ho3 hg3 hg4 HGB HGR x0 x1 x2 x3 cv;go_wp2;go_roundw
      case rel => exact ⟨j + 1, base2, hbs2, by omega, by go_num, by rw [HN.out]; exact GB3.out, GR3.out⟩
      case measure => simp [intOf]; omega
     ·have hjm : m = j := by omega
      subst hjm;have e7 : Y ++ x.val.take m = cb p x := by rw [List.take_of_length_le (by omega), HCB.out, ← HY.out, ← HZ.out]; simp only [List.append_assoc]
      rw [e7] at HGB;obtain ⟨ca8, cc8, e8, hb8⟩ := HGB.out.byt;subst e8;have B8 := hJ hb8;have G8 := hJ HGB.out.gr;have N8 := hJ (fun ad (e : ca8 = some ad) => Nat.le_trans HGB.out.le.1 (HGB.out.own.lt ad.block (by rw [e]; rfl)).1);clear hb8 HGB e7;go_wp2;go_ret;exact ⟨_, _, rfl, B8.out, G8.out, N8.out⟩
end Go.Proofs.YtkiopabcnemgnaaGreatDoor
