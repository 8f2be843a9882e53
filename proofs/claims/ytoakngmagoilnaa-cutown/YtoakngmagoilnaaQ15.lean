import Derived.Test.YtoakngmagoilnaaQ13
import Derived.Test.YtoakngmagoilnaaQ14
import Derived.Test.YtoakngmagoilnaaQ5
import Derived.Deep.RegionWith
import Derived.Lib.SlBytesConst
import Derived.Test.YtoakngmagoilnaaQ10
namespace Go.Proofs.Ytoakngmagoilnaa
open Go.RowKit
structure Kl (w : World) (a : Option Addr) (K : List Kd) : Prop where
 row : ∀ i, i < K.length → ∃ b off, a = some ⟨b, off, none⟩ ∧ w.cell? ⟨b, off + i * 2, none⟩ = some (.int .i64 (K.getD i kd0).no) ∧ w.cell? ⟨b, off + i * 2 + 1, none⟩ = some (.int .i64 (K.getD i kd0).keys)
theorem Kl.heap {w w' : World} {a : Option Addr} {K : List Kd} (h : Kl w a K) (e : w'.heap = w.heap) : Kl w' a K := by
 refine ⟨fun i hi => ?_⟩
 obtain ⟨b, off, h1, h2, h3⟩ := h.row i hi
 exact ⟨b, off, h1, (World.cell?_of_block (by rw [e])).trans h2, (World.cell?_of_block (by rw [e])).trans h3⟩
theorem Kl.keptN {w w' : World} {a : Option Addr} {K : List Kd} (h : Kl w a K) (hg : w.grownBy w' none) : Kl w' a K := by
 refine ⟨fun i hi => ?_⟩
 obtain ⟨b, off, h1, h2, h3⟩ := h.row i hi
 exact ⟨b, off, h1, hg.cell h2 (by simp), hg.cell h3 (by simp)⟩
theorem Kl.zero (w : World) (a : Option Addr) : Kl w a [] := ⟨fun i hi => by simp at hi⟩
def Lb (L : List (List Int)) : Prop := ∀ s ∈ L, Bt s
theorem lget_mem {L : List (List Int)} {i : Nat} (h : i < L.length) : L.getD i [] ∈ L := by
 simp [List.getD, List.getElem?_eq_getElem h]
theorem bcommonAll_any (a : Option Addr) (n cap : Nat) (L : List (List Int)) (w : World) (hl : Lz w a L) (hn : L.length = n) (hc : n ≤ cap) (hcap : cap ≤ 9223372036854775807) :
  Calls Try.prog 43 #[.slice a n cap] w fun en w' => en = .returned (.int .i64 ((bpre L : Nat) : Int)) ∧ w.grownBy w' none := by
 cases L with
 | nil =>
  obtain rfl : n = 0 := by simpa using hn.symm
  refine (commonAll_none a cap w).mono ?_
  rintro en w' ⟨rfl, rfl⟩
  exact ⟨rfl, World.grownBy.refl _ _⟩
 | cons x L =>
  have := commonAll_some a cap x L w hl (by simp at hn; omega) hcap
  obtain rfl : L.length + 1 = n := by simpa using hn
  exact this
set_option maxHeartbeats 400000 in
set_option maxRecDepth 100000 in
theorem stringSize_any (n : Nat) (w : World) (h : n ≤ 140737488351240) : Calls Try.prog 44 #[.int .i64 n] w fun en w' => en = .returned (.int .i64 ((vl n + n : Nat) : Int)) ∧ w' = w := by
 have hv : (vform n).length ≤ 10 := vl_le n
 go_enter Try.func44, Try.ntmps44
 go_wp2_with fail
 refine (vlen_calls n _ (by omega)).mono ?_
 rintro en w1 ⟨rfl, rfl⟩
 go_wp2
 go_ret
 refine ⟨ret_int ?_, rfl⟩
 unfold vl
 go_num
set_option maxHeartbeats 400000 in
set_option maxRecDepth 100000 in
theorem bcellSize_any (ao : Option Addr) (n c : Nat) (w : World) (h : n ≤ 140737488351240) : Calls Try.prog 45 #[.slice ao n c] w fun en w' => en = .returned (.int .i64 ((vl n + n + 8 : Nat) : Int)) ∧ w' = w := by
 have hv : vl n ≤ 10 := vl_le n
 go_enter Try.func45, Try.ntmps45
 go_wp2_with fail
 refine (stringSize_any n _ h).mono ?_
 rintro en w1 ⟨rfl, rfl⟩
 go_wp2
 go_ret
 exact ⟨ret_int (by go_num), rfl⟩
theorem bsize_int {L : List (List Int)} (hm : L.length ≤ 5000) (hk : ∀ x ∈ L, x.length ≤ 140737488351240) : ∀ i, i ≤ L.length → bsums (bpre L) (L.take i) ≤ 703687450000000000 := by
 intro i hi
 have h := bsums_le (bpre L) 140737488351240 (L.take i) (fun x hx => hk x (List.mem_of_mem_take hx))
 rw [List.length_take] at h
 have h2 : min i L.length * (140737488351240 + 20) ≤ 5000 * (140737488351240 + 20) := Nat.mul_le_mul_right _ (by omega)
 omega
set_option maxHeartbeats 2000000 in
set_option maxRecDepth 100000 in
theorem bsize_any (a : Option Addr) (n cap : Nat) (L : List (List Int)) (w : World) (hl : Lz w a L) (hn : L.length = n) (hm : n ≤ 5000) (hc : n ≤ cap) (hcap : cap ≤ 9223372036854775807) (hk : ∀ x ∈ L, x.length ≤ 140737488351240) :
  Calls Try.prog 24 #[.slice a n cap] w fun en w' => en = .returned (.int .i64 ((bsize L : Nat) : Int)) ∧ w.grownBy w' none := by
 have HL := hid_intro hl
 have HP : Hid (∀ x ∈ L, bpre L ≤ x.length) := fun x hx => (bpre_each x hx).1
 have HS := hid_intro (bsize_int (by omega) hk)
 have HM : Hid (bsize L = 12 + vl (bpre L) + bpre L + bsums (bpre L) L) := rfl
 have HN := hid_intro (fun i h => bsums_snoc (bpre L) L i h)
 have hv := vl_le (bpre L)
 have hpl : bpre L ≤ 140737488351240 := by
  cases L with
  | nil => exact Nat.zero_le _
  | cons x L => exact Nat.le_trans (bpre_each x List.mem_cons_self).1 (hk x List.mem_cons_self)
 have HK := hid_intro hk
 clear hl hk
 go_enter Try.func24, Try.ntmps24
 go_wp2_with fail
 refine (bcommonAll_any a n cap L _ HL.out hn hc hcap).mono ?_
 rintro en w1 ⟨rfl, hg1⟩
 have HG := hid_intro hg1
 clear hg1
 generalize bpre L = p at *
 go_wp2_with fail
 refine (stringSize_any p _ (by omega)).mono ?_
 rintro en w2 ⟨rfl, rfl⟩
 generalize hvv : vl p = v at *
 have HV := hid_intro hvv
 clear hvv
 go_wp2
 go_loopw [4, 6, 15] (fun sn _ si wr => ∃ i : Nat, i ≤ n ∧ si = .int .i64 i ∧ sn = .int .i64 ((12 + v + p + bsums p (L.take i) : Nat) : Int) ∧ w.grownBy wr none) (fun _ _ si _ => n - (intOf si).toNat)
 case atStart => exact ⟨0, Nat.zero_le _, rfl, by simp [bsums]; go_num, HG.out⟩
 case round =>
  obtain ⟨i, hi, rfl, rfl, hg⟩ := hrel
  have HG1 := hid_intro hg
  have b1 := HS.out i (by omega)
  clear hg HG
  by_cases hlt : i < n
  ·obtain ⟨b, off, ao, m, c, rfl, q2, q3, q4, q5⟩ := HL.out.row i (by omega)
   have c0 := HG1.out.cell q2 (by simp)
   have hx := lget_mem (L := L) (i := i) (by omega)
   have hm1 := q3.len
   have hp1 := HP.out _ hx
   have hk1 := HK.out _ hx
   have b2 := bcl_le p (L.getD i [])
   have HX : Hid (bsums p (L.take (i + 1)) = bsums p (L.take i) + (2 + bcl p (L.getD i []))) := HN.out i (by omega)
   obtain ⟨r, hr⟩ : ∃ r, m - p = r := ⟨_, rfl⟩
   have HCL : Hid (bcl p (L.getD i []) = vl r + r + 8) := by show _ = _; unfold bcl; rw [hm1, hr]
   have hnil := q3.nil
   rw [HCL.out] at b2
   rw [HCL.out] at HX
   have HC := hid_intro (fun (ao' : Option Addr) (c' : Nat) (W : World) => bcellSize_any ao' r c' W (by omega))
   clear q2 q3 HCL
   generalize vl r + r + 8 = C at *
   generalize bsums p (L.take i) = U at *
   have g1 : (p : Int) ≤ (m : Int) := by omega
   have g2 : (0 : Int) ≤ (p : Int) := by omega
   have g3 : (p : Int) ≤ (c : Int) := by omega
   rw [hm1] at hp1
   clear hm1 hx
   cases ao with
   | none =>
    obtain ⟨rfl, rfl⟩ := hnil rfl
    have g4 : ¬ (0 : Int) < (p : Int) := by omega
    go_wp2_with fail
    refine (HC.out _ _ _).mono ?_
    rintro en w2 ⟨rfl, rfl⟩
    go_wp2
    go_roundw
    case rel => exact ⟨i + 1, by omega, by go_num, by rw [HX.out]; go_num, HG1.out⟩
    case measure => simp [intOf]; omega
   | some ad =>
    clear hnil
    by_cases hcp : c = p
    ·subst hcp
     go_wp2_with fail
     refine (HC.out _ _ _).mono ?_
     rintro en w2 ⟨rfl, rfl⟩
     go_wp2
     go_roundw
     case rel => exact ⟨i + 1, by omega, by go_num, by rw [HX.out]; go_num, HG1.out⟩
     case measure => simp [intOf]; omega
    ·go_wp2_with fail
     refine (HC.out _ _ _).mono ?_
     rintro en w2 ⟨rfl, rfl⟩
     go_wp2
     go_roundw
     case rel => exact ⟨i + 1, by omega, by go_num, by rw [HX.out]; go_num, HG1.out⟩
     case measure => simp [intOf]; omega
  ·have hin : i = n := by omega
   subst hin
   go_wp2
   go_ret
   refine ⟨ret_int ?_, HG1.out⟩
   rw [HM.out, ← hn, List.take_length]
set_option maxHeartbeats 4000000 in
set_option maxRecDepth 100000 in
theorem search_it (A B : Nat) (n : Nat) (p : Nat → Bool) (w : World) (hn : n ≤ 100000)
  (hp : ∀ (k : Nat) (w1 : World), k < n → w.grownBy w1 none → Calls Try.prog 35 #[.int .i64 k, .pointer (some ⟨A, 0, none⟩), .pointer (some ⟨B, 0, none⟩)] w1 fun en w' => en = .returned (.bool (p k)) ∧ w1.grownBy w' none) :
  Calls Try.prog 34 #[.int .i64 n, .func (.func 35) #[] #[.pointer (some ⟨A, 0, none⟩), .pointer (some ⟨B, 0, none⟩)]] w fun en w' => (∃ k : Nat, en = .returned (.int .i64 k) ∧ k ≤ n ∧ (0 < k → p (k - 1) = false) ∧ (k < n → p k = true)) ∧ w.grownBy w' none := by
 have HP := hid_intro hp
 clear hp
 go_enter Try.func34, Try.ntmps34
 go_wp2
 go_loopw [5, 6, 7] (fun si sj _ wr => ∃ i j : Nat, i ≤ j ∧ j ≤ n ∧ si = .int .i64 i ∧ sj = .int .i64 j ∧ (0 < i → p (i - 1) = false) ∧ (j < n → p j = true) ∧ w.grownBy wr none) (fun si sj _ _ => (intOf sj).toNat - (intOf si).toNat)
 case atStart => exact ⟨0, n, Nat.zero_le _, Nat.le_refl _, rfl, rfl, fun h => by omega, fun h => by omega, World.grownBy.refl _ _⟩
 case round =>
  obtain ⟨i, j, hij, hj, rfl, rfl, hlo, hhi, hg⟩ := hrel
  have HLO := hid_intro hlo
  have HHI := hid_intro hhi
  have HG := hid_intro hg
  clear hlo hhi hg
  by_cases hlt : i < j
  ·obtain ⟨m, hm⟩ : ∃ m : Nat, (i + j) / 2 = m := ⟨_, rfl⟩
   have h1 : i ≤ m ∧ m < j := by omega
   have e1 : ((i : Int) + (j : Int)) / 2 = (m : Int) := by omega
   have e2 : ((i : Int) + (j : Int)) % 18446744073709551616 = (i : Int) + (j : Int) := by omega
   go_wp2_with fail
   refine (HP.out m _ (by omega) HG.out).mono ?_
   rintro en w2 ⟨rfl, hg2⟩
   have HG2 := hid_intro (grown_trans HG.out hg2)
   clear hg2 HG
   cases hb : p m with
   | false =>
    have HB : Hid (0 < m + 1 → p (m + 1 - 1) = false) := fun _ => hb
    clear hb
    go_wp2
    go_roundw
    case rel => exact ⟨m + 1, j, by omega, hj, by go_num, rfl, HB.out, HHI.out, HG2.out⟩
    case measure => simp [intOf]; omega
   | true =>
    have HB : Hid (m < n → p m = true) := fun _ => hb
    clear hb
    go_wp2
    go_roundw
    case rel => exact ⟨i, m, by omega, by omega, rfl, rfl, HLO.out, HB.out, HG2.out⟩
    case measure => simp [intOf]; omega
  ·have hin : i = j := by omega
   subst hin
   go_wp2
   go_ret
   exact ⟨⟨i, rfl, hj, HLO.out, HHI.out⟩, HG.out⟩
set_option maxHeartbeats 4000000 in
set_option maxRecDepth 100000 in
theorem search_by (A B : Nat) (n : Nat) (p : Nat → Bool) (w : World) (hn : n ≤ 100000)
  (hp : ∀ (k : Nat) (w1 : World), k < n → w.grownBy w1 none → Calls Try.prog 42 #[.int .i64 k, .pointer (some ⟨A, 0, none⟩), .pointer (some ⟨B, 0, none⟩)] w1 fun en w' => en = .returned (.bool (p k)) ∧ w1.grownBy w' none) :
  Calls Try.prog 34 #[.int .i64 n, .func (.func 42) #[] #[.pointer (some ⟨A, 0, none⟩), .pointer (some ⟨B, 0, none⟩)]] w fun en w' => (∃ k : Nat, en = .returned (.int .i64 k) ∧ k ≤ n ∧ (0 < k → p (k - 1) = false) ∧ (k < n → p k = true)) ∧ w.grownBy w' none := by
 have HP := hid_intro hp
 clear hp
 go_enter Try.func34, Try.ntmps34
 go_wp2
 go_loopw [5, 6, 7] (fun si sj _ wr => ∃ i j : Nat, i ≤ j ∧ j ≤ n ∧ si = .int .i64 i ∧ sj = .int .i64 j ∧ (0 < i → p (i - 1) = false) ∧ (j < n → p j = true) ∧ w.grownBy wr none) (fun si sj _ _ => (intOf sj).toNat - (intOf si).toNat)
 case atStart => exact ⟨0, n, Nat.zero_le _, Nat.le_refl _, rfl, rfl, fun h => by omega, fun h => by omega, World.grownBy.refl _ _⟩
 case round =>
  obtain ⟨i, j, hij, hj, rfl, rfl, hlo, hhi, hg⟩ := hrel
  have HLO := hid_intro hlo
  have HHI := hid_intro hhi
  have HG := hid_intro hg
  clear hlo hhi hg
  by_cases hlt : i < j
  ·obtain ⟨m, hm⟩ : ∃ m : Nat, (i + j) / 2 = m := ⟨_, rfl⟩
   have h1 : i ≤ m ∧ m < j := by omega
   have e1 : ((i : Int) + (j : Int)) / 2 = (m : Int) := by omega
   have e2 : ((i : Int) + (j : Int)) % 18446744073709551616 = (i : Int) + (j : Int) := by omega
   go_wp2_with fail
   refine (HP.out m _ (by omega) HG.out).mono ?_
   rintro en w2 ⟨rfl, hg2⟩
   have HG2 := hid_intro (grown_trans HG.out hg2)
   clear hg2 HG
   cases hb : p m with
   | false =>
    have HB : Hid (0 < m + 1 → p (m + 1 - 1) = false) := fun _ => hb
    clear hb
    go_wp2
    go_roundw
    case rel => exact ⟨m + 1, j, by omega, hj, by go_num, rfl, HB.out, HHI.out, HG2.out⟩
    case measure => simp [intOf]; omega
   | true =>
    have HB : Hid (m < n → p m = true) := fun _ => hb
    clear hb
    go_wp2
    go_roundw
    case rel => exact ⟨i, m, by omega, by omega, rfl, rfl, HLO.out, HB.out, HG2.out⟩
    case measure => simp [intOf]; omega
  ·have hin : i = j := by omega
   subst hin
   go_wp2
   go_ret
   exact ⟨⟨i, rfl, hj, HLO.out, HHI.out⟩, HG.out⟩
theorem Il.take {w : World} {a : Option Addr} {L : List It} (h : Il w a L) (i : Nat) : Il w a (L.take i) := by
 refine ⟨fun j hj => ?_⟩
 rw [List.length_take] at hj
 have e : (L.take i).getD j it0 = L.getD j it0 := by simp [List.getD, show j < i by omega]
 rw [e]
 exact h.row j (by omega)
theorem Il.drop {w : World} {b off : Nat} {L : List It} (h : Il w (some ⟨b, off, none⟩) L) (i : Nat) : Il w (some ⟨b, off + i * 4, none⟩) (L.drop i) := by
 refine ⟨fun j hj => ?_⟩
 rw [List.length_drop] at hj
 have e : (L.drop i).getD j it0 = L.getD (i + j) it0 := by simp [List.getD, List.getElem?_drop]
 rw [e]
 obtain ⟨b', off', ao, n, c, bo, m, d, h1, h2⟩ := h.row (i + j) (by omega)
 simp only [Option.some.injEq, Addr.mk.injEq] at h1
 obtain ⟨rfl, rfl, _⟩ := h1
 refine ⟨b, off + i * 4, ao, n, c, bo, m, d, rfl, ?_⟩
 rw [show off + i * 4 + j * 4 = off + (i + j) * 4 by omega]
 exact h2
structure Cb (w : World) (S T U : Nat) (a : Option Addr) (n cap up : Nat) : Prop where
 s : w.cell? ⟨S, 0, none⟩ = some (.func (.func 22) #[] #[])
 t : w.cell? ⟨T, 0, none⟩ = some (.slice a n cap)
 u : w.cell? ⟨U, 0, none⟩ = some (.int .i64 up)
theorem Cb.keptN {w w' : World} {S T U : Nat} {a : Option Addr} {n cap up : Nat} (h : Cb w S T U a n cap up) (hg : w.grownBy w' none) : Cb w' S T U a n cap up :=
 ⟨hg.cell h.s (by simp), hg.cell h.t (by simp), hg.cell h.u (by simp)⟩
set_option maxHeartbeats 4000000 in
set_option maxRecDepth 100000 in
theorem first_it (S T U : Nat) (b off n cap up i : Nat) (L : List It) (w : World) (hc : Cb w S T U (some ⟨b, off, none⟩) n cap up) (hl : Il w (some ⟨b, off, none⟩) L) (hn : L.length = n) (hm : n ≤ 5000) (hcap : n ≤ cap) (_hc2 : cap ≤ 9223372036854775807) (hk : ∀ x ∈ L, x.key.length ≤ 140737488351240)
  (hup : up ≤ i) (hi : i - up ≤ n) :
  Calls Try.prog 31 #[.int .i64 i, .pointer (some ⟨S, 0, none⟩), .pointer (some ⟨T, 0, none⟩), .pointer (some ⟨U, 0, none⟩)] w fun en w' => en = .returned (.int .i64 ((size (L.take (i - up)) : Nat) : Int)) ∧ w.grownBy w' none := by
 obtain ⟨k, hk2⟩ : ∃ k : Nat, i - up = k := ⟨_, rfl⟩
 rw [hk2]
 have e1 : (i : Int) - (up : Int) = (k : Int) := by omega
 have hk3 : k ≤ n := by omega
 have c1 := hc.s
 have c2 := hc.t
 have c3 := hc.u
 have HL := hid_intro (hl.take k)
 have HK : Hid (∀ x ∈ L.take k, x.key.length ≤ 140737488351240) := fun x hx => hk x (List.mem_of_mem_take hx)
 have hlen : (L.take k).length = k := by rw [List.length_take]; omega
 have HN := hid_intro hlen
 have w1 : IntKind.i64.wrap (k : Int) = (k : Int) := by rw [IntKind.wrap_i64]; omega
 have hk5 : k ≤ 5000 := by omega
 have HS := hid_intro (fun (W : World) (h : W.heap = w.heap) => size_any (some ⟨b, off, none⟩) k cap (L.take k) W (HL.out.heap h) HN.out hk5 HK.out)
 have g0 : (0 : Int) ≤ (k : Int) := by omega
 have g3 : ¬ ((k : Int) < 0) := by omega
 have g4 : ¬ ((cap : Int) < (k : Int)) := by omega
 have g1 : (k : Int) ≤ (cap : Int) := by omega
 clear hc hl hk hk2 hlen
 go_enter Try.func31, Try.ntmps31
 go_wp2
 go_region_with (go_at_call 22; refine (HS.out w.drew rfl).mono ?_; rintro en w2 ⟨rfl, hg⟩)
 all_goals (go_wp2; go_ret; exact ⟨rfl, grown_trans ((Qt.refl _).drew.grown none) hg⟩)
set_option maxHeartbeats 4000000 in
set_option maxRecDepth 100000 in
theorem second_it (S T U : Nat) (b off n cap up i : Nat) (L : List It) (w : World) (hc : Cb w S T U (some ⟨b, off, none⟩) n cap up) (hl : Il w (some ⟨b, off, none⟩) L) (hn : L.length = n) (hm : n ≤ 5000) (hcap : n ≤ cap) (hc2 : cap ≤ 9223372036854775807) (hk : ∀ x ∈ L, x.key.length ≤ 140737488351240)
  (hi : i ≤ n) :
  Calls Try.prog 32 #[.int .i64 i, .pointer (some ⟨S, 0, none⟩), .pointer (some ⟨T, 0, none⟩)] w fun en w' => en = .returned (.int .i64 ((size (L.drop i) : Nat) : Int)) ∧ w.grownBy w' none := by
 have c1 := hc.s
 have c2 := hc.t
 have HK : Hid (∀ x ∈ L.drop i, x.key.length ≤ 140737488351240) := fun x hx => hk x (List.mem_of_mem_drop hx)
 have hlen : (L.drop i).length = n - i := by rw [List.length_drop]; omega
 have HN := hid_intro hlen
 have hk5 : n - i ≤ 5000 := by omega
 have HL := hid_intro (hl.drop i)
 have g0 : (0 : Int) ≤ (i : Int) := by omega
 have g1 : (i : Int) ≤ (cap : Int) := by omega
 have g2 : (i : Int) ≤ (n : Int) := by omega
 have hin : i ≤ n := hi
 by_cases hz : cap = i
 ·have h0 : n - i = 0 := by omega
  have hni : n = i := by omega
  have h00 : L.drop i = [] := List.eq_nil_of_length_eq_zero (by omega)
  have HS := hid_intro (fun (W : World) (_ : W.heap = w.heap) => size_any (some ⟨b, off, none⟩) 0 0 (L.drop i) W (by rw [h00]; exact Il.zero _ _) (by rw [hlen, h0]) (by omega) HK.out)
  clear hc hl hk hlen HL h00
  subst hz
  subst hni
  clear hcap hi hin hn h0 HN HK
  go_enter Try.func32, Try.ntmps32
  go_wp2
  go_region_with (go_at_call 22; refine (HS.out w.drew rfl).mono ?_; rintro en w2 ⟨rfl, hg⟩)
  all_goals (go_wp2; go_ret; exact ⟨rfl, grown_trans ((Qt.refl _).drew.grown none) hg⟩)
 ·have hlt : i < cap := by omega
  have HS := hid_intro (fun (W : World) (h : W.heap = w.heap) => size_any (some ⟨b, off + i * 4, none⟩) (n - i) (cap - i) (L.drop i) W (HL.out.heap h) hlen hk5 HK.out)
  clear hc hl hk hlen HL
  go_enter Try.func32, Try.ntmps32
  go_wp2
  go_region_with (go_at_call 22; go_loud (refine (HS.out w.drew rfl).mono ?_; rintro en w2 ⟨rfl, hg⟩))
  all_goals (go_wp2; go_ret; exact ⟨rfl, grown_trans ((Qt.refl _).drew.grown none) hg⟩)
structure Cd (w : World) (S T U F G : Nat) : Prop where
 f : w.cell? ⟨F, 0, none⟩ = some (.func (.func 31) #[] #[.pointer (some ⟨S, 0, none⟩), .pointer (some ⟨T, 0, none⟩), .pointer (some ⟨U, 0, none⟩)])
 g : w.cell? ⟨G, 0, none⟩ = some (.func (.func 32) #[] #[.pointer (some ⟨S, 0, none⟩), .pointer (some ⟨T, 0, none⟩)])
theorem Cd.keptN {w w' : World} {S T U F G : Nat} (h : Cd w S T U F G) (hg : w.grownBy w' none) : Cd w' S T U F G :=
 ⟨hg.cell h.f (by simp), hg.cell h.g (by simp)⟩
theorem max_int (a b : Nat) : (if ((b : Nat) : Int) > ((a : Nat) : Int) then ((b : Nat) : Int) else ((a : Nat) : Int)) = ((max a b : Nat) : Int) := by
 split <;> omega
set_option maxHeartbeats 4000000 in
set_option maxRecDepth 100000 in
theorem greater_it (S T U F G i a b : Nat) (w : World) (hd : Cd w S T U F G)
  (hF : ∀ W, w.grownBy W none → Calls Try.prog 31 #[.int .i64 i, .pointer (some ⟨S, 0, none⟩), .pointer (some ⟨T, 0, none⟩), .pointer (some ⟨U, 0, none⟩)] W fun en w' => en = .returned (.int .i64 (a : Nat)) ∧ W.grownBy w' none)
  (hG : ∀ W, w.grownBy W none → Calls Try.prog 32 #[.int .i64 i, .pointer (some ⟨S, 0, none⟩), .pointer (some ⟨T, 0, none⟩)] W fun en w' => en = .returned (.int .i64 (b : Nat)) ∧ W.grownBy w' none) :
  Calls Try.prog 33 #[.int .i64 i, .pointer (some ⟨F, 0, none⟩), .pointer (some ⟨G, 0, none⟩)] w fun en w' => en = .returned (.int .i64 ((max a b : Nat) : Int)) ∧ w.grownBy w' none := by
 have c1 := hd.f
 have c2 := hd.g
 have HD := hid_intro hd
 have HF := hid_intro hF
 have HG := hid_intro hG
 obtain ⟨M, hM⟩ : ∃ M : Nat, max a b = M := ⟨_, rfl⟩
 have hmax : ∀ (ts : Array TypeId) (t : TypeId) (W : World), (Builtin.max_ ts t #[.int .i64 a, .int .i64 b]).run Try.prog W = .ok (.int .i64 M) W := fun ts t W => by rw [run_max_int2, max_int, hM]
 rw [hM]
 have G0 := hid_intro ((Qt.refl w).drew.grown none)
 clear hd hF hG hM
 go_enter Try.func33, Try.ntmps33
 go_wp2
 go_region_with (first
  | (go_at_call 31; refine (HF.out w.drew G0.out).mono ?_; rintro en wa ⟨rfl, hga⟩; have da := (HD.out.keptN (grown_trans G0.out hga)).g)
  | (go_at_call 31; refine (HF.out wb (grown_trans G0.out hgb)).mono ?_; rintro en wc ⟨rfl, hgc⟩)
  | (go_at_call 32; refine (HG.out w.drew G0.out).mono ?_; rintro en wb ⟨rfl, hgb⟩; have db := (HD.out.keptN (grown_trans G0.out hgb)).f)
  | (go_at_call 32; refine (HG.out wa (grown_trans G0.out hga)).mono ?_; rintro en wc ⟨rfl, hgc⟩))
 all_goals (go_wp2; go_ret; first | exact ⟨rfl, grown_trans (grown_trans G0.out hga) hgc⟩ | exact ⟨rfl, grown_trans (grown_trans G0.out hgb) hgc⟩)
set_option maxHeartbeats 4000000 in
set_option maxRecDepth 100000 in
theorem pred_it (S T U F G k a b : Nat) (w : World) (hk : k ≤ 100000) (hd : Cd w S T U F G)
  (hF : ∀ W, w.grownBy W none → Calls Try.prog 31 #[.int .i64 ((k + 1 : Nat) : Int), .pointer (some ⟨S, 0, none⟩), .pointer (some ⟨T, 0, none⟩), .pointer (some ⟨U, 0, none⟩)] W fun en w' => en = .returned (.int .i64 (a : Nat)) ∧ W.grownBy w' none)
  (hG : ∀ W, w.grownBy W none → Calls Try.prog 32 #[.int .i64 ((k + 1 : Nat) : Int), .pointer (some ⟨S, 0, none⟩), .pointer (some ⟨T, 0, none⟩)] W fun en w' => en = .returned (.int .i64 (b : Nat)) ∧ W.grownBy w' none) :
  Calls Try.prog 35 #[.int .i64 k, .pointer (some ⟨F, 0, none⟩), .pointer (some ⟨G, 0, none⟩)] w fun en w' => en = .returned (.bool (decide (b ≤ a))) ∧ w.grownBy w' none := by
 have c1 := hd.f
 have c2 := hd.g
 have HD := hid_intro hd
 have HF := hid_intro hF
 have HG := hid_intro hG
 obtain ⟨j, hj⟩ : ∃ j : Nat, k + 1 = j := ⟨_, rfl⟩
 rw [hj] at HF HG
 have e1 : (k : Int) + 1 = (j : Int) := by omega
 have w1 : IntKind.i64.wrap (j : Int) = (j : Int) := by rw [IntKind.wrap_i64]; omega
 have G0 := hid_intro ((Qt.refl w).drew.grown none)
 have hdec : decide (b ≤ a) = decide ((b : Int) ≤ (a : Int)) := by simp
 have HDE := hid_intro hdec
 clear hd hF hG hj hdec
 go_enter Try.func35, Try.ntmps35
 go_wp2
 go_region_with (first
  | (go_at_call 31; refine (HF.out w.drew G0.out).mono ?_; rintro en wa ⟨rfl, hga⟩; have da := (HD.out.keptN (grown_trans G0.out hga)).g)
  | (go_at_call 31; refine (HF.out wb (grown_trans G0.out hgb)).mono ?_; rintro en wc ⟨rfl, hgc⟩)
  | (go_at_call 32; refine (HG.out w.drew G0.out).mono ?_; rintro en wb ⟨rfl, hgb⟩; have db := (HD.out.keptN (grown_trans G0.out hgb)).f)
  | (go_at_call 32; refine (HG.out wa (grown_trans G0.out hga)).mono ?_; rintro en wc ⟨rfl, hgc⟩))
 all_goals (go_wp2; go_ret; first | exact ⟨by rw [HDE.out]; rfl, grown_trans (grown_trans G0.out hga) hgc⟩ | exact ⟨by rw [HDE.out]; rfl, grown_trans (grown_trans G0.out hgb) hgc⟩)
theorem Lz.take {w : World} {a : Option Addr} {L : List (List Int)} (h : Lz w a L) (i : Nat) : Lz w a (L.take i) := by
 refine ⟨fun j hj => ?_⟩
 rw [List.length_take] at hj
 have e : (L.take i).getD j [] = L.getD j [] := by simp [List.getD, show j < i by omega]
 rw [e]
 exact h.row j (by omega)
theorem Lz.drop {w : World} {b off : Nat} {L : List (List Int)} (h : Lz w (some ⟨b, off, none⟩) L) (i : Nat) : Lz w (some ⟨b, off + i, none⟩) (L.drop i) := by
 refine ⟨fun j hj => ?_⟩
 rw [List.length_drop] at hj
 have e : (L.drop i).getD j [] = L.getD (i + j) [] := by simp [List.getD, List.getElem?_drop]
 rw [e]
 obtain ⟨b', off', ao, n, c, h1, h2⟩ := h.row (i + j) (by omega)
 simp only [Option.some.injEq, Addr.mk.injEq] at h1
 obtain ⟨rfl, rfl, _⟩ := h1
 refine ⟨b, off + i, ao, n, c, rfl, ?_⟩
 rw [show off + i + j = off + (i + j) by omega]
 exact h2
structure Ce (w : World) (S T U : Nat) (a : Option Addr) (n cap up : Nat) : Prop where
 s : w.cell? ⟨S, 0, none⟩ = some (.func (.func 24) #[] #[])
 t : w.cell? ⟨T, 0, none⟩ = some (.slice a n cap)
 u : w.cell? ⟨U, 0, none⟩ = some (.int .i64 up)
theorem Ce.keptN {w w' : World} {S T U : Nat} {a : Option Addr} {n cap up : Nat} (h : Ce w S T U a n cap up) (hg : w.grownBy w' none) : Ce w' S T U a n cap up :=
 ⟨hg.cell h.s (by simp), hg.cell h.t (by simp), hg.cell h.u (by simp)⟩
set_option maxHeartbeats 4000000 in
set_option maxRecDepth 100000 in
theorem first_by (S T U : Nat) (b off n cap up i : Nat) (L : List (List Int)) (w : World) (hc : Ce w S T U (some ⟨b, off, none⟩) n cap up) (hl : Lz w (some ⟨b, off, none⟩) L) (hn : L.length = n) (hm : n ≤ 5000) (hcap : n ≤ cap) (hc2 : cap ≤ 9223372036854775807) (hk : ∀ x ∈ L, x.length ≤ 140737488351240)
  (hup : up ≤ i) (hi : i - up ≤ n) :
  Calls Try.prog 39 #[.int .i64 i, .pointer (some ⟨S, 0, none⟩), .pointer (some ⟨T, 0, none⟩), .pointer (some ⟨U, 0, none⟩)] w fun en w' => en = .returned (.int .i64 ((bsize (L.take (i - up)) : Nat) : Int)) ∧ w.grownBy w' none := by
 obtain ⟨k, hk2⟩ : ∃ k : Nat, i - up = k := ⟨_, rfl⟩
 rw [hk2]
 have e1 : (i : Int) - (up : Int) = (k : Int) := by omega
 have hk3 : k ≤ n := by omega
 have c1 := hc.s
 have c2 := hc.t
 have c3 := hc.u
 have HL := hid_intro (hl.take k)
 have HK : Hid (∀ x ∈ L.take k, x.length ≤ 140737488351240) := fun x hx => hk x (List.mem_of_mem_take hx)
 have hlen : (L.take k).length = k := by rw [List.length_take]; omega
 have HN := hid_intro hlen
 have w1 : IntKind.i64.wrap (k : Int) = (k : Int) := by rw [IntKind.wrap_i64]; omega
 have hk5 : k ≤ 5000 := by omega
 have HS := hid_intro (fun (W : World) (h : W.heap = w.heap) => bsize_any (some ⟨b, off, none⟩) k cap (L.take k) W (HL.out.heap h) HN.out hk5 (by omega) hc2 HK.out)
 have g0 : (0 : Int) ≤ (k : Int) := by omega
 have g3 : ¬ ((k : Int) < 0) := by omega
 have g4 : ¬ ((cap : Int) < (k : Int)) := by omega
 have g1 : (k : Int) ≤ (cap : Int) := by omega
 clear hc hl hk hk2 hlen
 go_enter Try.func39, Try.ntmps39
 go_wp2
 go_region_with (go_at_call 24; refine (HS.out w.drew rfl).mono ?_; rintro en w2 ⟨rfl, hg⟩)
 all_goals (go_wp2; go_ret; exact ⟨rfl, grown_trans ((Qt.refl _).drew.grown none) hg⟩)
set_option maxHeartbeats 4000000 in
set_option maxRecDepth 100000 in
theorem second_by (S T U : Nat) (b off n cap up i : Nat) (L : List (List Int)) (w : World) (hc : Ce w S T U (some ⟨b, off, none⟩) n cap up) (hl : Lz w (some ⟨b, off, none⟩) L) (hn : L.length = n) (hm : n ≤ 5000) (hcap : n ≤ cap) (hc2 : cap ≤ 9223372036854775807) (hk : ∀ x ∈ L, x.length ≤ 140737488351240)
  (hi : i ≤ n) :
  Calls Try.prog 40 #[.int .i64 i, .pointer (some ⟨S, 0, none⟩), .pointer (some ⟨T, 0, none⟩)] w fun en w' => en = .returned (.int .i64 ((bsize (L.drop i) : Nat) : Int)) ∧ w.grownBy w' none := by
 have c1 := hc.s
 have c2 := hc.t
 have HK : Hid (∀ x ∈ L.drop i, x.length ≤ 140737488351240) := fun x hx => hk x (List.mem_of_mem_drop hx)
 have hlen : (L.drop i).length = n - i := by rw [List.length_drop]; omega
 have HN := hid_intro hlen
 have hk5 : n - i ≤ 5000 := by omega
 have HL := hid_intro (hl.drop i)
 have g0 : (0 : Int) ≤ (i : Int) := by omega
 have g1 : (i : Int) ≤ (cap : Int) := by omega
 have g2 : (i : Int) ≤ (n : Int) := by omega
 have hin : i ≤ n := hi
 by_cases hz : cap = i
 ·have h0 : n - i = 0 := by omega
  have hni : n = i := by omega
  have h00 : L.drop i = [] := List.eq_nil_of_length_eq_zero (by omega)
  have HS := hid_intro (fun (W : World) (_ : W.heap = w.heap) => bsize_any (some ⟨b, off, none⟩) 0 0 (L.drop i) W (by rw [h00]; exact Lz.zero _ _) (by rw [hlen, h0]) (by omega) (by omega) (by omega) HK.out)
  clear hc hl hk hlen HL h00
  subst hz
  subst hni
  clear hcap hi hin hn h0 HN HK
  go_enter Try.func40, Try.ntmps40
  go_wp2
  go_region_with (go_at_call 24; refine (HS.out w.drew rfl).mono ?_; rintro en w2 ⟨rfl, hg⟩)
  all_goals (go_wp2; go_ret; exact ⟨rfl, grown_trans ((Qt.refl _).drew.grown none) hg⟩)
 ·have hlt : i < cap := by omega
  have HS := hid_intro (fun (W : World) (h : W.heap = w.heap) => bsize_any (some ⟨b, off + i, none⟩) (n - i) (cap - i) (L.drop i) W (HL.out.heap h) hlen hk5 (by omega) (by omega) HK.out)
  clear hc hl hk hlen HL
  go_enter Try.func40, Try.ntmps40
  go_wp2
  go_region_with (go_at_call 24; go_loud (refine (HS.out w.drew rfl).mono ?_; rintro en w2 ⟨rfl, hg⟩))
  all_goals (go_wp2; go_ret; exact ⟨rfl, grown_trans ((Qt.refl _).drew.grown none) hg⟩)
structure Cf (w : World) (S T U F G : Nat) : Prop where
 f : w.cell? ⟨F, 0, none⟩ = some (.func (.func 39) #[] #[.pointer (some ⟨S, 0, none⟩), .pointer (some ⟨T, 0, none⟩), .pointer (some ⟨U, 0, none⟩)])
 g : w.cell? ⟨G, 0, none⟩ = some (.func (.func 40) #[] #[.pointer (some ⟨S, 0, none⟩), .pointer (some ⟨T, 0, none⟩)])
theorem Cf.keptN {w w' : World} {S T U F G : Nat} (h : Cf w S T U F G) (hg : w.grownBy w' none) : Cf w' S T U F G :=
 ⟨hg.cell h.f (by simp), hg.cell h.g (by simp)⟩
set_option maxHeartbeats 4000000 in
set_option maxRecDepth 100000 in
theorem greater_by (S T U F G i a b : Nat) (w : World) (hd : Cf w S T U F G)
  (hF : ∀ W, w.grownBy W none → Calls Try.prog 39 #[.int .i64 i, .pointer (some ⟨S, 0, none⟩), .pointer (some ⟨T, 0, none⟩), .pointer (some ⟨U, 0, none⟩)] W fun en w' => en = .returned (.int .i64 (a : Nat)) ∧ W.grownBy w' none)
  (hG : ∀ W, w.grownBy W none → Calls Try.prog 40 #[.int .i64 i, .pointer (some ⟨S, 0, none⟩), .pointer (some ⟨T, 0, none⟩)] W fun en w' => en = .returned (.int .i64 (b : Nat)) ∧ W.grownBy w' none) :
  Calls Try.prog 41 #[.int .i64 i, .pointer (some ⟨F, 0, none⟩), .pointer (some ⟨G, 0, none⟩)] w fun en w' => en = .returned (.int .i64 ((max a b : Nat) : Int)) ∧ w.grownBy w' none := by
 have c1 := hd.f
 have c2 := hd.g
 have HD := hid_intro hd
 have HF := hid_intro hF
 have HG := hid_intro hG
 obtain ⟨M, hM⟩ : ∃ M : Nat, max a b = M := ⟨_, rfl⟩
 have hmax : ∀ (ts : Array TypeId) (t : TypeId) (W : World), (Builtin.max_ ts t #[.int .i64 a, .int .i64 b]).run Try.prog W = .ok (.int .i64 M) W := fun ts t W => by rw [run_max_int2, max_int, hM]
 rw [hM]
 have G0 := hid_intro ((Qt.refl w).drew.grown none)
 clear hd hF hG hM
 go_enter Try.func41, Try.ntmps41
 go_wp2
 go_region_with (first
  | (go_at_call 39; refine (HF.out w.drew G0.out).mono ?_; rintro en wa ⟨rfl, hga⟩; have da := (HD.out.keptN (grown_trans G0.out hga)).g)
  | (go_at_call 39; refine (HF.out wb (grown_trans G0.out hgb)).mono ?_; rintro en wc ⟨rfl, hgc⟩)
  | (go_at_call 40; refine (HG.out w.drew G0.out).mono ?_; rintro en wb ⟨rfl, hgb⟩; have db := (HD.out.keptN (grown_trans G0.out hgb)).f)
  | (go_at_call 40; refine (HG.out wa (grown_trans G0.out hga)).mono ?_; rintro en wc ⟨rfl, hgc⟩))
 all_goals (go_wp2; go_ret; first | exact ⟨rfl, grown_trans (grown_trans G0.out hga) hgc⟩ | exact ⟨rfl, grown_trans (grown_trans G0.out hgb) hgc⟩)
set_option maxHeartbeats 4000000 in
set_option maxRecDepth 100000 in
theorem pred_by (S T U F G k a b : Nat) (w : World) (hk : k ≤ 100000) (hd : Cf w S T U F G)
  (hF : ∀ W, w.grownBy W none → Calls Try.prog 39 #[.int .i64 ((k + 1 : Nat) : Int), .pointer (some ⟨S, 0, none⟩), .pointer (some ⟨T, 0, none⟩), .pointer (some ⟨U, 0, none⟩)] W fun en w' => en = .returned (.int .i64 (a : Nat)) ∧ W.grownBy w' none)
  (hG : ∀ W, w.grownBy W none → Calls Try.prog 40 #[.int .i64 ((k + 1 : Nat) : Int), .pointer (some ⟨S, 0, none⟩), .pointer (some ⟨T, 0, none⟩)] W fun en w' => en = .returned (.int .i64 (b : Nat)) ∧ W.grownBy w' none) :
  Calls Try.prog 42 #[.int .i64 k, .pointer (some ⟨F, 0, none⟩), .pointer (some ⟨G, 0, none⟩)] w fun en w' => en = .returned (.bool (decide (b ≤ a))) ∧ w.grownBy w' none := by
 have c1 := hd.f
 have c2 := hd.g
 have HD := hid_intro hd
 have HF := hid_intro hF
 have HG := hid_intro hG
 obtain ⟨j, hj⟩ : ∃ j : Nat, k + 1 = j := ⟨_, rfl⟩
 rw [hj] at HF HG
 have e1 : (k : Int) + 1 = (j : Int) := by omega
 have w1 : IntKind.i64.wrap (j : Int) = (j : Int) := by rw [IntKind.wrap_i64]; omega
 have G0 := hid_intro ((Qt.refl w).drew.grown none)
 have hdec : decide (b ≤ a) = decide ((b : Int) ≤ (a : Int)) := by simp
 have HDE := hid_intro hdec
 clear hd hF hG hj hdec
 go_enter Try.func42, Try.ntmps42
 go_wp2
 go_region_with (first
  | (go_at_call 39; refine (HF.out w.drew G0.out).mono ?_; rintro en wa ⟨rfl, hga⟩; have da := (HD.out.keptN (grown_trans G0.out hga)).g)
  | (go_at_call 39; refine (HF.out wb (grown_trans G0.out hgb)).mono ?_; rintro en wc ⟨rfl, hgc⟩)
  | (go_at_call 40; refine (HG.out w.drew G0.out).mono ?_; rintro en wb ⟨rfl, hgb⟩; have db := (HD.out.keptN (grown_trans G0.out hgb)).f)
  | (go_at_call 40; refine (HG.out wa (grown_trans G0.out hga)).mono ?_; rintro en wc ⟨rfl, hgc⟩))
 all_goals (go_wp2; go_ret; first | exact ⟨by rw [HDE.out]; rfl, grown_trans (grown_trans G0.out hga) hgc⟩ | exact ⟨by rw [HDE.out]; rfl, grown_trans (grown_trans G0.out hgb) hgc⟩)
theorem it_eq {x y : It} : x = y ↔ x.key = y.key ∧ x.val = y.val ∧ x.size = y.size ∧ x.first = y.first := by
 obtain ⟨a, b, c, d⟩ := x
 obtain ⟨a', b', c', d'⟩ := y
 simp
set_option maxHeartbeats 2000000 in
set_option maxRecDepth 100000 in
theorem sameItem_any (ao : Option Addr) (n c : Nat) (bo : Option Addr) (m d : Nat) (ao' : Option Addr) (n' c' : Nat) (bo' : Option Addr) (m' d' : Nat) (x y : It) (s f s' f' : Int) (hs : x.size = s) (hf : x.first = f) (hs' : y.size = s') (hf' : y.first = f') (w : World)
  (h1 : Byt w ao n c x.key) (h2 : Byt w bo m d x.val) (h3 : Byt w ao' n' c' y.key) (h4 : Byt w bo' m' d' y.val) (hx : Itb x) (hy : Itb y) :
  Calls Try.prog 27 #[.agg #[.slice ao n c, .slice bo m d, .int .i64 s, .int .i64 f], .agg #[.slice ao' n' c', .slice bo' m' d', .int .i64 s', .int .i64 f']] w fun en w' => (∃ b, en = .returned (.bool b) ∧ (b = true ↔ x = y)) ∧ w.grownBy w' none := by
 have HE := hid_intro (it_eq (x := x) (y := y))
 rw [hs, hs', hf, hf'] at HE
 have ga := World.grownBy_alloc w (.cells #[.slice ao n c, .slice bo m d, .int .i64 s, .int .i64 f] 28) none
 have gb := World.grownBy_alloc (w.alloc (.cells #[.slice ao n c, .slice bo m d, .int .i64 s, .int .i64 f] 28)) (.cells #[.slice ao' n' c', .slice bo' m' d', .int .i64 s', .int .i64 f'] 28) none
 have G := hid_intro (grown_trans ga gb)
 have H1 := hid_intro (h1.keptN G.out)
 have H2 := hid_intro (h2.keptN G.out)
 have H3 := hid_intro (h3.keptN G.out)
 have H4 := hid_intro (h4.keptN G.out)
 have HX := hid_intro hx
 have HY := hid_intro hy
 clear h1 h2 h3 h4 ga gb hx hy
 by_cases hk : x.key = y.key
 ·by_cases hv : x.val = y.val
  ·have HE2 : Hid (x = y ↔ s = s' ∧ f = f') := by
    show _ ↔ _
    rw [HE.out]
    exact ⟨fun h => h.2.2, fun h => ⟨hk, hv, h⟩⟩
   clear HE
   by_cases hss : s = s'
   ·subst hss
    go_enter Try.func27, Try.ntmps27
    go_wp2_with fail
    refine (same_yes _ _ _ _ _ _ _ _ _ H1.out H3.out hk).mono ?_
    rintro en w1 ⟨rfl, rfl⟩
    go_wp2_with fail
    refine (same_yes _ _ _ _ _ _ _ _ _ H2.out H4.out hv).mono ?_
    rintro en w1 ⟨rfl, rfl⟩
    go_wp2
    go_ret
    refine ⟨⟨_, rfl, ?_⟩, G.out⟩
    rw [HE2.out]
    simp
   ·go_enter Try.func27, Try.ntmps27
    go_wp2_with fail
    refine (same_yes _ _ _ _ _ _ _ _ _ H1.out H3.out hk).mono ?_
    rintro en w1 ⟨rfl, rfl⟩
    go_wp2_with fail
    refine (same_yes _ _ _ _ _ _ _ _ _ H2.out H4.out hv).mono ?_
    rintro en w1 ⟨rfl, rfl⟩
    go_wp2
    go_ret
    refine ⟨⟨_, rfl, ?_⟩, G.out⟩
    rw [HE2.out]
    simp [hss]
  ·have HE2 : Hid (¬ x = y) := fun h => hv (by rw [h])
   clear HE
   go_enter Try.func27, Try.ntmps27
   go_wp2_with fail
   refine (same_yes _ _ _ _ _ _ _ _ _ H1.out H3.out hk).mono ?_
   rintro en w1 ⟨rfl, rfl⟩
   go_wp2_with fail
   refine (same_no _ _ _ _ _ _ _ _ _ H2.out H4.out HX.out.val HY.out.val hv).mono ?_
   rintro en w1 ⟨rfl, rfl⟩
   go_wp2
   go_ret
   exact ⟨⟨_, rfl, by simp [HE2.out]⟩, G.out⟩
 ·have HE2 : Hid (¬ x = y) := fun h => hk (by rw [h])
  clear HE
  by_cases hv : x.val = y.val
  ·go_enter Try.func27, Try.ntmps27
   go_wp2_with fail
   refine (same_no _ _ _ _ _ _ _ _ _ H1.out H3.out HX.out.key HY.out.key hk).mono ?_
   rintro en w1 ⟨rfl, rfl⟩
   go_wp2_with fail
   refine (same_yes _ _ _ _ _ _ _ _ _ H2.out H4.out hv).mono ?_
   rintro en w1 ⟨rfl, rfl⟩
   go_wp2
   go_ret
   exact ⟨⟨_, rfl, by simp [HE2.out]⟩, G.out⟩
  ·go_enter Try.func27, Try.ntmps27
   go_wp2_with fail
   refine (same_no _ _ _ _ _ _ _ _ _ H1.out H3.out HX.out.key HY.out.key hk).mono ?_
   rintro en w1 ⟨rfl, rfl⟩
   go_wp2_with fail
   refine (same_no _ _ _ _ _ _ _ _ _ H2.out H4.out HX.out.val HY.out.val hv).mono ?_
   rintro en w1 ⟨rfl, rfl⟩
   go_wp2
   go_ret
   exact ⟨⟨_, rfl, by simp [HE2.out]⟩, G.out⟩
theorem getD_ext {L M : List It} (hl : L.length = M.length) (h : ∀ j, j < L.length → L.getD j it0 = M.getD j it0) : L = M := by
 refine List.ext_getElem hl fun j h1 h2 => ?_
 have := h j h1
 simpa [List.getD, List.getElem?_eq_getElem h1, List.getElem?_eq_getElem h2] using this
set_option maxHeartbeats 2000000 in
set_option maxRecDepth 100000 in
theorem sameItems_any (a : Option Addr) (n cap : Nat) (L : List It) (a' : Option Addr) (n' cap' : Nat) (M : List It) (w : World) (hl : Il w a L) (hb : Ib L) (hn : L.length = n) (hl' : Il w a' M) (hb' : Ib M) (hn' : M.length = n') (hm : n ≤ 9223372036854775807) :
  Calls Try.prog 11 #[.slice a n cap, .slice a' n' cap'] w fun en w' => (∃ b, en = .returned (.bool b) ∧ (b = true ↔ L = M)) ∧ w.grownBy w' none := by
 have HL := hid_intro hl
 have HM := hid_intro hl'
 have HB := hid_intro hb
 have HB' := hid_intro hb'
 clear hl hl' hb hb'
 by_cases he : n = n'
 ·subst he
  go_enter Try.func11, Try.ntmps11
  go_wp2
  go_loopw [5, 6] (fun si _ wr => ∃ i : Nat, i ≤ n ∧ si = .int .i64 i ∧ (∀ j, j < i → L.getD j it0 = M.getD j it0) ∧ w.grownBy wr none) (fun si _ _ => n - (intOf si).toNat)
  case atStart => exact ⟨0, Nat.zero_le _, rfl, fun j hj => by omega, World.grownBy.refl _ _⟩
  case round =>
   obtain ⟨i, hi, rfl, ha, hg⟩ := hrel
   have HG := hid_intro hg
   have HA := hid_intro ha
   clear hg ha
   by_cases hlt : i < n
   ·obtain ⟨b, off, ao, m, c, bo, m2, d2, rfl, q2, q3, q4, q5, q6, q7, q8, q9, q10, q11⟩ := HL.out.row i (by omega)
    obtain ⟨b', off', ao', m', c', bo', m2', d2', rfl, r2, r3, r4, r5, r6, r7, r8, r9, r10, r11⟩ := HM.out.row i (by omega)
    have HGd := fun row => hid_intro (grown_trans (grown_any (row := row) HG.out) ((Qt.refl wr).drew.grown row))
    have c0 := HG.out.cell q2 (by simp)
    have c1 := HG.out.cell q3 (by simp)
    have c2 := HG.out.cell q4 (by simp)
    have c3 := HG.out.cell q5 (by simp)
    have d0 := HG.out.cell r2 (by simp)
    have d1 := HG.out.cell r3 (by simp)
    have d2 := HG.out.cell r4 (by simp)
    have d3 := HG.out.cell r5 (by simp)
    have HC := hid_intro (sameItem_any ao m c bo m2 _ ao' m' c' bo' m2' _ (L.getD i it0) (M.getD i it0) _ _ _ _ rfl rfl rfl rfl wr.drew (q6.keptN (HGd none).out) (q9.keptN (HGd none).out) (r6.keptN (HGd none).out) (r9.keptN (HGd none).out) (HB.out.at (by omega)) (HB'.out.at (by omega)))
    have HX : Hid (L.getD i it0 = M.getD i it0 → ∀ j, j < i + 1 → L.getD j it0 = M.getD j it0) := by
     intro h j hj
     by_cases e : j = i
     ·subst e; exact h
     ·exact HA.out j (by omega)
    have HN : Hid (¬ L.getD i it0 = M.getD i it0 → ¬ L = M) := fun h e => h (by rw [e])
    clear q2 q3 q4 q5 q6 q9 r2 r3 r4 r5 r6 r9 HA
    generalize (L.getD i it0).size = sz at *
    generalize (L.getD i it0).first = fs at *
    generalize (M.getD i it0).size = sz' at *
    generalize (M.getD i it0).first = fs' at *
    generalize L.getD i it0 = x at *
    generalize M.getD i it0 = y at *
    have g0 : (0 : Int) ≤ (i : Int) := by omega
    have g1 : (i : Int) < (n : Int) := by omega
    go_wp2_with fail
    go_region_with (go_at_call 27; refine HC.out.mono ?_; rintro en w2 ⟨⟨bb, rfl, hbb⟩, hg2⟩)
    all_goals
     have HG2 := hid_intro (grown_trans (HGd none).out hg2)
     have HBB := hid_intro hbb
     clear hg2 hbb
     cases bb with
     | true =>
      have HX1 := hid_intro (HX.out (HBB.out.1 rfl))
      clear HX HN HBB
      go_wp2
      go_roundw
      case rel => exact ⟨i + 1, by omega, by go_num, HX1.out, HG2.out⟩
      case measure => simp [intOf]; omega
     | false =>
      have HN1 := hid_intro (HN.out (fun e => by cases (HBB.out.2 e)))
      clear HX HN HBB
      go_wp2
      go_ret
      exact ⟨⟨_, rfl, by simp [HN1.out]⟩, HG2.out⟩
   ·have hin : i = n := by omega
    subst hin
    have HE : Hid (L = M) := getD_ext (by omega) (fun j hj => HA.out j (by omega))
    clear HA
    go_wp2
    go_ret
    exact ⟨⟨_, rfl, by simp [HE.out]⟩, HG.out⟩
 ·have HE : Hid (¬ L = M) := fun e => he (by rw [← hn, ← hn', e])
  go_enter Try.func11, Try.ntmps11
  go_wp2
  go_ret
  exact ⟨⟨_, rfl, by simp [HE.out]⟩, World.grownBy.refl _ _⟩
theorem make_zero (n : Nat) (hn : n ≤ 65536) : ∃ ZZ : Array Value, (∀ W : World, (Instr.makeSlice 26 (.int .i64 (n : Int)) (.int .i64 (n : Int))).run Try.prog W = .ok (.slice (some ⟨W.heap.size, 0, none⟩) n n) (W.alloc (.cells ZZ 5))) ∧ ZZ = ((List.replicate n (0 : Int)).map (Value.int .u8)).toArray := by
 obtain ⟨i0, hi, hz0, hz1, hz2⟩ := info_parts info_u8
 refine ⟨madeCells #[Value.int .u8 0] n, fun W => ?_, by rw [← made]⟩
 have := run_makeSlice (P := Try.prog) (w := W) 26 5 i0 (.int .u8 0) Try.underlying26 hi hz0 .i64 .i64 (n : Int) (n : Int) (by omega) (by omega) (by rw [hz1]; simp; omega) (by rw [hz2]; omega) (by omega)
 rw [hz1, show (Value.int .u8 0).cells = #[Value.int .u8 0] from rfl, Int.toNat_natCast, Nat.mul_one] at this
 exact this
set_option maxHeartbeats 400000 in
set_option maxRecDepth 100000 in
theorem refLong_any (s : Int) (w : World) : Calls Try.prog 51 #[.int .i64 s] w fun en w' => en = .returned (.int .i64 ((lg s : Nat) : Int)) ∧ w' = w := by
 have HL := hid_intro (lg_int s)
 by_cases h0 : s < 0
 ·go_enter Try.func51, Try.ntmps51
  go_wp2
  go_ret
  exact ⟨ret_int (by rw [HL.out]; omega), rfl⟩
 ·by_cases h1 : 262144 < s
  ·go_enter Try.func51, Try.ntmps51
   go_wp2
   go_ret
   exact ⟨ret_int (by rw [HL.out]; omega), rfl⟩
  ·go_enter Try.func51, Try.ntmps51
   go_wp2
   go_ret
   exact ⟨ret_int (by rw [HL.out]; omega), rfl⟩
theorem ret_u64 {x y : Int} (h : x = y) : Ending.returned (Value.int IntKind.u64 x) = .returned (.int .u64 y) := by rw [h]
set_option maxHeartbeats 400000 in
set_option maxRecDepth 100000 in
theorem refTag_any (s : Int) (w : World) : Calls Try.prog 50 #[.int .i64 s] w fun en w' => en = .returned (.int .u64 ((tg s : Nat) : Int)) ∧ w' = w := by
 have hl := lg_le s
 have HT : Hid (tg s = if 512 < lg s then 2 * lg s + 1 else 2 * lg s) := rfl
 go_enter Try.func50, Try.ntmps50
 go_wp2_with fail
 refine (refLong_any s _).mono ?_
 rintro en w1 ⟨rfl, rfl⟩
 generalize lg s = q at *
 by_cases h5 : 512 < q
 ·go_wp2
  go_ret
  exact ⟨ret_u64 (by rw [HT.out, if_pos h5]; go_num), rfl⟩
 ·go_wp2
  go_ret
  exact ⟨ret_u64 (by rw [HT.out, if_neg h5]; go_num), rfl⟩
set_option maxHeartbeats 2000000 in
set_option maxRecDepth 100000 in
theorem refCommon4_none (a : Option Addr) (cap : Nat) (w : World) : Calls Try.prog 48 #[.slice a 0 cap] w fun en w' => en = .returned (.int .i64 0) ∧ w' = w := by
 go_enter Try.func48, Try.ntmps48
 go_wp2
 go_ret
 exact ⟨rfl, rfl⟩
set_option maxHeartbeats 4000000 in
set_option maxRecDepth 100000 in
theorem refCommon4_some (a : Option Addr) (cap : Nat) (x : It) (T : List It) (w : World) (hl : Il w a (x :: T)) (hc : T.length + 1 ≤ 5000) :
  Calls Try.prog 48 #[.slice a (T.length + 1) cap] w fun en w' => en = .returned (.int .i64 ((pre (x :: T) : Nat) : Int)) ∧ Dr w w' := by
 have HM : Hid (pre (x :: T) = comAll x.key x.key.length (T.map It.key)) := rfl
 obtain ⟨b, off, ao, n, c, bo, m2, d2, rfl, q2, q3, q4, q5, q6, q7, q8, q9, q10, q11⟩ := hl.row 0 (by simp)
 have h3' : Byt w ao n c x.key := by simpa using q6
 have hz := h3'.len
 have HF := hid_intro h3'
 have HL := hid_intro hl
 rw [Nat.zero_mul, Nat.add_zero] at q2
 have HQ2 := hid_intro q2
 clear q2 q3 q4 q5 q6 q9 h3' hl
 obtain ⟨N, hN⟩ : ∃ N, T.length + 1 = N := ⟨_, rfl⟩
 rw [hN]
 have HN := hid_intro hN
 have hN5 : N ≤ 5000 := by omega
 have hN1 : ¬ N = 0 := by omega
 have hN0 : (0 : Int) < (N : Int) := by omega
 clear hN hc
 have cq := HQ2.out
 go_enter Try.func48, Try.ntmps48
 go_wp2
 go_loopw [3, 4, 5] (fun sn si _ wr => ∃ i : Nat, i + 1 ≤ N ∧ si = .int .i64 ((i + 1 : Nat) : Int) ∧ sn = .int .i64 ((comAll x.key n ((T.map It.key).take i) : Nat) : Int) ∧ Dr w wr) (fun _ si _ _ => N - (intOf si).toNat)
 case atStart => exact ⟨0, by omega, rfl, rfl, Dr.refl _⟩
 case round =>
  obtain ⟨i, hi, rfl, rfl, hq⟩ := hrel
  have HQ := hid_intro hq
  clear hq
  have hle : comAll x.key n ((T.map It.key).take i) ≤ n := comAll_le _ _ _
  by_cases hlt : i + 1 < N
  ·obtain ⟨b', off', bo', m, d, bo2, m3, d3, e1, k2, k3, k4, k5, k6, k7, k8, k9, k10, k11⟩ := HL.out.row (i + 1) (by have := HN.out; simp; omega)
   simp only [Option.some.injEq, Addr.mk.injEq] at e1
   obtain ⟨rfl, rfl, _⟩ := e1
   have k6' : Byt w bo' m d (T.getD i it0).key := by simpa using k6
   have hlk := k6'.len
   have HS : Hid (comAll x.key n ((T.map It.key).take (i + 1)) = min (comAll x.key n ((T.map It.key).take i)) (com x.key (T.getD i it0).key)) := by
    have := comAll_snoc x.key n (T.map It.key) i (by have := HN.out; rw [List.length_map]; omega)
    rw [key_map] at this
    exact this
   have HB := hid_intro k6'
   have HK2 := hid_intro k2
   clear k2 k3 k4 k5 k6 k6' k9
   generalize comAll x.key n ((T.map It.key).take i) = t at *
   generalize (T.getD i it0).key = g at *
   obtain ⟨j, hj⟩ : ∃ j, i + 1 = j := ⟨_, rfl⟩
   rw [hj] at HK2 hlt hi HS ⊢
   have HJ := hid_intro hj
   clear hj
   have g0 : (0 : Int) ≤ (j : Int) := by omega
   have g1 : (j : Int) < (N : Int) := by omega
   go_wp2
   go_loopw [5] (fun sk wk => ∃ k : Nat, k ≤ t ∧ k ≤ m ∧ sk = .int .i64 k ∧ com (x.key.drop k) (g.drop k) + k = com x.key g ∧ Dr w wk) (fun sk _ => t - (intOf sk).toNat)
   case atStart => exact ⟨0, Nat.zero_le _, Nat.zero_le _, rfl, rfl, HQ.out⟩
   case round =>
    obtain ⟨k, hk1, hk2, rfl, he, hqk⟩ := hrel
    have HE := hid_intro he
    have HQK := hid_intro hqk
    clear he hqk
    have cf := (HQK.out.cell _).trans HQ2.out
    have cg := (HQK.out.cell _).trans HK2.out
    by_cases h1 : k < t
    ·by_cases h2 : k < m
     ·obtain ⟨b1, o1, rfl, _, r1⟩ := HF.out.at (by omega)
      obtain ⟨b2, o2, rfl, _, r2⟩ := HB.out.at (by omega)
      have c1 := (HQK.out.cell _).trans (r1 k (by omega))
      have c2 := (HQK.out.cell _).trans (r2 k h2)
      have e1 : Hid (x.key.getD k 0 = g.getD k 0 → com (x.key.drop k) (g.drop k) = com (x.key.drop (k + 1)) (g.drop (k + 1)) + 1) := fun h => com_on (by omega) (by omega) h
      have e2 : Hid (x.key.getD k 0 ≠ g.getD k 0 → com (x.key.drop k) (g.drop k) = 0) := fun h => com_off (by omega) (by omega) h
      have gg1 : decide ((k : Int) < (t : Int)) = true := by simp; omega
      have gg2 : decide ((k : Int) < (m : Int)) = true := by simp; omega
      have gg3 : (k : Int) < (n : Int) := by omega
      have gg4 : (k : Int) < (m : Int) := by omega
      have gg0 : (0 : Int) ≤ (k : Int) := by omega
      clear r1 r2
      generalize x.key.getD k 0 = u at *
      generalize g.getD k 0 = v at *
      by_cases huv : u = v
      ·subst huv
       have E1 := hid_intro (e1.out rfl)
       clear e1 e2
       have hd : (u == u) = true := by simp
       go_wp2
       go_quiet (fail)
       go_wp2
       go_roundw
       case rel => exact ⟨k + 1, by omega, by omega, by go_num, by have := E1.out; have := HE.out; omega, HQK.out.more _⟩
       case measure => simp [intOf]; omega
      ·have hd : (v == u) = false := by simpa using fun e => huv e.symm
       have HC : Hid (com x.key g = k) := by have := e2.out huv; have := HE.out; show _ = _; omega
       clear e1 e2
       go_wp2
       go_quiet (fail)
       go_wp2
       go_roundw
       case rel => exact ⟨i + 1, by have := HJ.out; omega, by have := HJ.out; go_num, by rw [HJ.out, HS.out, HC.out, Nat.min_eq_right (by omega)], HQK.out.more _⟩
       case measure => have := HJ.out; simp [intOf]; omega
     ·have hend := com_end (a := x.key) (b := g) (i := k) (by omega)
      have HC : Hid (com x.key g = k) := by have := HE.out; show _ = _; omega
      clear hend
      have gg1 : decide ((k : Int) < (t : Int)) = true := by simp; omega
      have gg2 : decide ((k : Int) < (m : Int)) = false := by simp; omega
      go_wp2
      go_quiet (fail)
      go_wp2
      go_roundw
      case rel => exact ⟨i + 1, by have := HJ.out; omega, by have := HJ.out; go_num, by rw [HJ.out, HS.out, HC.out, Nat.min_eq_right (by omega)], HQK.out.more _⟩
      case measure => have := HJ.out; simp [intOf]; omega
    ·have HC : Hid (t ≤ com x.key g) := by have := HE.out; show _ ≤ _; omega
     have hkt : k = t := by omega
     have gg1 : decide ((k : Int) < (t : Int)) = false := by simp; omega
     go_wp2
     go_quiet (fail)
     go_wp2
     go_roundw
     case rel => exact ⟨i + 1, by have := HJ.out; omega, by have := HJ.out; go_num, by rw [HJ.out, HS.out, Nat.min_eq_left HC.out, hkt], HQK.out.more _⟩
     case measure => have := HJ.out; simp [intOf]; omega
  ·have hin : i = T.length := by have := HN.out; omega
   have HT : Hid (comAll x.key n ((T.map It.key).take i) = pre (x :: T)) := by
    show _ = _
    rw [HM.out, hin, hz, List.take_of_length_le (by rw [List.length_map]; exact Nat.le_refl _)]
   generalize comAll x.key n ((T.map It.key).take i) = t at *
   obtain ⟨j, hj⟩ : ∃ j, i + 1 = j := ⟨_, rfl⟩
   rw [hj] at hlt ⊢
   have g1 : ¬ (j : Int) < (N : Int) := by omega
   go_wp2
   go_ret
   exact ⟨ret_int (by rw [HT.out]), HQ.out⟩
theorem refCommon4_any (a : Option Addr) (n cap : Nat) (L : List It) (w : World) (hl : Il w a L) (hn : L.length = n) (hm : n ≤ 5000) :
  Calls Try.prog 48 #[.slice a n cap] w fun en w' => en = .returned (.int .i64 ((pre L : Nat) : Int)) ∧ Dr w w' := by
 cases L with
 | nil =>
  obtain rfl : n = 0 := by simpa using hn.symm
  refine (refCommon4_none a cap w).mono ?_
  rintro en w' ⟨rfl, rfl⟩
  exact ⟨rfl, Dr.refl _⟩
 | cons x T =>
  have e : n = T.length + 1 := by simpa using hn.symm
  subst e
  exact refCommon4_some a cap x T w hl hm
set_option maxHeartbeats 4000000 in
set_option maxRecDepth 100000 in
theorem refSize_any (a : Option Addr) (n cap : Nat) (L : List It) (w : World) (hl : Il w a L) (hn : L.length = n) (hm : n ≤ 5000) (hk : ∀ x ∈ L, x.key.length ≤ 140737488351240) :
  Calls Try.prog 29 #[.slice a n cap] w fun en w' => en = .returned (.int .i64 ((size L : Nat) : Int)) ∧ Dr w w' := by
 have HL := hid_intro hl
 have HP : Hid (∀ x ∈ L, pre L ≤ x.key.length) := fun x hx => (pre_each x hx).1
 have HS := hid_intro (size_int (by omega) hk)
 have HM : Hid (size L = 3 + vl (pre L) + pre L + sums (pre L) L) := rfl
 have HN := hid_intro (fun i h => sums_snoc (pre L) L i h)
 have hv := vl_le (pre L)
 have hpl : pre L ≤ 140737488351240 := by
  cases L with
  | nil => exact Nat.zero_le _
  | cons x L => exact Nat.le_trans (pre_each x List.mem_cons_self).1 (hk x List.mem_cons_self)
 have HK := hid_intro hk
 clear hl hk
 go_enter Try.func29, Try.ntmps29
 go_wp2_with fail
 refine (refCommon4_any a n cap L _ HL.out hn hm).mono ?_
 rintro en w1 ⟨rfl, hg1⟩
 have HG := hid_intro hg1
 clear hg1
 generalize pre L = p at *
 go_wp2_with fail
 refine (refVLen_any p _ (by omega)).mono ?_
 rintro en w2 ⟨rfl, rfl⟩
 have hv' : (vform p).length ≤ 10 := hv
 generalize hvv : (vform p).length = v at *
 have HV : Hid (vl p = v) := hvv
 clear hvv hv
 go_wp2
 go_loopw [4, 5, 6] (fun sn si _ wr => ∃ i : Nat, i ≤ n ∧ si = .int .i64 i ∧ sn = .int .i64 ((3 + v + p + sums p (L.take i) : Nat) : Int) ∧ Dr w wr) (fun _ si _ _ => n - (intOf si).toNat)
 case atStart => exact ⟨0, Nat.zero_le _, rfl, by simp [sums], HG.out⟩
 case round =>
  obtain ⟨i, hi, rfl, rfl, hg⟩ := hrel
  have HG1 := hid_intro hg
  have b1 := HS.out i (by omega)
  clear hg HG
  by_cases hlt : i < n
  ·obtain ⟨b, off, ao, m, c, bo, m2, d2, rfl, q2, q3, q4, q5, q6, q7, q8, q9, q10, q11⟩ := HL.out.row i (by omega)
   have c0 := (HG1.out.cell _).trans q2
   have c2 := (HG1.out.cell _).trans q4
   have hx := getD_mem (L := L) (i := i) (by omega)
   have hm1 := q6.len
   have hp1 := HP.out _ hx
   have hk1 := HK.out _ hx
   have b2 := cl_le p (L.getD i it0)
   have HX : Hid (sums p (L.take (i + 1)) = sums p (L.take i) + (2 + cl p (L.getD i it0))) := HN.out i (by omega)
   obtain ⟨r, hr⟩ : ∃ r, m - p = r := ⟨_, rfl⟩
   have hr' : (m : Int) - (p : Int) = (r : Int) := by omega
   have HCL : Hid (cl p (L.getD i it0) = vl r + r + vl (tg (L.getD i it0).size) + tl (L.getD i it0).size) := by show _ = _; unfold cl; rw [hm1, hr]
   have htl : tl (L.getD i it0).size = if 512 < lg (L.getD i it0).size then 4 else lg (L.getD i it0).size := rfl
   have hlg := lg_le (L.getD i it0).size
   have htt := tg_lt (L.getD i it0).size
   have hv1 : (vform r).length ≤ 10 := vl_le r
   have hv2 : (vform (tg (L.getD i it0).size)).length ≤ 10 := vl_le _
   have HVR := hid_intro (fun W : World => refVLen_any r W (by omega))
   have HVT := hid_intro (fun W : World => refVLen_any (tg (L.getD i it0).size) W (by omega))
   have HTG := hid_intro (fun W : World => refTag_any (L.getD i it0).size W)
   have HLG := hid_intro (fun W : World => refLong_any (L.getD i it0).size W)
   have hrb : r ≤ 140737488351240 := by omega
   clear q2 q3 q4 q5 q6 q9 hm1 hp1 hx hr
   generalize cl p (L.getD i it0) = C at *
   generalize sums p (L.take i) = U at *
   generalize tl (L.getD i it0).size = tl1 at *
   generalize lg (L.getD i it0).size = lg1 at *
   generalize (L.getD i it0).size = sz at *
   have HTL := hid_intro htl
   clear htl
   generalize hla : (vform r).length = la at *
   generalize hlb : (vform (tg sz)).length = lb1 at *
   have HLA : Hid (vl r = la) := hla
   have HLB : Hid (vl (tg sz) = lb1) := hlb
   clear hla hlb
   generalize tg sz = t at *
   have g0 : (0 : Int) ≤ (i : Int) := by omega
   have g1 : (i : Int) < (n : Int) := by omega
   obtain ⟨S0, hS0⟩ : ∃ S0, 3 + v + p + U = S0 := ⟨_, rfl⟩
   rw [hS0]
   have HS0 := hid_intro hS0
   have hSb : S0 ≤ 704000000000000000 := by omega
   clear hS0
   go_wp2
   go_quiet ((first
    | (go_at_call_of 49 (Value.int IntKind.u64 (r : Int)); exact Calls.quiet_of_same (HVR.out _))
    | (go_at_call_of 49 (Value.int IntKind.u64 (t : Int)); exact Calls.quiet_of_same (HVT.out _))
    | (go_at_call 50; exact Calls.quiet_of_same (HTG.out _))))
   go_wp2_with fail
   refine (HLG.out _).mono ?_
   rintro en w5 ⟨rfl, rfl⟩
   by_cases h5 : 512 < lg1
   ·rw [if_pos h5] at HTL
    go_wp2
    go_roundw
    case rel => exact ⟨i + 1, by omega, by go_num, by rw [HX.out, HCL.out, HLA.out, HLB.out, HTL.out]; have := HS0.out; go_num, HG1.out.more _⟩
    case measure => simp [intOf]; omega
   ·rw [if_neg h5] at HTL
    go_wp2_with fail
    refine (HLG.out _).mono ?_
    rintro en w5 ⟨rfl, rfl⟩
    go_wp2
    go_roundw
    case rel => exact ⟨i + 1, by omega, by go_num, by rw [HX.out, HCL.out, HLA.out, HLB.out, HTL.out]; have := HS0.out; go_num, HG1.out.more _⟩
    case measure => simp [intOf]; omega
  ·have hin : i = n := by omega
   subst hin
   go_wp2
   go_ret
   refine ⟨ret_int ?_, HG1.out⟩
   rw [HM.out, HV.out, ← hn, List.take_length]
def NoW (P : It → Bool) (L : List It) (i : Nat) : Prop := (L.take i).any P = false
theorem NoW.zero (P : It → Bool) (L : List It) : NoW P L 0 := by unfold NoW; simp
structure Gb (w wr : World) (base : Nat) (v : Value) (zs : List Int) : Prop where
 own : wr.ownsRow base 5 1 v zs.length (zs.map (Value.int .u8))
 gr : w.grownBy wr none
 le : w.heap.size ≤ base ∧ base ≤ wr.heap.size
theorem Gb.byt {w wr : World} {base : Nat} {v : Value} {zs : List Int} (h : Gb w wr base v zs) : ∃ ao cap, v = .slice ao zs.length cap ∧ Byt wr ao zs.length cap zs := owns_any h.own
theorem Gb.keptN {w wr w' : World} {base : Nat} {v : Value} {zs : List Int} (h : Gb w wr base v zs) (hg : wr.grownBy w' none) : Gb w w' base v zs :=
 ⟨h.own.kept hg (by cases v.ownBlock <;> simp), grown_trans h.gr hg, h.le.1, Nat.le_trans h.le.2 hg.size⟩
theorem Gb.put {w wr w' : World} {v : Value} {zs : List Int} {n : Nat} (hl : zs.length = n) (ho : w'.ownsRow wr.heap.size 5 1 v n (zs.map (Value.int .u8))) (hw : w.grownBy wr none) (hg : wr.grownBy w' none) : Gb w w' wr.heap.size v zs :=
 ⟨by rw [hl]; exact ho, grown_trans hw hg, hw.size, hg.size⟩
theorem Bx.keptN {w w' : World} {T : Nat} {a b c d : Value} (h : Bx w T a b c d) (hg : w.grownBy w' none) : Bx w' T a b c d := h.kept hg (by simp)
end Go.Proofs.Ytoakngmagoilnaa
