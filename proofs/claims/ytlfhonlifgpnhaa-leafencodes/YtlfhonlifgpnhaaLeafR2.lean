import Derived.Test.YtlfhonlifgpnhaaLeafR1
namespace Go.Proofs.Ytlfhonlifgpnhaa
open Go.RowKit

set_option maxHeartbeats 4000000 in
set_option maxRecDepth 100000 in
/-- coppiceref4.Size. -/
theorem refSize_any (a : Option Addr) (n cap : Nat) (L : List It) (w : World) (hl : Il w a L) (hn : L.length = n) (hm : n ≤ 5000) (hk : ∀ x ∈ L, x.key.length ≤ 1000000) :
    Calls Try.prog 15 #[.slice a n cap] w fun en w' => en = .returned (.int .i64 ((size L : Nat) : Int)) ∧ Dr w w' := by
  have HL := hid_intro hl
  have HP : Hid (∀ x ∈ L, pre L ≤ x.key.length) := fun x hx => (pre_each x hx).1
  have HS := hid_intro (size_int (by omega) hk)
  have HM : Hid (size L = 3 + vl (pre L) + pre L + sums (pre L) L) := rfl
  have HN := hid_intro (fun i h => sums_snoc (pre L) L i h)
  have hv := vl_le (pre L)
  have hpl : pre L ≤ 1000000 := by
    cases L with
    | nil => exact Nat.zero_le _
    | cons x L => exact Nat.le_trans (pre_each x List.mem_cons_self).1 (hk x List.mem_cons_self)
  have HK := hid_intro hk
  clear hl hk
  go_enter Try.func15, Try.ntmps15
  go_wp2_with fail
  refine (refCommon4_any a n cap L _ HL.out hn hm).mono ?_
  rintro en w1 ⟨rfl, hg1⟩
  have HG := hid_intro hg1
  clear hg1
  generalize pre L = p at *
  go_wp2_with fail
  refine (refVLen_any p _ (by omega)).mono ?_
  rintro en w2 ⟨rfl, rfl⟩
  have hv' : (vform p).length ≤ 10 := hv
  generalize hvv : (vform p).length = v at *
  have HV : Hid (vl p = v) := hvv
  clear hvv hv
  go_wp2
  go_loopw [4, 5, 6] (fun sn si _ wr => ∃ i : Nat, i ≤ n ∧ si = .int .i64 i ∧ sn = .int .i64 ((3 + v + p + sums p (L.take i) : Nat) : Int) ∧ Dr w wr) (fun _ si _ _ => n - (intOf si).toNat)
  case atStart => exact ⟨0, Nat.zero_le _, rfl, by simp [sums], HG.out⟩
  case round =>
    obtain ⟨i, hi, rfl, rfl, hg⟩ := hrel
    have HG1 := hid_intro hg
    have b1 := HS.out i (by omega)
    clear hg HG
    by_cases hlt : i < n
    · obtain ⟨b, off, ao, m, c, bo, m2, d2, rfl, q2, q3, q4, q5, q6, q7, q8, q9, q10, q11⟩ := HL.out.row i (by omega)
      have c0 := (HG1.out.cell _).trans q2
      have c2 := (HG1.out.cell _).trans q4
      have hx := getD_mem (L := L) (i := i) (by omega)
      have hm1 := q6.len
      have hp1 := HP.out _ hx
      have hk1 := HK.out _ hx
      have b2 := cl_le p (L.getD i it0)
      have HX : Hid (sums p (L.take (i + 1)) = sums p (L.take i) + (2 + cl p (L.getD i it0))) := HN.out i (by omega)
      obtain ⟨r, hr⟩ : ∃ r, m - p = r := ⟨_, rfl⟩
      have hr' : (m : Int) - (p : Int) = (r : Int) := by omega
      have HCL : Hid (cl p (L.getD i it0) = vl r + r + vl (tg (L.getD i it0).size) + tl (L.getD i it0).size) := by show _ = _; unfold cl; rw [hm1, hr]
      have htl : tl (L.getD i it0).size = if 512 < lg (L.getD i it0).size then 4 else lg (L.getD i it0).size := rfl
      have hlg := lg_le (L.getD i it0).size
      have htt := tg_lt (L.getD i it0).size
      have hv1 : (vform r).length ≤ 10 := vl_le r
      have hv2 : (vform (tg (L.getD i it0).size)).length ≤ 10 := vl_le _
      have HVR := hid_intro (fun W : World => refVLen_any r W (by omega))
      have HVT := hid_intro (fun W : World => refVLen_any (tg (L.getD i it0).size) W (by omega))
      have HTG := hid_intro (fun W : World => refTag_any (L.getD i it0).size W)
      have HLG := hid_intro (fun W : World => refLong_any (L.getD i it0).size W)
      have hrb : r ≤ 1000000 := by omega
      clear q2 q3 q4 q5 q6 q9 hm1 hp1 hx hr
      generalize cl p (L.getD i it0) = C at *
      generalize sums p (L.take i) = U at *
      generalize tl (L.getD i it0).size = tl1 at *
      generalize lg (L.getD i it0).size = lg1 at *
      generalize (L.getD i it0).size = sz at *
      have HTL := hid_intro htl
      clear htl
      generalize hla : (vform r).length = la at *
      generalize hlb : (vform (tg sz)).length = lb1 at *
      have HLA : Hid (vl r = la) := hla
      have HLB : Hid (vl (tg sz) = lb1) := hlb
      clear hla hlb
      generalize tg sz = t at *
      have g0 : (0 : Int) ≤ (i : Int) := by omega
      have g1 : (i : Int) < (n : Int) := by omega
      obtain ⟨S0, hS0⟩ : ∃ S0, 3 + v + p + U = S0 := ⟨_, rfl⟩
      rw [hS0]
      have HS0 := hid_intro hS0
      have hSb : S0 ≤ 6006000000 := by omega
      clear hS0
      go_wp2
      go_quiet ((first
        | (go_at_call_of 30 (Value.int IntKind.u64 (r : Int)); exact Calls.quiet_of_same (HVR.out _))
        | (go_at_call_of 30 (Value.int IntKind.u64 (t : Int)); exact Calls.quiet_of_same (HVT.out _))
        | (go_at_call 31; exact Calls.quiet_of_same (HTG.out _))))
      go_wp2_with fail
      refine (HLG.out _).mono ?_
      rintro en w5 ⟨rfl, rfl⟩
      by_cases h5 : 512 < lg1
      · rw [if_pos h5] at HTL
        go_wp2
        go_roundw
        case rel => exact ⟨i + 1, by omega, by go_num, by rw [HX.out, HCL.out, HLA.out, HLB.out, HTL.out]; have := HS0.out; go_num, HG1.out.more _⟩
        case measure => simp [intOf]; omega
      · rw [if_neg h5] at HTL
        go_wp2_with fail
        refine (HLG.out _).mono ?_
        rintro en w5 ⟨rfl, rfl⟩
        go_wp2
        go_roundw
        case rel => exact ⟨i + 1, by omega, by go_num, by rw [HX.out, HCL.out, HLA.out, HLB.out, HTL.out]; have := HS0.out; go_num, HG1.out.more _⟩
        case measure => simp [intOf]; omega
    · have hin : i = n := by omega
      subst hin
      go_wp2
      go_ret
      refine ⟨ret_int ?_, HG1.out⟩
      rw [HM.out, HV.out, ← hn, List.take_length]
end Go.Proofs.Ytlfhonlifgpnhaa
