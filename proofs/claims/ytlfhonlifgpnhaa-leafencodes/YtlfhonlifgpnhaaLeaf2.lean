import Derived.Test.YtlfhonlifgpnhaaLeaf1
namespace Go.Proofs.Ytlfhonlifgpnhaa
open Go.RowKit

/-- An item as a value. -/
def itv (ao : Option Addr) (n c : Nat) (bo : Option Addr) (m d : Nat) (s f : Int) : Value := .agg #[.slice ao n c, .slice bo m d, .int .i64 s, .int .i64 f]

theorem lg_int (s : Int) : ((lg s : Nat) : Int) = min (max s 0) 262144 := by
  unfold lg
  split
  · omega
  · split <;> omega

set_option maxHeartbeats 1000000 in
set_option maxRecDepth 100000 in
theorem cellSize_any (ao : Option Addr) (n c : Nat) (bo : Option Addr) (m d : Nat) (s f : Int) (p : Nat) (w : World) (x : It) (hk : x.key.length = n) (hs : x.size = s) (hp : p ≤ n) (hn : n ≤ 1000000) :
    Calls Try.prog 28 #[.agg #[.slice ao n c, .slice bo m d, .int .i64 s, .int .i64 f], .int .i64 p] w fun en w' => en = .returned (.int .i64 ((cl p x : Nat) : Int)) ∧ w.grownBy w' none := by
  obtain ⟨r, hr⟩ : ∃ r, n - p = r := ⟨_, rfl⟩
  have hr' : (n : Int) - (p : Int) = (r : Int) := by omega
  obtain ⟨M, hM⟩ : ∃ M, (if (0 : Int) > s then 0 else s) = M := ⟨_, rfl⟩
  obtain ⟨q, hq⟩ : ∃ q, lg s = q := ⟨_, rfl⟩
  have hq2 : (if (262144 : Int) < M then 262144 else M) = (q : Int) := by
    rw [← hq, lg_int, ← hM]
    split <;> split <;> omega
  have hmax : ∀ (ts : Array TypeId) (t : TypeId) (W : World), (Builtin.max_ ts t #[.int .i64 s, .int .i64 0]).run Try.prog W = .ok (.int .i64 M) W := fun ts t W => by rw [run_max_int2, hM]
  have hmin : ∀ (ts : Array TypeId) (t : TypeId) (W : World), (Builtin.min_ ts t #[.int .i64 M, .int .i64 262144]).run Try.prog W = .ok (.int .i64 q) W := fun ts t W => by rw [run_min_int2, hq2]
  have hlg : q ≤ 262144 := by rw [← hq]; exact lg_le s
  have HC : Hid (cl p x = vl r + r + vl (tg s) + tl s) := by show _ = _; unfold cl; rw [hk, hs, hr]
  have htg : (if 512 < q then 2 * q + 1 else 2 * q) = tg s := by unfold tg; rw [hq]
  have htl : tl s = if 512 < q then 4 else q := by unfold tl; rw [hq]
  have htt := tg_lt s
  have hv1 : (vform r).length ≤ 10 := vl_le r
  have hv2 : (vform (tg s)).length ≤ 10 := vl_le (tg s)
  clear hM hq hq2
  generalize tg s = g at *
  generalize tl s = l at *
  have HT := hid_intro htg
  have HTL := hid_intro htl
  have HR := hid_intro hr
  clear htg htl hr
  have G1 := hid_intro (World.grownBy_alloc w (.cells #[.slice ao n c, .slice bo m d, .int .i64 s, .int .i64 f] 48) none)
  go_enter Try.func28, Try.ntmps28
  go_wp2_with fail
  refine (vlen_calls r _ (by omega)).mono ?_
  rintro en w1 ⟨rfl, rfl⟩
  go_wp2_with fail
  refine (tagOf_any q _ hlg).mono ?_
  rintro en w1 ⟨rfl, rfl⟩
  rw [HT.out]
  go_wp2_with fail
  refine (vlen_calls g _ (by omega)).mono ?_
  rintro en w1 ⟨rfl, rfl⟩
  go_wp2_with fail
  refine (chained_any _ _).mono ?_
  rintro en w1 ⟨rfl, rfl⟩
  by_cases h5 : 512 < q
  · have hd : decide ((512 : Int) < (q : Int)) = true := decide_eq_true (by omega)
    rw [hd]
    go_wp2
    go_ret
    refine ⟨ret_int ?_, G1.out⟩
    rw [HC.out, HTL.out, if_pos h5]
    simp only [vl]
    go_num
  · have hd : decide ((512 : Int) < (q : Int)) = false := decide_eq_false (by omega)
    rw [hd]
    go_wp2
    go_ret
    refine ⟨ret_int ?_, G1.out⟩
    rw [HC.out, HTL.out, if_neg h5]
    simp only [vl]
    go_num

theorem size_int {L : List It} (hm : L.length ≤ 5000) (hk : ∀ x ∈ L, x.key.length ≤ 1000000) : ∀ i, i ≤ L.length → sums (pre L) (L.take i) ≤ 5005000000 := by
  intro i hi
  have h := sums_le (pre L) 1000000 (L.take i) (fun x hx => hk x (List.mem_of_mem_take hx))
  rw [List.length_take] at h
  have h2 : min i L.length * (1000000 + 534) ≤ 5000 * (1000000 + 534) := Nat.mul_le_mul_right _ (by omega)
  omega

set_option maxHeartbeats 2000000 in
set_option maxRecDepth 100000 in
/-- leaf.Size. -/
theorem size_any (a : Option Addr) (n cap : Nat) (L : List It) (w : World) (hl : Il w a L) (hn : L.length = n) (hm : n ≤ 5000) (hk : ∀ x ∈ L, x.key.length ≤ 1000000) :
    Calls Try.prog 12 #[.slice a n cap] w fun en w' => en = .returned (.int .i64 ((size L : Nat) : Int)) ∧ w.grownBy w' none := by
  have HL := hid_intro hl
  have HP : Hid (∀ x ∈ L, pre L ≤ x.key.length) := fun x hx => (pre_each x hx).1
  have HS := hid_intro (size_int (by omega) hk)
  have HM : Hid (size L = 3 + vl (pre L) + pre L + sums (pre L) L) := rfl
  have HN := hid_intro (fun i h => sums_snoc (pre L) L i h)
  have hv := vl_le (pre L)
  have hpl : pre L ≤ 1000000 := by
    cases L with
    | nil => exact Nat.zero_le _
    | cons x L => exact Nat.le_trans (pre_each x List.mem_cons_self).1 (hk x List.mem_cons_self)
  have HK := hid_intro hk
  clear hl hk
  go_enter Try.func12, Try.ntmps12
  go_wp2_with fail
  refine (common4_any a n cap L _ HL.out hn hm).mono ?_
  rintro en w1 ⟨rfl, hg1⟩
  have HG := hid_intro hg1
  clear hg1
  generalize pre L = p at *
  go_wp2_with fail
  refine (vlen_calls p _ (by omega)).mono ?_
  rintro en w2 ⟨rfl, rfl⟩
  have hv' : (vform p).length ≤ 10 := hv
  generalize hvv : (vform p).length = v at *
  have HV : Hid (vl p = v) := hvv
  clear hvv hv
  go_wp2
  go_loopw [4, 6, 17] (fun sn _ si wr => ∃ i : Nat, i ≤ n ∧ si = .int .i64 i ∧ sn = .int .i64 ((3 + v + p + sums p (L.take i) : Nat) : Int) ∧ w.grownBy wr none) (fun _ _ si _ => n - (intOf si).toNat)
  case atStart => exact ⟨0, Nat.zero_le _, rfl, by simp [sums], HG.out⟩
  case round =>
    obtain ⟨i, hi, rfl, rfl, hg⟩ := hrel
    have HG1 := hid_intro hg
    have b1 := HS.out i (by omega)
    clear hg HG
    by_cases hlt : i < n
    · obtain ⟨b, off, ao, m, c, bo, m2, d2, rfl, q2, q3, q4, q5, q6, q7, q8, q9, q10, q11⟩ := HL.out.row i (by omega)
      have c0 := HG1.out.cell q2 (by simp)
      have c1 := HG1.out.cell q3 (by simp)
      have c2 := HG1.out.cell q4 (by simp)
      have c3 := HG1.out.cell q5 (by simp)
      have hx := getD_mem (L := L) (i := i) (by omega)
      have hm1 := q6.len
      have hp1 := HP.out _ hx
      have hk1 := HK.out _ hx
      have b2 := cl_le p (L.getD i it0)
      have HX : Hid (sums p (L.take (i + 1)) = sums p (L.take i) + (2 + cl p (L.getD i it0))) := HN.out i (by omega)
      have HC := hid_intro (fun (W : World) => cellSize_any ao m c bo m2 d2 (L.getD i it0).size (L.getD i it0).first p W (L.getD i it0) hm1 rfl (by omega) (by omega))
      clear q2 q3 q4 q5 q6 q9
      generalize (L.getD i it0).size = sz at *
      generalize (L.getD i it0).first = fs at *
      generalize cl p (L.getD i it0) = C at *
      generalize sums p (L.take i) = U at *
      have G2 := hid_intro (World.grownBy_alloc wr (.cells #[.slice ao m c, .slice bo m2 d2, .int .i64 sz, .int .i64 fs] 48) none)
      clear hm1 hp1 hx
      go_wp2_with fail
      refine (HC.out _).mono ?_
      rintro en w2 ⟨rfl, hg2⟩
      have HG2 := hid_intro (grown_trans (grown_trans HG1.out G2.out) hg2)
      clear hg2 G2
      go_wp2
      go_roundw
      case rel => exact ⟨i + 1, by omega, by go_num, by rw [HX.out]; go_num, HG2.out⟩
      case measure => simp [intOf]; omega
    · have hin : i = n := by omega
      subst hin
      go_wp2
      go_ret
      refine ⟨ret_int ?_, HG1.out⟩
      rw [HM.out, HV.out, ← hn, List.take_length]
end Go.Proofs.Ytlfhonlifgpnhaa
