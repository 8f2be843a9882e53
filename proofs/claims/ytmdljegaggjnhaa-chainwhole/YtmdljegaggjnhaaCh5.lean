import Derived.Test.YtmdljegaggjnhaaCh4
namespace Go.Proofs.Ytmdljegaggjnhaa
open Go.RowKit

def oL (x : Int) (xs : List Int) : List Int := if eL x xs = 0 then lB x.toNat xs else []
theorem oL_no {x : Int} {xs : List Int} (h : eL x xs ≠ 0) : oL x xs = [] := by unfold oL; rw [if_neg h]
theorem oL_yes {x : Int} {xs : List Int} (h : eL x xs = 0) : oL x xs = lB x.toNat xs := by unfold oL; rw [if_pos h]
theorem oL_bt (x : Int) (xs : List Int) : Bt (oL x xs) := by
  unfold oL; split
  · exact lB_bt _ _
  · exact Bt.nil
/-- The body with the first i numbers laid. -/
def lP (x : Nat) (xs : List Int) (i : Nat) : List Int := hd 4 x xs.length ++ (fl (xs.take i) ++ List.replicate (4085 - 4 * i) 0)
theorem lP_zero (x : Nat) (xs : List Int) : lP x xs 0 = hz 4 x xs.length := by unfold lP hz; rw [List.take_zero, fl_nil, List.nil_append]
theorem lP_last (x : Nat) (xs : List Int) : lP x xs xs.length = lB x xs := by unfold lP lB; rw [List.take_length]
theorem lP_len {x : Nat} {xs : List Int} {i : Nat} (h : i ≤ xs.length) (h2 : xs.length ≤ 1021) : (lP x xs i).length = 4092 := by
  unfold lP; rw [List.length_append, List.length_append, hd_len, fl_len, List.length_take, List.length_replicate]; omega
theorem ntake {xs : List Int} {i : Nat} (hi : i < xs.length) : xs.take (i + 1) = xs.take i ++ [xs.getD i 0] := by
  rw [List.take_add_one, List.getElem?_eq_getElem hi]
  simp [List.getD, List.getElem?_eq_getElem hi]
theorem lP_next {x : Nat} {xs : List Int} {i : Nat} (hi : i < xs.length) (h2 : xs.length ≤ 1021) : splice (lP x xs i) (7 + 4 * i) (lb 4 (xs.getD i 0).toNat) = lP x xs (i + 1) := by
  unfold lP
  have e : List.replicate (4085 - 4 * i) (0 : Int) = List.replicate 4 0 ++ List.replicate (4085 - 4 * (i + 1)) 0 := by rw [List.replicate_append_replicate]; congr 1; omega
  have hl : (hd 4 x xs.length ++ fl (xs.take i)).length = 7 + 4 * i := by rw [List.length_append, hd_len, fl_len, List.length_take]; omega
  rw [e, ← List.append_assoc (hd 4 x xs.length), splice_mid hl (by rw [List.length_replicate, lb_len]), ntake hi, fl_app, fl_cons, fl_nil, List.append_nil, List.append_assoc, List.append_assoc]

set_option maxHeartbeats 2000000 in
set_option maxRecDepth 100000 in
theorem encodeList_any (x : Int) (ao : Option Addr) (n cap : Nat) (xs : List Int) (w : World) (hb : Nt w ao xs) (hl : xs.length = n) (hn : n ≤ 9223372036854775806) :
    Calls Try.prog 19 #[.int .i64 x, .slice ao n cap] w fun en w' => ∃ bo m, en = .returned (.tuple #[.slice bo m m, .int .i64 (eL x xs)]) ∧ Byt w' bo m m (oL x xs) ∧ (0 < m → ∃ g, bo = some ⟨g, 0, none⟩ ∧ w.heap.size ≤ g ∧ Rw w' g (oL x xs)) ∧ w.grownBy w' none := by
  have HB := hid_intro hb
  clear hb
  cases hk : nOk x with
  | false =>
    have e : Hid (eL x xs = 51) := by show _ = _; unfold eL; rw [if_pos hk]
    have e2 : Hid (oL x xs = []) := oL_no (by rw [e.out]; decide)
    go_enter Try.func19, Try.ntmps19
    go_wp2_with fail
    refine (wrongNext_any x _).mono ?_
    rintro en w ⟨rfl, rfl⟩
    rw [hk]
    go_wp2
    go_ret2
    rw [e.out, e2.out]
    exact ⟨none, 0, rfl, Byt.empty _, fun h => by omega, World.grownBy.refl _ _⟩
  | true =>
    have HBD : Hid (badL x xs = (cnt x n 1021 || (!(xs.all inR) || !(ris xs)))) := by show _ = _; rw [← hl]; rfl
    have EB : Hid (badL x xs = true → eL x xs = 63) := fun h => by unfold eL; rw [if_neg (by rw [hk]; decide), if_pos h]
    cases hc : cnt x n 1021 with
    | true =>
      have e : Hid (eL x xs = 63) := EB.out (by rw [HBD.out, hc]; rfl)
      have e2 : Hid (oL x xs = []) := oL_no (by rw [e.out]; decide)
      go_enter Try.func19, Try.ntmps19
      go_wp2_with fail
      refine (wrongNext_any x _).mono ?_
      rintro en w ⟨rfl, rfl⟩
      rw [hk]
      go_wp2_with fail
      refine (wrongCount_any x n 1021 _).mono ?_
      rintro en w ⟨rfl, rfl⟩
      rw [hc]
      go_wp2
      go_ret2
      rw [e.out, e2.out]
      exact ⟨none, 0, rfl, Byt.empty _, fun h => by omega, World.grownBy.refl _ _⟩
    | false =>
      cases ha : xs.all inR with
      | false =>
        have e : Hid (eL x xs = 63) := EB.out (by rw [HBD.out, hc, ha]; rfl)
        have e2 : Hid (oL x xs = []) := oL_no (by rw [e.out]; decide)
        go_enter Try.func19, Try.ntmps19
        go_wp2_with fail
        refine (wrongNext_any x _).mono ?_
        rintro en w ⟨rfl, rfl⟩
        rw [hk]
        go_wp2_with fail
        refine (wrongCount_any x n 1021 _).mono ?_
        rintro en w ⟨rfl, rfl⟩
        rw [hc]
        go_wp2_with fail
        refine (contains_no ao n cap xs _ HB.out hl (by omega)).mono ?_
        rintro en w ⟨rfl, rfl⟩
        rw [ha]
        go_wp2
        go_ret2
        rw [e.out, e2.out]
        exact ⟨none, 0, rfl, Byt.empty _, fun h => by omega, World.grownBy.refl _ _⟩
      | true =>
        cases hr : ris xs with
        | false =>
          have e : Hid (eL x xs = 63) := EB.out (by rw [HBD.out, hc, ha, hr]; rfl)
          have e2 : Hid (oL x xs = []) := oL_no (by rw [e.out]; decide)
          go_enter Try.func19, Try.ntmps19
          go_wp2_with fail
          refine (wrongNext_any x _).mono ?_
          rintro en w ⟨rfl, rfl⟩
          rw [hk]
          go_wp2_with fail
          refine (wrongCount_any x n 1021 _).mono ?_
          rintro en w ⟨rfl, rfl⟩
          rw [hc]
          go_wp2_with fail
          refine (contains_no ao n cap xs _ HB.out hl (by omega)).mono ?_
          rintro en w ⟨rfl, rfl⟩
          rw [ha]
          go_wp2_with fail
          refine (rising_any ao n cap xs _ HB.out hl hn).mono ?_
          rintro en w1 ⟨rfl, hq⟩
          rw [hr]
          go_wp2
          go_ret2
          rw [e.out, e2.out]
          exact ⟨none, 0, rfl, Byt.empty _, fun h => by omega, hq.grown none⟩
        | true =>
          have e : Hid (eL x xs = 0) := by show _ = _; unfold eL; rw [if_neg (by rw [hk]; decide), if_neg (by rw [HBD.out, hc, ha, hr]; decide)]
          have e2 : Hid (oL x xs = lB x.toNat xs) := oL_yes e.out
          have hm : n ≤ 1021 := by rw [← hl]; exact (eL_zero e.out).2.1
          obtain ⟨y, hy, hy2⟩ := nOk_nat hk
          subst hy
          have e2 : Hid (oL y xs = lB y xs) := e2
          have e3 : Hid ((hz 4 y n).length = 4092) := hz_len _ _ _
          have e4 : Hid (lP y xs 0 = hz 4 y n) := by show _ = _; rw [← hl]; exact lP_zero _ _
          have e5 : Hid ((lB y xs).length = 4092) := lB_len (by omega)
          have e6 : Hid (lP y xs n = lB y xs) := by show _ = _; rw [← hl]; exact lP_last _ _
          have e7 : Hid (∀ i, i ≤ n → (lP y xs i).length = 4092) := fun i hi => lP_len (by omega) (by omega)
          have e8 : Hid (∀ i, i < n → splice (lP y xs i) (7 + 4 * i) (lb 4 (xs.getD i 0).toNat) = lP y xs (i + 1)) := fun i hi => lP_next (by omega) (by omega)
          have e9 : Hid (∀ i, i < n → ∃ v : Nat, xs.getD i 0 = (v : Int) ∧ v ≤ 524286) := fun i hi => by
            have := inR_iff.1 (List.all_eq_true.1 ha _ (nget_mem (show i < xs.length by omega)))
            exact ⟨(xs.getD i 0).toNat, by omega, by omega⟩
          obtain ⟨Z, hZ⟩ : ∃ Z : List Int, Z = List.replicate 4092 0 := ⟨_, rfl⟩
          have hZl : Z.length = 4092 := by rw [hZ, List.length_replicate]
          have HZ := hid_intro hZ
          clear hZ HBD EB
          go_enter Try.func19, Try.ntmps19
          go_wp2_with fail
          refine (wrongNext_any y _).mono ?_
          rintro en w ⟨rfl, rfl⟩
          rw [hk]
          go_wp2_with fail
          refine (wrongCount_any y n 1021 _).mono ?_
          rintro en w ⟨rfl, rfl⟩
          rw [hc]
          go_wp2_with fail
          refine (contains_no ao n cap xs _ HB.out hl (by omega)).mono ?_
          rintro en w ⟨rfl, rfl⟩
          rw [ha]
          go_wp2_with fail
          refine (rising_any ao n cap xs _ HB.out hl hn).mono ?_
          rintro en w1 ⟨rfl, hq⟩
          rw [hr]
          have G1 := hid_intro (hq.grown none)
          clear hq
          go_wp2_with fail
          refine (begun_any 4 y n _ (by omega) (by omega) (by omega)).mono ?_
          rintro en w2 ⟨rfl, hg2⟩
          have G2 := hid_intro (grown_trans G1.out hg2)
          clear hg2 G1
          go_wp2_with (refine wpList_alloc_arr rfl rfl Z HZ.out ?_)
          intro w3 hr3 hg3 hs3
          have R3 := hid_intro hr3
          have G3 := hid_intro (grown_trans G2.out hg3)
          have S2 := hid_intro G2.out.size
          clear hr3 hg3 hs3 G2
          go_wp2_with (refine wpList_store_arr rfl _ _ rfl w2.heap.size Z (hz 4 y n) rfl rfl R3.out hZl e3.out ?_)
          intro w4 hr4 hg4 hs4
          have hr4' : Rt w4 w2.heap.size 56 (lP y xs 0) := by rw [e4.out]; exact hr4
          have R4 := hid_intro hr4'
          have G4 := hid_intro (grown_new G3.out hg4 S2.out)
          clear hr4 hr4' hg4 hs4 R3 G3
          go_wp2
          go_loopw [7, 8, 32] (fun _ _ si wr => ∃ i : Nat, i ≤ n ∧ si = .int .i64 i ∧ Rt wr w2.heap.size 56 (lP y xs i) ∧ w.grownBy wr none) (fun _ _ si _ => n - (intOf si).toNat)
          case atStart => exact ⟨0, Nat.zero_le _, rfl, R4.out, G4.out⟩
          case round =>
            obtain ⟨i, hi, rfl, hri, hgi⟩ := hrel
            have RI := hid_intro hri
            have GI := hid_intro hgi
            clear hri hgi
            by_cases hlt : i < n
            · obtain ⟨b, off, rfl, c0⟩ := (HB.out.keptN GI.out).row i (by omega)
              obtain ⟨v, hv, hv2⟩ := e9.out i hlt
              have HN := hid_intro (e8.out i hlt)
              have HLN := hid_intro (e7.out i hi)
              rw [hv] at HN c0
              rw [Int.toNat_natCast] at HN
              clear hv
              have hwv : IntKind.u32.wrap (v : Int) = (v : Int) := by simp [IntKind.wrap, IntKind.bits, IntKind.signed]; omega
              go_wp2_with fail
              refine (cut_at w2.heap.size 0 4092 4092 (7 + 4 * i) 4 _ _ (by omega) (by omega) (by omega)).mono ?_
              rintro en wr ⟨⟨q, rfl, hq⟩, rfl⟩
              have hq := hq (by omega)
              rw [Nat.zero_add] at hq
              rw [hq]
              clear hq
              go_wp2_with fail
              refine (put_u32_nil v _ (by omega)).mono ?_
              rintro en w5 ⟨rfl, hb5, hg5, _⟩
              have R5 := hid_intro (RI.out.keptN hg5)
              have B5 := hid_intro hb5
              have G5 := hid_intro (grown_trans GI.out hg5)
              clear hb5 hg5 RI GI
              go_wp2_with (refine wpList_copy_rt rfl _ _ rfl _ _ _ _ _ _ rfl rfl w2.heap.size (7 + 4 * i) 56 (lP y xs i) (lb 4 v) R5.out B5.out (Nat.le_refl _) (fun _ => rfl) (by rw [HLN.out]; omega) ?_)
              intro w6 hr6 hg6 hs6
              have hr6' : Rt w6 w2.heap.size 56 (lP y xs (i + 1)) := by rw [← HN.out]; exact hr6
              have R6 := hid_intro hr6'
              have G6 := hid_intro (grown_new G5.out hg6 S2.out)
              clear hr6 hr6' hg6 hs6 R5 B5 G5
              go_wp2
              go_roundw
              case rel => exact ⟨i + 1, by omega, by go_num, R6.out, G6.out⟩
              case measure => simp [intOf]; omega
            · have hin : i = n := by omega
              subst hin
              have hri : Rt wr w2.heap.size 56 (lB y xs) := by rw [← e6.out]; exact RI.out
              have B6 := hid_intro (hri.all 4092 4092 e5.out.symm)
              clear hri
              go_wp2_with fail
              refine (copyOf_any _ 4092 4092 (lB y xs) _ B6.out (by omega)).mono ?_
              rintro en w7 ⟨rfl, hr7, hg7⟩
              have R7 := hid_intro hr7
              have G7 := hid_intro (grown_trans GI.out hg7)
              clear hr7 hg7
              go_wp2
              go_ret2
              rw [e.out, e2.out]
              exact ⟨some ⟨wr.heap.size, 0, none⟩, 4092, rfl, R7.out.all 4092 4092 e5.out.symm, fun _ => ⟨_, rfl, GI.out.size, R7.out⟩, G7.out⟩
end Go.Proofs.Ytmdljegaggjnhaa
