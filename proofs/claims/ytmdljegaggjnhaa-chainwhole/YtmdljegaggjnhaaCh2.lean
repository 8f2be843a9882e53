import Derived.Test.YtmdljegaggjnhaaCh1
namespace Go.Proofs.Ytmdljegaggjnhaa
open Go.RowKit

def oD (x : Int) (zs : List Int) : List Int := if eD x zs.length = 0 then dB x.toNat zs else []
theorem oD_no {x : Int} {zs : List Int} (h : eD x zs.length ≠ 0) : oD x zs = [] := by unfold oD; rw [if_neg h]
theorem oD_yes {x : Int} {zs : List Int} (h : eD x zs.length = 0) : oD x zs = dB x.toNat zs := by unfold oD; rw [if_pos h]
theorem oD_bt {x : Int} {zs : List Int} (h : Bt zs) : Bt (oD x zs) := by
  unfold oD; split
  · exact dB_bt h
  · exact Bt.nil
theorem dB_splice {x : Nat} {zs : List Int} (h : zs.length ≤ 4085) : splice (hz 3 x zs.length) 7 zs = dB x zs := by
  unfold hz dB
  have e : List.replicate 4085 (0 : Int) = List.replicate zs.length 0 ++ List.replicate (4085 - zs.length) 0 := by rw [List.replicate_append_replicate]; congr 1; omega
  rw [e, splice_mid (hd_len _ _ _) (by rw [List.length_replicate])]

set_option maxHeartbeats 1000000 in
set_option maxRecDepth 100000 in
theorem encodeData_any (x : Int) (ao : Option Addr) (n cap : Nat) (zs : List Int) (w : World) (hb : Byt w ao n cap zs) (hn : n ≤ 9223372036854775807) :
    Calls Try.prog 15 #[.int .i64 x, .slice ao n cap] w fun en w' => ∃ bo m, en = .returned (.tuple #[.slice bo m m, .int .i64 (eD x n)]) ∧ Byt w' bo m m (oD x zs) ∧ (0 < m → ∃ g, bo = some ⟨g, 0, none⟩ ∧ w.heap.size ≤ g ∧ Rw w' g (oD x zs)) ∧ w.grownBy w' none := by
  have hl := hb.len
  have HB := hid_intro hb
  clear hb
  cases hk : nOk x with
  | false =>
    have e : Hid (eD x n = 51) := by show _ = _; unfold eD; rw [if_pos hk]
    have e2 : Hid (oD x zs = []) := oD_no (by rw [hl, e.out]; decide)
    clear hl
    go_enter Try.func15, Try.ntmps15
    go_wp2_with fail
    refine (wrongNext_any x _).mono ?_
    rintro en w1 ⟨rfl, rfl⟩
    rw [hk]
    go_wp2
    go_ret2
    rw [e.out, e2.out]
    exact ⟨none, 0, rfl, Byt.empty _, fun h => by omega, World.grownBy.refl _ _⟩
  | true =>
    by_cases h0 : n = 0
    · subst h0
      have e : Hid (eD x 0 = 62) := by show _ = _; unfold eD; rw [if_neg (by rw [hk]; decide), if_pos (by rfl)]
      have e2 : Hid (oD x zs = []) := oD_no (by rw [hl, e.out]; decide)
      clear hl
      go_enter Try.func15, Try.ntmps15
      go_wp2_with fail
      refine (wrongNext_any x _).mono ?_
      rintro en w1 ⟨rfl, rfl⟩
      rw [hk]
      go_wp2
      go_ret2
      rw [e.out, e2.out]
      exact ⟨none, 0, rfl, Byt.empty _, fun h => by omega, World.grownBy.refl _ _⟩
    · have h0' : ((n : Int) == 0) = false := by simp [h0]
      cases hc : cnt x n 4085 with
      | true =>
        have e : Hid (eD x n = 62) := by show _ = _; unfold eD; rw [if_neg (by rw [hk]; decide), if_pos (by rw [hc]; simp)]
        have e2 : Hid (oD x zs = []) := oD_no (by rw [hl, e.out]; decide)
        clear hl
        go_enter Try.func15, Try.ntmps15
        go_wp2_with fail
        refine (wrongNext_any x _).mono ?_
        rintro en w1 ⟨rfl, rfl⟩
        rw [hk]
        go_wp2_with fail
        refine (wrongCount_any x n 4085 _).mono ?_
        rintro en w1 ⟨rfl, rfl⟩
        rw [hc]
        go_wp2
        go_ret2
        rw [e.out, e2.out]
        exact ⟨none, 0, rfl, Byt.empty _, fun h => by omega, World.grownBy.refl _ _⟩
      | false =>
        have e : Hid (eD x n = 0) := by show _ = _; unfold eD; rw [if_neg (by rw [hk]; decide), if_neg (by rw [hc]; simp [h0])]
        have e2 : Hid (oD x zs = dB x.toNat zs) := oD_yes (by rw [hl, e.out])
        have hm := (eD_zero e.out).2.2.1
        obtain ⟨y, hy, hy2⟩ := nOk_nat hk
        subst hy
        have e2 : Hid (oD y zs = dB y zs) := e2
        have e3 : Hid ((hz 3 y n).length = 4092) := hz_len _ _ _
        have e4 : Hid (splice (hz 3 y n) 7 zs = dB y zs) := by show _ = _; rw [← hl]; exact dB_splice (by omega)
        have e5 : Hid ((dB y zs).length = 4092) := dB_len (by omega)
        obtain ⟨Z, hZ⟩ : ∃ Z : List Int, Z = List.replicate 4092 0 := ⟨_, rfl⟩
        have hZl : Z.length = 4092 := by rw [hZ, List.length_replicate]
        have HZ := hid_intro hZ
        clear hZ hl
        go_enter Try.func15, Try.ntmps15
        go_wp2_with fail
        refine (wrongNext_any y _).mono ?_
        rintro en w1 ⟨rfl, rfl⟩
        rw [hk]
        go_wp2_with fail
        refine (wrongCount_any y n 4085 _).mono ?_
        rintro en w1 ⟨rfl, rfl⟩
        rw [hc]
        go_wp2_with fail
        refine (begun_any 3 y n _ (by omega) (by omega) (by omega)).mono ?_
        rintro en w2 ⟨rfl, hg2⟩
        have B2 := hid_intro (HB.out.keptN hg2)
        have HLT : Hid (∀ ad, ao = some ad → 0 < n → ad.block < w2.heap.size) := fun ad h1 h2 => (HB.out.keptN hg2).lt h1 h2
        have G2 := hid_intro hg2
        clear hg2 HB
        go_wp2_with (refine wpList_alloc_arr rfl rfl Z HZ.out ?_)
        intro w3 hr3 hg3 hs3
        have R3 := hid_intro hr3
        have B3 := hid_intro (B2.out.keptN hg3)
        have G3 := hid_intro (grown_trans G2.out hg3)
        have S2 := hid_intro G2.out.size
        clear hr3 hg3 hs3 B2 G2
        go_wp2_with (refine wpList_store_arr rfl _ _ rfl w2.heap.size Z (hz 3 y n) rfl rfl R3.out hZl e3.out ?_)
        intro w4 hr4 hg4 hs4
        have R4 := hid_intro hr4
        have B4 := hid_intro (B3.out.kept hg4 (fun ad h1 h2 e => by have := Option.some.inj e; have := HLT.out ad h1 h2; omega))
        have G4 := hid_intro (grown_new G3.out hg4 S2.out)
        clear hr4 hg4 hs4 R3 B3 G3
        go_wp2_with fail
        refine (cut_any w2.heap.size 0 4092 4092 7 n _ (by omega) (by omega)).mono ?_
        rintro en w5 ⟨⟨q, rfl, hq⟩, rfl⟩
        have hq := hq (by omega)
        subst hq
        go_wp2_with (refine wpList_copy_rt rfl _ _ rfl _ _ _ _ _ _ rfl rfl w2.heap.size 7 56 (hz 3 y n) zs R4.out B4.out (Nat.le_refl _) (fun _ => rfl) (by rw [e3.out]; omega) ?_)
        intro w6 hr6 hg6 hs6
        have hr6' : Rt w6 w2.heap.size 56 (dB y zs) := by rw [← e4.out]; exact hr6
        have B6 := hid_intro (hr6'.all 4092 4092 e5.out.symm)
        have G6 := hid_intro (grown_new G4.out hg6 S2.out)
        clear hr6 hr6' hg6 hs6 R4 B4 G4
        go_wp2_with fail
        refine (copyOf_any _ 4092 4092 (dB y zs) _ B6.out (by omega)).mono ?_
        rintro en w7 ⟨rfl, hr7, hg7⟩
        have R7 := hid_intro hr7
        have G7 := hid_intro (grown_trans G6.out hg7)
        clear hr7 hg7
        go_wp2
        go_ret2
        rw [e.out, e2.out]
        exact ⟨some ⟨w6.heap.size, 0, none⟩, 4092, rfl, R7.out.all 4092 4092 e5.out.symm, fun _ => ⟨_, rfl, G6.out.size, R7.out⟩, G7.out⟩
end Go.Proofs.Ytmdljegaggjnhaa
