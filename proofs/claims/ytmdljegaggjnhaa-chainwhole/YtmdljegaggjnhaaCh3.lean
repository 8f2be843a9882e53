import Derived.Test.YtmdljegaggjnhaaCh2
namespace Go.Proofs.Ytmdljegaggjnhaa
open Go.RowKit

set_option maxHeartbeats 1000000 in
set_option maxRecDepth 100000 in
theorem readHead_any (R G : Nat) (zs : List Int) (w : World) (h : Rd w R G zs 0 0) (hbt : Bt zs) (hl : zs.length = 4092) :
    Calls Try.prog 40 #[.pointer (some ⟨R, 0, none⟩)] w fun en w' => en = .returned (.tuple #[.int .i64 (rN zs : Nat), .int .i64 (rC zs : Nat)]) ∧ Rd w' R G zs 7 0 ∧ w.grownBy w' (some R) := by
  obtain ⟨x, hx⟩ : ∃ x, x = rN zs := ⟨_, rfl⟩
  obtain ⟨n, hn⟩ : ∃ n, n = rC zs := ⟨_, rfl⟩
  have hx2 : x < 4294967296 := by rw [hx]; exact rN_lt hbt
  have hn2 : n < 65536 := by rw [hn]; exact rC_lt hbt
  have hwx : IntKind.i64.wrap (x : Int) = (x : Int) := by simp [IntKind.wrap, IntKind.bits, IntKind.signed]; omega
  have hwn : IntKind.i64.wrap (n : Int) = (n : Int) := by simp [IntKind.wrap, IntKind.bits, IntKind.signed]; omega
  rw [← hx, ← hn]
  have HX := hid_intro hx
  have HN := hid_intro hn
  clear hx hn
  go_enter Try.func40, Try.ntmps40
  go_wp2_with fail
  refine (bytes_ok R G zs 0 1 _ h (by omega)).mono ?_
  rintro en w1 ⟨ao, rfl, _, _, hr1, hg1⟩
  have G1 := hid_intro hg1
  clear hg1 h
  go_wp2_with fail
  refine (get_u32_ok R G zs 1 _ hr1 hbt (by omega)).mono ?_
  rintro en w2 ⟨rfl, hr2, hg2⟩
  have hx : (le 4 (zs.drop 1) : Nat) = x := HX.out.symm
  rw [hx]
  have G2 := hid_intro (grown_trans G1.out hg2)
  clear hg2 hr1 G1 hx
  go_wp2_with fail
  refine (get_u16_ok R G zs 5 _ hr2 hbt (by omega)).mono ?_
  rintro en w3 ⟨rfl, hr3, hg3⟩
  have hn : (le 2 (zs.drop 5) : Nat) = n := HN.out.symm
  rw [hn]
  have G3 := hid_intro (grown_trans G2.out hg3)
  have R3 := hid_intro hr3
  clear hg3 hr2 G2 hn hr3
  go_wp2
  go_ret2
  exact ⟨rfl, R3.out, G3.out⟩

def vN (bs : List Int) : Int := if dD bs = true then (rN bs : Int) else 0
def vD (bs : List Int) : List Int := if dD bs = true then rD bs else []
def vE (bs : List Int) : Int := if dD bs = true then 0 else 60
theorem v_no {bs : List Int} (h : dD bs = false) : vN bs = 0 ∧ vD bs = [] ∧ vE bs = 60 := by unfold vN vD vE; rw [h]; exact ⟨rfl, rfl, rfl⟩
theorem v_yes {bs : List Int} (h : dD bs = true) : vN bs = (rN bs : Int) ∧ vD bs = rD bs ∧ vE bs = 0 := by unfold vN vD vE; rw [h]; exact ⟨rfl, rfl, rfl⟩
theorem sB_rD {zs : List Int} (hl : zs.length = 4092) : (sB zs (7, 0) ((rC zs : Nat) : Int)).1 = rD zs := by
  unfold sB rD
  rw [if_pos rfl]
  by_cases h : rC zs ≤ 4085
  · rw [if_neg (by simp only; omega), if_pos h]; simp
  · rw [if_pos (by simp only; omega), if_neg h]
theorem rD_bt {zs : List Int} (h : Bt zs) : Bt (rD zs) := by
  unfold rD; split
  · exact (h.drop _).take _
  · exact Bt.nil
theorem dD_iff {zs : List Int} (hl : zs.length = 4092) : dD zs = true ↔ eD (rN zs) (rD zs).length = 0 ∧ oD (rN zs) (rD zs) = zs := by
  constructor
  · intro h
    obtain ⟨_, h2, h3⟩ := dD_parts h
    exact ⟨h2, by rw [oD_yes h2]; exact h3⟩
  · rintro ⟨h1, h2⟩
    rw [oD_yes h1] at h2
    have h3 : dB (rN zs) (rD zs) = zs := h2
    simp [dD, hl, h1, h3]

set_option maxHeartbeats 2000000 in
set_option maxRecDepth 100000 in
theorem decodeData_any (ao : Option Addr) (n cap : Nat) (zs : List Int) (w : World) (hb : Byt w ao n cap zs) (hbt : Bt zs) :
    Calls Try.prog 21 #[.slice ao n cap] w fun en w' => ∃ bo m, en = .returned (.tuple #[.int .i64 (vN zs), .slice bo m m, .int .i64 (vE zs)]) ∧ Byt w' bo m m (vD zs) ∧ (0 < m → bo = some ⟨w.heap.size, 7, none⟩) ∧ w.grownBy w' none := by
  have hl := hb.len
  have HB := hid_intro hb
  clear hb
  by_cases h0 : n = 4092
  · subst h0
    have hrd := sB_rD hl
    have HRB := hid_intro (rD_bt hbt)
    have HIF := hid_intro (dD_iff hl)
    obtain ⟨x, hx⟩ : ∃ x, x = rN zs := ⟨_, rfl⟩
    obtain ⟨c, hc⟩ : ∃ c, c = rC zs := ⟨_, rfl⟩
    have HX := hid_intro hx
    have HC := hid_intro hc
    rw [← hc] at hrd
    have HRD := hid_intro hrd
    clear hx hc hrd
    go_enter Try.func21, Try.ntmps21
    go_wp2_with fail
    refine (newReader_any ao 4092 cap zs _ HB.out (by omega)).mono ?_
    rintro en w1 ⟨R, rfl, hr1, hg1, hs1⟩
    have B1 := hid_intro (HB.out.keptN hg1)
    have HLT : Hid (∀ ad, ao = some ad → 0 < 4092 → ad.block < w.heap.size) := fun ad h1 h2 => HB.out.lt h1 h2
    have G1 := hid_intro hg1
    clear hg1
    go_wp2_with fail
    refine (readHead_any R w.heap.size zs _ hr1 hbt hl).mono ?_
    rw [← HX.out, ← HC.out]
    rintro en w2 ⟨rfl, hr2, hg2⟩
    have B2 := hid_intro (B1.out.kept hg2 (fun ad h1 h2 e => by have := HLT.out ad h1 (by omega); have := Option.some.inj e; omega))
    have G2 := hid_intro (grown_new G1.out hg2 (by omega))
    clear hg2 hr1 G1 B1
    go_wp2_with fail
    refine (rd_B R w.heap.size zs (7, 0) (c : Int) _ hr2).mono ?_
    rw [HRD.out]
    rintro en w3 ⟨⟨bo, k, rfl, hb3, hp3, hk3⟩, _, hg3⟩
    have B3 := hid_intro (B2.out.kept hg3 (fun ad h1 h2 e => by have := HLT.out ad h1 (by omega); have := Option.some.inj e; omega))
    have G3 := hid_intro (grown_new G2.out hg3 (by omega))
    have D3 := hid_intro hb3
    have hk := hb3.len
    have P3 := hid_intro hp3
    clear hg3 hr2 G2 B2 hb3 hp3
    go_wp2_with fail
    refine (encodeData_any (x : Int) bo k k (rD zs) _ D3.out (by omega)).mono ?_
    rintro en w4 ⟨so, m, rfl, hb4, _, hg4⟩
    have B4 := hid_intro (B3.out.keptN hg4)
    have G4 := hid_intro (grown_trans G3.out hg4)
    have D4 := hid_intro (D3.out.keptN hg4)
    have S4 := hid_intro hb4
    rw [← hk]
    obtain ⟨er, her⟩ : ∃ er, er = eD (x : Int) (rD zs).length := ⟨_, rfl⟩
    rw [← her]
    have HER := hid_intro her
    have HK := hid_intro hk
    clear hg4 G3 B3 D3 hb4 her hk
    by_cases he : er = 0
    · subst he
      by_cases hq : oD (x : Int) (rD zs) = zs
      · have HT : Hid (dD zs = true) := HIF.out.2 ⟨by rw [← HX.out]; exact HER.out.symm, by rw [← HX.out]; exact hq⟩
        have HQ := hid_intro hq
        clear hq
        go_wp2_with fail
        refine (equal_yes so ao m 4092 m cap _ _ _ S4.out B4.out HQ.out).mono ?_
        rintro en w5 ⟨rfl, rfl⟩
        go_wp2
        go_ret3
        rw [(v_yes HT.out).1, (v_yes HT.out).2.1, (v_yes HT.out).2.2, ← HX.out]
        exact ⟨bo, k, by rw [HK.out]; rfl, D4.out, P3.out, G4.out⟩
      · have HT : Hid (dD zs = false) := by
          cases hh : dD zs with
          | false => rfl
          | true => exact absurd (by rw [HX.out]; exact (HIF.out.1 hh).2) hq
        have HQ := hid_intro hq
        clear hq
        go_wp2_with fail
        refine (equal_no so ao m 4092 m cap _ _ _ S4.out B4.out (oD_bt HRB.out) hbt HQ.out).mono ?_
        rintro en w5 ⟨rfl, rfl⟩
        go_wp2
        go_ret3
        rw [(v_no HT.out).1, (v_no HT.out).2.1, (v_no HT.out).2.2]
        exact ⟨none, 0, rfl, Byt.empty _, fun h => by omega, G4.out⟩
    · have HT : Hid (dD zs = false) := by
        cases hh : dD zs with
        | false => rfl
        | true => exact absurd (by rw [HER.out, HX.out]; exact (HIF.out.1 hh).1) he
      have he2 : (er == 0) = false := by simp [he]
      have he3 : (er != 0) = true := by simp [he]
      go_wp2
      go_ret3
      rw [(v_no HT.out).1, (v_no HT.out).2.1, (v_no HT.out).2.2]
      exact ⟨none, 0, rfl, Byt.empty _, fun h => by omega, G4.out⟩
  · have HT : Hid (dD zs = false) := by show _ = _; simp [dD, hl, h0]
    have h0' : ¬ (n : Int) = 4092 := by omega
    go_enter Try.func21, Try.ntmps21
    go_wp2
    go_ret3
    rw [(v_no HT.out).1, (v_no HT.out).2.1, (v_no HT.out).2.2]
    exact ⟨none, 0, rfl, Byt.empty _, fun h => by omega, World.grownBy.refl _ _⟩
end Go.Proofs.Ytmdljegaggjnhaa
