import Derived.Test.YthebdbdahdegfaaFirst
namespace Go.Proofs.Ythebdbdahdegfaa
open Go.RowKit

theorem ret_true {b : Bool} (h : b = true) : Ending.returned (.bool b) = .returned (.bool true) := by rw [h]

set_option maxHeartbeats 400000 in
theorem oneForm_long (ao : Option Addr) (n cap : Nat) (w : World) (hn : (65536 : Int) < (n : Int)) :
    Calls Try.prog 6 #[.slice ao n cap] w fun e w' => e = .returned (.bool true) ∧ Below w.heap.size w w' := by
  go_enter Try.func6, Try.ntmps6
  go_wp2_with fail
  refine (first_any _).mono ?_
  rintro en w1 ⟨rfl, hg⟩
  have HG : Hid (w.grownBy w1 none) := hg
  clear hg
  go_wp2
  go_ret
  exact ⟨rfl, Below_of HG.out⟩

set_option maxHeartbeats 1000000 in
theorem oneForm_bad (ao : Option Addr) (n cap : Nat) (zs : List Int) (er : Int) (w : World) (hb : Byt w ao n cap zs) (hbt : Bt zs) (hn : n ≤ 65536) (hv : rv zs = (0, 0, er)) (he : er = 10 ∨ er = 11 ∨ er = 12) :
    Calls Try.prog 6 #[.slice ao n cap] w fun e w' => e = .returned (.bool true) ∧ Below w.heap.size w w' := by
  have HB : Hid (Byt w ao n cap zs) := hb
  have HV : Hid (rv zs = (0, 0, er)) := hv
  have hne : (er != 0) = true := by rcases he with rfl | rfl | rfl <;> rfl
  have hnf : (er == 0) = false := by rcases he with rfl | rfl | rfl <;> rfl
  clear hb hv
  go_enter Try.func6, Try.ntmps6
  go_wp2_with fail
  refine (first_any _).mono ?_
  rintro en w1 ⟨rfl, hg⟩
  have G1 : Hid (w.grownBy w1 none) := hg
  have B1 : Hid (Byt w1 ao n cap zs) := HB.out.keptN hg
  clear hg HB
  go_wp2_with fail
  refine (newReader_any ao n cap zs _ B1.out (by omega)).mono ?_
  rintro en w2 ⟨R, rfl, hr, hg, hR⟩
  have G2 : Hid (w.grownBy w2 none) := grown_trans G1.out hg
  have R2 : Hid (Rd w2 R w1.heap.size zs 0 0) := hr
  have HWR : Hid (w.heap.size ≤ R) := by show w.heap.size ≤ R; have := G1.out.size; omega
  clear hr hg hR
  go_wp2_with fail
  refine (v_bad R _ zs 0 er _ R2.out hbt HV.out hne).mono ?_
  rintro en w3 ⟨rfl, hr, hg⟩
  have G3 : Hid (w.grownBy w3 none) := grown_new G2.out hg HWR.out
  have R3 : Hid (Rd w3 R w1.heap.size zs 0 er) := hr
  clear hr hg
  go_wp2_with fail
  refine (err_any R _ zs 0 er _ R3.out).mono ?_
  rintro en w4 ⟨rfl, hq⟩
  have G4 : Hid (w.grownBy w4 none) := grown_trans G3.out (hq.grown none)
  have R4 : Hid (Rd w4 R w1.heap.size zs 0 er) := R3.out.qt hq
  clear hq
  rcases he with rfl | rfl | rfl
  all_goals
    go_wp2_with (go_at_call 21; refine (num_any _ _).mono ?_; rintro en w5 ⟨rfl, rfl⟩)
    refine (left_broken R _ zs 0 _ _ R4.out rfl).mono ?_
    rintro en w6 ⟨rfl, hq⟩
    have G6 : Hid (w.grownBy w6 none) := grown_trans G4.out (hq.grown none)
    clear hq
    go_wp2
    go_ret
    exact ⟨rfl, Below_of G6.out⟩

set_option maxHeartbeats 1000000 in
theorem oneForm_good (ao : Option Addr) (n cap : Nat) (zs : List Int) (x k : Nat) (w : World) (hb : Byt w ao n cap zs) (hbt : Bt zs) (hn : n ≤ 65536) (hnc : n ≤ cap) (hcap : cap ≤ 9223372036854775807) (hv : rv zs = (x, k, 0)) :
    Calls Try.prog 6 #[.slice ao n cap] w fun e w' => e = .returned (.bool true) ∧ Below w.heap.size w w' := by
  have HB : Hid (Byt w ao n cap zs) := hb
  have HV : Hid (rv zs = (x, k, 0)) := hv
  obtain ⟨hx, hk, htk, hk1, hkn⟩ := rv_back zs x k hbt hv
  have HK : Hid (k = (vform x).length) := hk
  have HT : Hid (zs.take k = vform x) := htk
  have HL : Hid (zs.length = n) := hb.len
  rw [hb.len] at hkn
  obtain ⟨b, off, rfl, hbs, _⟩ := hb.at (by omega)
  clear hb hv hk htk
  go_enter Try.func6, Try.ntmps6
  go_wp2_with fail
  refine (first_any _).mono ?_
  rintro en w1 ⟨rfl, hg⟩
  have G1 : Hid (w.grownBy w1 none) := hg
  have B1 : Hid (Byt w1 (some ⟨b, off, none⟩) n cap zs) := HB.out.keptN hg
  clear hg HB
  go_wp2_with fail
  refine (newReader_any _ n cap zs _ B1.out (by omega)).mono ?_
  rintro en w2 ⟨R, rfl, hr, hg, hR⟩
  have G2 : Hid (w.grownBy w2 none) := grown_trans G1.out hg
  have B2 : Hid (Byt w2 (some ⟨b, off, none⟩) n cap zs) := B1.out.keptN hg
  have R2 : Hid (Rd w2 R w1.heap.size zs 0 0) := hr
  have HWR : Hid (w.heap.size ≤ R) := by show w.heap.size ≤ R; have := G1.out.size; omega
  have HWR1 : Hid (∀ ad, some (⟨b, off, none⟩ : Addr) = some ad → 0 < n → some ad.block ≠ some R) := by
    intro ad had h0 e
    obtain rfl := Option.some.inj had
    have e2 := Option.some.inj e
    have := G1.out.size
    simp only at e2
    omega
  clear hr hg hR B1
  go_wp2_with fail
  refine (v_ok R _ zs 0 x k _ R2.out hbt HV.out).mono ?_
  rintro en w3 ⟨rfl, hr, hg⟩
  have G3 : Hid (w.grownBy w3 none) := grown_new G2.out hg HWR.out
  have B3 : Hid (Byt w3 (some ⟨b, off, none⟩) n cap zs) := B2.out.kept hg HWR1.out
  have R3 : Hid (Rd w3 R w1.heap.size zs k 0) := by show Rd _ _ _ _ _ _; rwa [Nat.zero_add] at hr
  clear hr hg B2
  go_wp2_with fail
  refine (err_any R _ zs k 0 _ R3.out).mono ?_
  rintro en w4 ⟨rfl, hq⟩
  have G4 : Hid (w.grownBy w4 none) := grown_trans G3.out (hq.grown none)
  have R4 : Hid (Rd w4 R w1.heap.size zs k 0) := R3.out.qt hq
  have B4 : Hid (Byt w4 (some ⟨b, off, none⟩) n cap zs) := B3.out.keptN (hq.grown none)
  clear hq B3
  go_wp2_with (go_at_call 21; refine (num_any _ _).mono ?_; rintro en w5 ⟨rfl, rfl⟩)
  have P4 : Hid (∀ w6, w5.drew.grownBy w6 none → Byt w6 (some ⟨b, off, none⟩) k cap (zs.take k)) := fun w6 hg => ((B4.out.keptN (((Qt.refl w5).drew).grown none)).keptN hg).take k cap hkn (fun e => by cases e)
  have RR : Hid (∀ w6, w5.drew.grownBy w6 none → Rd w6 R w1.heap.size zs k 0 ∧ w.grownBy w6 none) := fun w6 hg => ⟨(R4.out.qt ((Qt.refl w5).drew)).kept hg (by simp) (by simp), grown_trans (grown_trans G4.out (((Qt.refl w5).drew).grown none)) hg⟩
  have hle : (n : Int) - (k : Int) = ((n - k : Nat) : Int) := by omega
  have HLE : Hid ((n : Int) - (k : Int) = ((n - k : Nat) : Int)) := hle
  clear hle
  go_region_with (first
    | (go_at_call 15; refine (putV_nil x _ hx).mono ?_; rintro en w6 ⟨rfl, hby, hg, hs⟩)
    | (go_at_call 12; refine (same_yes _ _ _ _ _ _ (vform x) (zs.take k) _ (by exact hby) (by exact P4.out _ hg) HT.out.symm).mono ?_; rintro en w7 ⟨rfl, rfl⟩))
  all_goals
    have HR6 : Hid _ := (RR.out _ hg).1
    have HG6 : Hid _ := (RR.out _ hg).2
    clear hg hby hs
    go_wp2_with fail
    refine (vlen_calls x _ hx).mono ?_
    rintro en w9 ⟨rfl, rfl⟩
    rw [← HK.out]
    go_wp2_with fail
    refine (left_whole R _ zs k _ HR6.out).mono ?_
    rintro en w8 ⟨rfl, hq⟩
    have HG8 : Hid (w.grownBy w8 none) := grown_trans HG6.out (hq.grown none)
    rw [HL.out]
    clear hq
    go_wp2
    go_ret
    refine ⟨ret_true ?_, Below_of HG8.out⟩
    rw [HLE.out, beq_self_eq_true]

theorem oneForm_walk (ao : Option Addr) (n cap : Nat) (zs : List Int) (w : World) (hb : Byt w ao n cap zs) (hbt : Bt zs) (hnc : n ≤ cap) (hcap : cap ≤ 9223372036854775807) :
    Calls Try.prog 6 #[.slice ao n cap] w fun e w' => e = .returned (.bool true) ∧ Below w.heap.size w w' := by
  by_cases hn : n ≤ 65536
  · rcases scan_err 10 0 0 zs with h | h
    · obtain ⟨x, k, e⟩ : ∃ x k, rv zs = (x, k, 0) := ⟨(rv zs).1, (rv zs).2.1, by rw [← h]; rfl⟩
      exact oneForm_good ao n cap zs x k w hb hbt hn hnc hcap e
    · obtain ⟨er, e, he⟩ : ∃ er, rv zs = (0, 0, er) ∧ (er = 10 ∨ er = 11 ∨ er = 12) := by
        rcases h with h | h | h
        · exact ⟨10, h, by omega⟩
        · exact ⟨11, h, by omega⟩
        · exact ⟨12, h, by omega⟩
      exact oneForm_bad ao n cap zs er w hb hbt hn e he
  · exact oneForm_long ao n cap w (by omega)
end Go.Proofs.Ythebdbdahdegfaa
