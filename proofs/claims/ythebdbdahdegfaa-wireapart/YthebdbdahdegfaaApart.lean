import Derived.Test.YthebdbdahdegfaaApp
namespace Go.Proofs.Ythebdbdahdegfaa
open Go.RowKit

theorem vform_bt (x : Nat) : Bt (vform x) := lf_bt 10 x

/-- No least form begins another one. -/
theorem vform_apart (x y n : Nat) (hx : x < 18446744073709551616) (hy : y < 18446744073709551616) (hn : n = min (vform x).length (vform y).length) (h : (vform x).take n = (vform y).take n) : x = y := by
  rcases Nat.le_total (vform x).length (vform y).length with hl | hl
  · rw [Nat.min_eq_left hl] at hn
    subst hn
    rw [List.take_of_length_le (Nat.le_refl _)] at h
    have e : vform y = vform x ++ (vform y).drop (vform x).length := by
      conv => lhs; rw [← List.take_append_drop (vform x).length (vform y)]
      rw [← h]
    have h1 := rv_vform y [] hy
    have h2 := rv_vform x ((vform y).drop (vform x).length) hx
    rw [List.append_nil, e, h2] at h1
    exact (Prod.mk.inj h1).1
  · rw [Nat.min_eq_right hl] at hn
    subst hn
    rw [List.take_of_length_le (Nat.le_refl (vform y).length)] at h
    have e : vform x = vform y ++ (vform x).drop (vform y).length := by
      conv => lhs; rw [← List.take_append_drop (vform y).length (vform x)]
      rw [h]
    have h1 := rv_vform x [] hx
    have h2 := rv_vform y ((vform x).drop (vform y).length) hy
    rw [List.append_nil, e, h2] at h1
    exact (Prod.mk.inj h1).1.symm

set_option maxHeartbeats 400000 in
theorem apart_long (x y : Nat) (ao : Option Addr) (m c : Nat) (w : World) (hn : (65536 : Int) < (m : Int)) :
    Calls Try.prog 7 #[.int .u64 x, .int .u64 y, .slice ao m c] w fun e w' => e = .returned (.bool true) ∧ Below w.heap.size w w' := by
  go_enter Try.func7, Try.ntmps7
  go_wp2_with fail
  refine (first_any _).mono ?_
  rintro en w1 ⟨rfl, hg⟩
  have HG : Hid (w.grownBy w1 none) := hg
  clear hg
  go_wp2
  go_ret
  exact ⟨rfl, Below_of HG.out⟩

set_option maxHeartbeats 2000000 in
set_option maxRecDepth 100000 in
theorem apart_eq (x : Nat) (hx : x < 18446744073709551616) (ao : Option Addr) (m c : Nat) (ts : List Int) (w : World) (hb : Byt w ao m c ts) (hbt : Bt ts) (hm : m ≤ 65536) :
    Calls Try.prog 7 #[.int .u64 x, .int .u64 x, .slice ao m c] w fun e w' => e = .returned (.bool true) ∧ Below w.heap.size w w' := by
  have HB : Hid (Byt w ao m c ts) := hb
  have A0 : Hid (Byt w ao m c ts) := hb
  have hlx := vform_le x
  have hlx1 := vform_pos x
  have hly := vform_le x
  have hly1 := vform_pos x
  clear hb
  go_enter Try.func7, Try.ntmps7
  go_wp2_with fail
  refine (first_any _).mono ?_
  rintro en w1 ⟨rfl, hg⟩
  have G1 : Hid (w.grownBy w1 none) := hg
  have B1 : Hid (Byt w1 ao m c ts) := HB.out.keptN hg
  clear hg HB
  go_wp2_with fail
  refine (putV_nil x _ hx).mono ?_
  rintro en w2 ⟨rfl, hby, hg, hs2⟩
  have A2 : Hid (Byt w2 (some ⟨w1.heap.size, 0, none⟩) (vform x).length (vform x).length (vform x)) := hby
  have G2 : Hid (w.grownBy w2 none) := grown_trans G1.out hg
  have B2 : Hid (Byt w2 ao m c ts) := B1.out.keptN hg
  clear hby hg B1
  go_wp2_with fail
  refine (putV_nil x _ hx).mono ?_
  rintro en w3 ⟨rfl, hby, hg, hs3⟩
  have A3 : Hid (Byt w3 (some ⟨w1.heap.size, 0, none⟩) (vform x).length (vform x).length (vform x)) := A2.out.keptN hg
  have C3 : Hid (Byt w3 (some ⟨w2.heap.size, 0, none⟩) (vform x).length (vform x).length (vform x)) := hby
  have G3 : Hid (w.grownBy w3 none) := grown_trans G2.out hg
  have B3 : Hid (Byt w3 ao m c ts) := B2.out.keptN hg
  clear hby hg B2 A2
  have PA : Hid (∀ W : World, W.heap = w3.heap → Byt W (some ⟨w1.heap.size, 0, none⟩) (vform x).length (vform x).length ((vform x).take (vform x).length)) := fun W h => (A3.out.take (vform x).length _ (by omega) (fun e => by cases e)).heap h
  have PB : Hid (∀ W : World, W.heap = w3.heap → Byt W (some ⟨w2.heap.size, 0, none⟩) (vform x).length (vform x).length ((vform x).take (vform x).length)) := fun W h => (C3.out.take (vform x).length _ (by omega) (fun e => by cases e)).heap h
  go_wp2_with fail
  go_region_with (go_at_call 12; refine (same_yes _ _ _ _ _ _ ((vform x).take (vform x).length) ((vform x).take (vform x).length) _ (by exact PA.out _ rfl) (by exact PB.out _ rfl) rfl).mono ?_; rintro en w4 ⟨rfl, rfl⟩)
  have A4 : Hid (Byt w3.drew (some ⟨w1.heap.size, 0, none⟩) (vform x).length (vform x).length (vform x)) := A3.out.heap rfl
  have G4 : Hid (w.grownBy w3.drew none) := grown_trans G3.out (((Qt.refl w3).drew).grown none)
  have B4 : Hid (Byt w3.drew ao m c ts) := B3.out.heap rfl
  clear A3 B3
  go_wp2_with fail
  refine (refBytes_any _ _ _ (vform x) _ A4.out (by omega)).mono ?_
  rintro en w5 ⟨rfl, hown, hg, hs5⟩
  have hs6 : w3.heap.size < w5.heap.size := hs5
  have G5 : Hid (w.grownBy w5 none) := grown_trans G4.out hg
  have B5 := B4.out.keptN hg
  clear hg B4 A4
  go_wp2_with (at_builtin; refine wpList_append_byt rfl _ _ rfl w3.heap.size _ (vform x).length (vform x) rfl hown ao m c ts rfl B5 (by omega) (by omega) ?_)
  intro v' w6 hown6 hg6
  obtain ⟨g, cap, hv, hbg, hgs, hcap⟩ := owns_shape hown6 (by omega)
  subst hv
  have hsz4 : w.heap.size ≤ w3.heap.size := G3.out.size
  have F6 : Hid (Byt w6 (some ⟨g, 0, none⟩) ((vform x).length + m) cap (vform x ++ ts)) := Byt.of_owns (by rw [List.map_append]; exact hown6)
  have G6 : Hid (w.grownBy w6 none) := grown_new G5.out hg6 hsz4
  have B6 : Hid (Byt w6 ao m c ts) := by
    refine B5.kept hg6 ?_
    intro ad had h0 e
    obtain ⟨b, off, hbo, hlt, _⟩ := A0.out.at h0
    rw [had] at hbo
    have e1 := Option.some.inj hbo
    have e2 := Option.some.inj e
    rw [e1] at e2
    simp only at e2
    omega
  clear hown6 hg6 hown B5
  have hlen : (vform x ++ ts).length = (vform x).length + m := by rw [List.length_append, A0.out.len]
  have HLEN : Hid ((vform x ++ ts).length = (vform x).length + m) := hlen
  have hsz6 : w.heap.size ≤ w6.heap.size := G6.out.size
  clear hlen
  go_wp2_with fail
  refine (newReader_any _ _ _ (vform x ++ ts) _ F6.out (by omega)).mono ?_
  rintro en w7 ⟨R, rfl, hr, hg, hR⟩
  have G7 : Hid (w.grownBy w7 none) := grown_trans G6.out hg
  have B7 : Hid (Byt w7 ao m c ts) := B6.out.keptN hg
  have R7 : Hid (Rd w7 R w6.heap.size (vform x ++ ts) 0 0) := hr
  have HWR : Hid (w.heap.size ≤ R) := by show w.heap.size ≤ R; omega
  have HTB : Hid (∀ ad, ao = some ad → 0 < m → some ad.block ≠ some R) := by
    intro ad had h0 e
    obtain ⟨b, off, hbo, hlt, _⟩ := A0.out.at h0
    rw [had] at hbo
    have e1 := Option.some.inj hbo
    have e2 := Option.some.inj e
    rw [e1] at e2
    simp only at e2
    omega
  have HBT : Hid (Bt (vform x ++ ts)) := (vform_bt x).app hbt
  clear hr hg hR B6 F6
  go_wp2_with fail
  refine (v_ok R _ (vform x ++ ts) 0 x (vform x).length _ R7.out HBT.out (rv_vform x ts hx)).mono ?_
  rintro en w8 ⟨rfl, hr, hg⟩
  have G8 : Hid (w.grownBy w8 none) := grown_new G7.out hg HWR.out
  have B8 : Hid (Byt w8 ao m c ts) := B7.out.kept hg HTB.out
  have R8 : Hid (Rd w8 R w6.heap.size (vform x ++ ts) (vform x).length 0) := by show Rd _ _ _ _ _ _; rwa [Nat.zero_add] at hr
  clear hr hg B7
  go_wp2_with fail
  refine (bytes_ok R _ (vform x ++ ts) (vform x).length m _ R8.out (by rw [HLEN.out]; exact Nat.le_refl _)).mono ?_
  rintro en w9 ⟨ro, rfl, _, hby, hr, hg⟩
  have G9 : Hid (w.grownBy w9 none) := grown_new G8.out hg HWR.out
  have B9 : Hid (Byt w9 ao m c ts) := B8.out.kept hg HTB.out
  have R9 : Hid (Rd w9 R w6.heap.size (vform x ++ ts) ((vform x).length + m) 0) := hr
  have E9 : Hid (Byt w9 ro m m ts) := by
    have e : ((vform x ++ ts).drop (vform x).length).take m = ts := by rw [List.drop_left, List.take_of_length_le (by rw [A0.out.len]; exact Nat.le_refl _)]
    show Byt _ _ _ _ _
    rwa [e] at hby
  clear hr hg hby B8
  go_wp2_with fail
  refine (same_yes ro ao m m m c ts ts _ E9.out B9.out rfl).mono ?_
  rintro en w10 ⟨rfl, rfl⟩
  go_wp2_with fail
  refine (err_any R _ _ _ 0 _ R9.out).mono ?_
  rintro en w11 ⟨rfl, hq⟩
  have G11 : Hid (w.grownBy w11 none) := grown_trans G9.out (hq.grown none)
  clear hq
  go_wp2_with (go_at_call 21; refine (num_any _ _).mono ?_; rintro en w12 ⟨rfl, rfl⟩)
  go_ret
  exact ⟨rfl, Below_of G11.out⟩

set_option maxHeartbeats 2000000 in
set_option maxRecDepth 100000 in
theorem apart_le (x : Nat) (hx : x < 18446744073709551616) (y : Nat) (hy : y < 18446744073709551616) (hne : x ≠ y) (hl : (vform x).length ≤ (vform y).length) (ao : Option Addr) (m c : Nat) (ts : List Int) (w : World) (hb : Byt w ao m c ts) (hbt : Bt ts) (hm : m ≤ 65536) :
    Calls Try.prog 7 #[.int .u64 x, .int .u64 y, .slice ao m c] w fun e w' => e = .returned (.bool true) ∧ Below w.heap.size w w' := by
  have HB : Hid (Byt w ao m c ts) := hb
  have A0 : Hid (Byt w ao m c ts) := hb
  have hlx := vform_le x
  have hlx1 := vform_pos x
  have hly := vform_le y
  have hly1 := vform_pos y
  have HNE : Hid ((vform x).take (vform x).length ≠ (vform y).take (vform x).length) := fun h => hne (vform_apart x y _ hx hy (by omega) h)
  have hxy : ((x : Int) == (y : Int)) = false := by simp; omega
  clear hb
  go_enter Try.func7, Try.ntmps7
  go_wp2_with fail
  refine (first_any _).mono ?_
  rintro en w1 ⟨rfl, hg⟩
  have G1 : Hid (w.grownBy w1 none) := hg
  have B1 : Hid (Byt w1 ao m c ts) := HB.out.keptN hg
  clear hg HB
  go_wp2_with fail
  refine (putV_nil x _ hx).mono ?_
  rintro en w2 ⟨rfl, hby, hg, hs2⟩
  have A2 : Hid (Byt w2 (some ⟨w1.heap.size, 0, none⟩) (vform x).length (vform x).length (vform x)) := hby
  have G2 : Hid (w.grownBy w2 none) := grown_trans G1.out hg
  have B2 : Hid (Byt w2 ao m c ts) := B1.out.keptN hg
  clear hby hg B1
  go_wp2_with fail
  refine (putV_nil y _ hy).mono ?_
  rintro en w3 ⟨rfl, hby, hg, hs3⟩
  have A3 : Hid (Byt w3 (some ⟨w1.heap.size, 0, none⟩) (vform x).length (vform x).length (vform x)) := A2.out.keptN hg
  have C3 : Hid (Byt w3 (some ⟨w2.heap.size, 0, none⟩) (vform y).length (vform y).length (vform y)) := hby
  have G3 : Hid (w.grownBy w3 none) := grown_trans G2.out hg
  have B3 : Hid (Byt w3 ao m c ts) := B2.out.keptN hg
  clear hby hg B2 A2
  have PA : Hid (∀ W : World, W.heap = w3.heap → Byt W (some ⟨w1.heap.size, 0, none⟩) (vform x).length (vform x).length ((vform x).take (vform x).length)) := fun W h => (A3.out.take (vform x).length _ (by omega) (fun e => by cases e)).heap h
  have PB : Hid (∀ W : World, W.heap = w3.heap → Byt W (some ⟨w2.heap.size, 0, none⟩) (vform x).length (vform y).length ((vform y).take (vform x).length)) := fun W h => (C3.out.take (vform x).length _ (by omega) (fun e => by cases e)).heap h
  go_wp2_with fail
  go_region_with (go_at_call 12; refine (same_no _ _ _ _ _ _ ((vform x).take (vform x).length) ((vform y).take (vform x).length) _ (by exact PA.out _ rfl) (by exact PB.out _ rfl) ((vform_bt x).take _) ((vform_bt y).take _) HNE.out).mono ?_; rintro en w4 ⟨rfl, rfl⟩)
  have A4 : Hid (Byt w3.drew (some ⟨w1.heap.size, 0, none⟩) (vform x).length (vform x).length (vform x)) := A3.out.heap rfl
  have G4 : Hid (w.grownBy w3.drew none) := grown_trans G3.out (((Qt.refl w3).drew).grown none)
  have B4 : Hid (Byt w3.drew ao m c ts) := B3.out.heap rfl
  clear A3 B3
  go_wp2_with fail
  refine (refBytes_any _ _ _ (vform x) _ A4.out (by omega)).mono ?_
  rintro en w5 ⟨rfl, hown, hg, hs5⟩
  have hs6 : w3.heap.size < w5.heap.size := hs5
  have G5 : Hid (w.grownBy w5 none) := grown_trans G4.out hg
  have B5 := B4.out.keptN hg
  clear hg B4 A4
  go_wp2_with (at_builtin; refine wpList_append_byt rfl _ _ rfl w3.heap.size _ (vform x).length (vform x) rfl hown ao m c ts rfl B5 (by omega) (by omega) ?_)
  intro v' w6 hown6 hg6
  obtain ⟨g, cap, hv, hbg, hgs, hcap⟩ := owns_shape hown6 (by omega)
  subst hv
  have hsz4 : w.heap.size ≤ w3.heap.size := G3.out.size
  have F6 : Hid (Byt w6 (some ⟨g, 0, none⟩) ((vform x).length + m) cap (vform x ++ ts)) := Byt.of_owns (by rw [List.map_append]; exact hown6)
  have G6 : Hid (w.grownBy w6 none) := grown_new G5.out hg6 hsz4
  have B6 : Hid (Byt w6 ao m c ts) := by
    refine B5.kept hg6 ?_
    intro ad had h0 e
    obtain ⟨b, off, hbo, hlt, _⟩ := A0.out.at h0
    rw [had] at hbo
    have e1 := Option.some.inj hbo
    have e2 := Option.some.inj e
    rw [e1] at e2
    simp only at e2
    omega
  clear hown6 hg6 hown B5
  have hlen : (vform x ++ ts).length = (vform x).length + m := by rw [List.length_append, A0.out.len]
  have HLEN : Hid ((vform x ++ ts).length = (vform x).length + m) := hlen
  have hsz6 : w.heap.size ≤ w6.heap.size := G6.out.size
  clear hlen
  go_wp2_with fail
  refine (newReader_any _ _ _ (vform x ++ ts) _ F6.out (by omega)).mono ?_
  rintro en w7 ⟨R, rfl, hr, hg, hR⟩
  have G7 : Hid (w.grownBy w7 none) := grown_trans G6.out hg
  have B7 : Hid (Byt w7 ao m c ts) := B6.out.keptN hg
  have R7 : Hid (Rd w7 R w6.heap.size (vform x ++ ts) 0 0) := hr
  have HWR : Hid (w.heap.size ≤ R) := by show w.heap.size ≤ R; omega
  have HTB : Hid (∀ ad, ao = some ad → 0 < m → some ad.block ≠ some R) := by
    intro ad had h0 e
    obtain ⟨b, off, hbo, hlt, _⟩ := A0.out.at h0
    rw [had] at hbo
    have e1 := Option.some.inj hbo
    have e2 := Option.some.inj e
    rw [e1] at e2
    simp only at e2
    omega
  have HBT : Hid (Bt (vform x ++ ts)) := (vform_bt x).app hbt
  clear hr hg hR B6 F6
  go_wp2_with fail
  refine (v_ok R _ (vform x ++ ts) 0 x (vform x).length _ R7.out HBT.out (rv_vform x ts hx)).mono ?_
  rintro en w8 ⟨rfl, hr, hg⟩
  have G8 : Hid (w.grownBy w8 none) := grown_new G7.out hg HWR.out
  have B8 : Hid (Byt w8 ao m c ts) := B7.out.kept hg HTB.out
  have R8 : Hid (Rd w8 R w6.heap.size (vform x ++ ts) (vform x).length 0) := by show Rd _ _ _ _ _ _; rwa [Nat.zero_add] at hr
  clear hr hg B7
  go_wp2_with fail
  refine (bytes_ok R _ (vform x ++ ts) (vform x).length m _ R8.out (by rw [HLEN.out]; exact Nat.le_refl _)).mono ?_
  rintro en w9 ⟨ro, rfl, _, hby, hr, hg⟩
  have G9 : Hid (w.grownBy w9 none) := grown_new G8.out hg HWR.out
  have B9 : Hid (Byt w9 ao m c ts) := B8.out.kept hg HTB.out
  have R9 : Hid (Rd w9 R w6.heap.size (vform x ++ ts) ((vform x).length + m) 0) := hr
  have E9 : Hid (Byt w9 ro m m ts) := by
    have e : ((vform x ++ ts).drop (vform x).length).take m = ts := by rw [List.drop_left, List.take_of_length_le (by rw [A0.out.len]; exact Nat.le_refl _)]
    show Byt _ _ _ _ _
    rwa [e] at hby
  clear hr hg hby B8
  go_wp2_with fail
  refine (same_yes ro ao m m m c ts ts _ E9.out B9.out rfl).mono ?_
  rintro en w10 ⟨rfl, rfl⟩
  go_wp2_with fail
  refine (err_any R _ _ _ 0 _ R9.out).mono ?_
  rintro en w11 ⟨rfl, hq⟩
  have G11 : Hid (w.grownBy w11 none) := grown_trans G9.out (hq.grown none)
  clear hq
  go_wp2_with (go_at_call 21; refine (num_any _ _).mono ?_; rintro en w12 ⟨rfl, rfl⟩)
  go_ret
  exact ⟨rfl, Below_of G11.out⟩

set_option maxHeartbeats 2000000 in
set_option maxRecDepth 100000 in
theorem apart_gt (x : Nat) (hx : x < 18446744073709551616) (y : Nat) (hy : y < 18446744073709551616) (hne : x ≠ y) (hl : (vform y).length < (vform x).length) (ao : Option Addr) (m c : Nat) (ts : List Int) (w : World) (hb : Byt w ao m c ts) (hbt : Bt ts) (hm : m ≤ 65536) :
    Calls Try.prog 7 #[.int .u64 x, .int .u64 y, .slice ao m c] w fun e w' => e = .returned (.bool true) ∧ Below w.heap.size w w' := by
  have HB : Hid (Byt w ao m c ts) := hb
  have A0 : Hid (Byt w ao m c ts) := hb
  have hlx := vform_le x
  have hlx1 := vform_pos x
  have hly := vform_le y
  have hly1 := vform_pos y
  have HNE : Hid ((vform x).take (vform y).length ≠ (vform y).take (vform y).length) := fun h => hne (vform_apart x y _ hx hy (by omega) h)
  have hxy : ((x : Int) == (y : Int)) = false := by simp; omega
  clear hb
  go_enter Try.func7, Try.ntmps7
  go_wp2_with fail
  refine (first_any _).mono ?_
  rintro en w1 ⟨rfl, hg⟩
  have G1 : Hid (w.grownBy w1 none) := hg
  have B1 : Hid (Byt w1 ao m c ts) := HB.out.keptN hg
  clear hg HB
  go_wp2_with fail
  refine (putV_nil x _ hx).mono ?_
  rintro en w2 ⟨rfl, hby, hg, hs2⟩
  have A2 : Hid (Byt w2 (some ⟨w1.heap.size, 0, none⟩) (vform x).length (vform x).length (vform x)) := hby
  have G2 : Hid (w.grownBy w2 none) := grown_trans G1.out hg
  have B2 : Hid (Byt w2 ao m c ts) := B1.out.keptN hg
  clear hby hg B1
  go_wp2_with fail
  refine (putV_nil y _ hy).mono ?_
  rintro en w3 ⟨rfl, hby, hg, hs3⟩
  have A3 : Hid (Byt w3 (some ⟨w1.heap.size, 0, none⟩) (vform x).length (vform x).length (vform x)) := A2.out.keptN hg
  have C3 : Hid (Byt w3 (some ⟨w2.heap.size, 0, none⟩) (vform y).length (vform y).length (vform y)) := hby
  have G3 : Hid (w.grownBy w3 none) := grown_trans G2.out hg
  have B3 : Hid (Byt w3 ao m c ts) := B2.out.keptN hg
  clear hby hg B2 A2
  have PA : Hid (∀ W : World, W.heap = w3.heap → Byt W (some ⟨w1.heap.size, 0, none⟩) (vform y).length (vform x).length ((vform x).take (vform y).length)) := fun W h => (A3.out.take (vform y).length _ (by omega) (fun e => by cases e)).heap h
  have PB : Hid (∀ W : World, W.heap = w3.heap → Byt W (some ⟨w2.heap.size, 0, none⟩) (vform y).length (vform y).length ((vform y).take (vform y).length)) := fun W h => (C3.out.take (vform y).length _ (by omega) (fun e => by cases e)).heap h
  go_wp2_with fail
  go_region_with (go_at_call 12; refine (same_no _ _ _ _ _ _ ((vform x).take (vform y).length) ((vform y).take (vform y).length) _ (by exact PA.out _ rfl) (by exact PB.out _ rfl) ((vform_bt x).take _) ((vform_bt y).take _) HNE.out).mono ?_; rintro en w4 ⟨rfl, rfl⟩)
  have A4 : Hid (Byt w3.drew (some ⟨w1.heap.size, 0, none⟩) (vform x).length (vform x).length (vform x)) := A3.out.heap rfl
  have G4 : Hid (w.grownBy w3.drew none) := grown_trans G3.out (((Qt.refl w3).drew).grown none)
  have B4 : Hid (Byt w3.drew ao m c ts) := B3.out.heap rfl
  clear A3 B3
  go_wp2_with fail
  refine (refBytes_any _ _ _ (vform x) _ A4.out (by omega)).mono ?_
  rintro en w5 ⟨rfl, hown, hg, hs5⟩
  have hs6 : w3.heap.size < w5.heap.size := hs5
  have G5 : Hid (w.grownBy w5 none) := grown_trans G4.out hg
  have B5 := B4.out.keptN hg
  clear hg B4 A4
  go_wp2_with (at_builtin; refine wpList_append_byt rfl _ _ rfl w3.heap.size _ (vform x).length (vform x) rfl hown ao m c ts rfl B5 (by omega) (by omega) ?_)
  intro v' w6 hown6 hg6
  obtain ⟨g, cap, hv, hbg, hgs, hcap⟩ := owns_shape hown6 (by omega)
  subst hv
  have hsz4 : w.heap.size ≤ w3.heap.size := G3.out.size
  have F6 : Hid (Byt w6 (some ⟨g, 0, none⟩) ((vform x).length + m) cap (vform x ++ ts)) := Byt.of_owns (by rw [List.map_append]; exact hown6)
  have G6 : Hid (w.grownBy w6 none) := grown_new G5.out hg6 hsz4
  have B6 : Hid (Byt w6 ao m c ts) := by
    refine B5.kept hg6 ?_
    intro ad had h0 e
    obtain ⟨b, off, hbo, hlt, _⟩ := A0.out.at h0
    rw [had] at hbo
    have e1 := Option.some.inj hbo
    have e2 := Option.some.inj e
    rw [e1] at e2
    simp only at e2
    omega
  clear hown6 hg6 hown B5
  have hlen : (vform x ++ ts).length = (vform x).length + m := by rw [List.length_append, A0.out.len]
  have HLEN : Hid ((vform x ++ ts).length = (vform x).length + m) := hlen
  have hsz6 : w.heap.size ≤ w6.heap.size := G6.out.size
  clear hlen
  go_wp2_with fail
  refine (newReader_any _ _ _ (vform x ++ ts) _ F6.out (by omega)).mono ?_
  rintro en w7 ⟨R, rfl, hr, hg, hR⟩
  have G7 : Hid (w.grownBy w7 none) := grown_trans G6.out hg
  have B7 : Hid (Byt w7 ao m c ts) := B6.out.keptN hg
  have R7 : Hid (Rd w7 R w6.heap.size (vform x ++ ts) 0 0) := hr
  have HWR : Hid (w.heap.size ≤ R) := by show w.heap.size ≤ R; omega
  have HTB : Hid (∀ ad, ao = some ad → 0 < m → some ad.block ≠ some R) := by
    intro ad had h0 e
    obtain ⟨b, off, hbo, hlt, _⟩ := A0.out.at h0
    rw [had] at hbo
    have e1 := Option.some.inj hbo
    have e2 := Option.some.inj e
    rw [e1] at e2
    simp only at e2
    omega
  have HBT : Hid (Bt (vform x ++ ts)) := (vform_bt x).app hbt
  clear hr hg hR B6 F6
  go_wp2_with fail
  refine (v_ok R _ (vform x ++ ts) 0 x (vform x).length _ R7.out HBT.out (rv_vform x ts hx)).mono ?_
  rintro en w8 ⟨rfl, hr, hg⟩
  have G8 : Hid (w.grownBy w8 none) := grown_new G7.out hg HWR.out
  have B8 : Hid (Byt w8 ao m c ts) := B7.out.kept hg HTB.out
  have R8 : Hid (Rd w8 R w6.heap.size (vform x ++ ts) (vform x).length 0) := by show Rd _ _ _ _ _ _; rwa [Nat.zero_add] at hr
  clear hr hg B7
  go_wp2_with fail
  refine (bytes_ok R _ (vform x ++ ts) (vform x).length m _ R8.out (by rw [HLEN.out]; exact Nat.le_refl _)).mono ?_
  rintro en w9 ⟨ro, rfl, _, hby, hr, hg⟩
  have G9 : Hid (w.grownBy w9 none) := grown_new G8.out hg HWR.out
  have B9 : Hid (Byt w9 ao m c ts) := B8.out.kept hg HTB.out
  have R9 : Hid (Rd w9 R w6.heap.size (vform x ++ ts) ((vform x).length + m) 0) := hr
  have E9 : Hid (Byt w9 ro m m ts) := by
    have e : ((vform x ++ ts).drop (vform x).length).take m = ts := by rw [List.drop_left, List.take_of_length_le (by rw [A0.out.len]; exact Nat.le_refl _)]
    show Byt _ _ _ _ _
    rwa [e] at hby
  clear hr hg hby B8
  go_wp2_with fail
  refine (same_yes ro ao m m m c ts ts _ E9.out B9.out rfl).mono ?_
  rintro en w10 ⟨rfl, rfl⟩
  go_wp2_with fail
  refine (err_any R _ _ _ 0 _ R9.out).mono ?_
  rintro en w11 ⟨rfl, hq⟩
  have G11 : Hid (w.grownBy w11 none) := grown_trans G9.out (hq.grown none)
  clear hq
  go_wp2_with (go_at_call 21; refine (num_any _ _).mono ?_; rintro en w12 ⟨rfl, rfl⟩)
  go_ret
  exact ⟨rfl, Below_of G11.out⟩

theorem apart_walk (x y : Nat) (hx : x < 18446744073709551616) (hy : y < 18446744073709551616) (ao : Option Addr) (m c : Nat) (ts : List Int) (w : World) (hb : Byt w ao m c ts) (hbt : Bt ts) :
    Calls Try.prog 7 #[.int .u64 x, .int .u64 y, .slice ao m c] w fun e w' => e = .returned (.bool true) ∧ Below w.heap.size w w' := by
  by_cases hm : m ≤ 65536
  · by_cases e : x = y
    · subst e; exact apart_eq x hx ao m c ts w hb hbt hm
    · by_cases hl : (vform x).length ≤ (vform y).length
      · exact apart_le x hx y hy e hl ao m c ts w hb hbt hm
      · exact apart_gt x hx y hy e (by omega) ao m c ts w hb hbt hm
  · exact apart_long x y ao m c w (by omega)
end Go.Proofs.Ythebdbdahdegfaa
