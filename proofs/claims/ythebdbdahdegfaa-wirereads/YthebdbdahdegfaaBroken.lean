import Derived.Test.YthebdbdahdegfaaTools
namespace Go.Proofs.Ythebdbdahdegfaa
open Go.RowKit

/-- Calls that came in: element i lies in three cells. -/
structure OpsAt (w : World) (b off n : Nat) (K N : Nat → Int) (S : Nat → Bool) : Prop where
  lt : 0 < n → b < w.heap.size
  at0 : ∀ i, i < n → w.cell? ⟨b, off + i * 3, none⟩ = some (.int .i64 (K i))
  at1 : ∀ i, i < n → w.cell? ⟨b, off + i * 3 + 1, none⟩ = some (.int .i64 (N i))
  at2 : ∀ i, i < n → w.cell? ⟨b, off + i * 3 + 2, none⟩ = some (.bool (S i))

theorem OpsAt.kept {w w' : World} {b off n : Nat} {K N : Nat → Int} {S : Nat → Bool} (h : OpsAt w b off n K N S) (hg : w.grownBy w' none) : OpsAt w' b off n K N S :=
  ⟨fun h0 => Nat.lt_of_lt_of_le (h.lt h0) hg.size, fun i hi => hg.cell (h.at0 i hi) (by simp), fun i hi => hg.cell (h.at1 i hi) (by simp), fun i hi => hg.cell (h.at2 i hi) (by simp)⟩

theorem tmod4 (n : Int) : -3 ≤ n.tmod 4 ∧ n.tmod 4 ≤ 3 := by
  rcases Int.le_total 0 n with h | h
  · have := Int.tmod_nonneg 4 h
    have := Int.tmod_lt_of_pos n (show (0 : Int) < 4 by omega)
    omega
  · have h1 : (-n).tmod 4 = -(n.tmod 4) := Int.neg_tmod n 4
    have := Int.tmod_nonneg 4 (show 0 ≤ -n by omega)
    have := Int.tmod_lt_of_pos (-n) (show (0 : Int) < 4 by omega)
    omega

set_option maxHeartbeats 400000 in
theorem broken_long (ao : Option Addr) (m c : Nat) (how : Int) (oo : Option Addr) (n oc : Nat) (w : World) (hn : (65536 : Int) < (m : Int)) :
    Calls Try.prog 8 #[.slice ao m c, .int .i64 how, .slice oo n oc] w fun e w' => e = .returned (.bool true) ∧ Below w.heap.size w w' := by
  go_enter Try.func8, Try.ntmps8
  go_wp2_with fail
  refine (first_any _).mono ?_
  rintro en w1 ⟨rfl, hg⟩
  have HG : Hid (w.grownBy w1 none) := hg
  clear hg
  go_wp2
  go_ret
  exact ⟨rfl, Below_of HG.out⟩

theorem rv_min (ts : List Int) : rv ([128, 0] ++ ts) = (0, 0, 11) := rfl
theorem rv_wide (ts : List Int) : rv ([255, 255, 255, 255, 255, 255, 255, 255, 255, 2] ++ ts) = (0, 0, 12) := rfl

/-- What holds at each round's head. -/
def BrokenRel (w : World) (R G : Nat) (fs : List Int) (want : Int) (M : Nat) (si : Value) (wr : World) : Prop :=
  ∃ k : Nat, k ≤ M ∧ k ≤ 2000 ∧ si = .int .i64 k ∧ Rd wr R G fs 0 want ∧ w.grownBy wr none

set_option maxHeartbeats 4000000 in
set_option maxRecDepth 100000 in
theorem broken_0 (ao : Option Addr) (m c : Nat) (how : Int) (b off n oc : Nat) (K N : Nat → Int) (S : Nat → Bool) (oo : Option Addr) (w : World) (ts : List Int) (hb : Byt w ao m c ts) (hbt : Bt ts) (hm : m ≤ 65536)
    (hn : n ≤ 9223372036854775807) (hoo : 0 < n → oo = some ⟨b, off, none⟩) (ho : OpsAt w b off n K N S) (hh : (how.tmod 4 + 4) % 4 = 0) :
    Calls Try.prog 8 #[.slice ao m c, .int .i64 how, .slice oo n oc] w fun e w' => e = .returned (.bool true) ∧ Below w.heap.size w w' := by
  have HB : Hid (Byt w ao m c ts) := hb
  have HO : Hid (OpsAt w b off n K N S) := ho
  have HOO : Hid (0 < n → oo = some ⟨b, off, none⟩) := hoo
  obtain ⟨ht1, ht2⟩ := tmod4 how
  have HML : Hid (ts.length = m) := hb.len
  have HLEN : Hid (ts.length = m) := HML.out
  have HBT : Hid (Bt ts) := hbt
  clear hb ho hoo
  go_enter Try.func8, Try.ntmps8
  go_wp2_with fail
  refine (first_any _).mono ?_
  rintro en w1 ⟨rfl, hg⟩
  have G1 : Hid (w.grownBy w1 none) := hg
  have B1 : Hid (Byt w1 ao m c ts) := HB.out.keptN hg
  clear hg HB
  skip
  go_wp2_with (at_builtin; refine wpList_append_byt rfl _ _ rfl w1.heap.size _ 0 [] rfl (World.ownsRow_nil _ _ _ _) ao m c ts rfl B1.out (by omega) (Nat.le_refl _) ?_)
  intro v' w2 hown2 hg2
  obtain ⟨fo, fc, hv, F2⟩ := owns_any (zs := ts) (by simpa using hown2)
  subst hv
  have FF2 : Hid (Byt w2 fo m fc ts) := F2
  have G2 : Hid (w.grownBy w2 none) := grown_trans G1.out hg2
  have hsz2 : w.heap.size ≤ w2.heap.size := G2.out.size
  clear hown2 hg2 F2
  go_wp2_with fail
  refine (newReader_any fo m fc ts _ FF2.out (by omega)).mono ?_
  rintro en w3 ⟨R, rfl, hr, hg, hR⟩
  have G3 : Hid (w.grownBy w3 none) := grown_trans G2.out hg
  have R3 : Hid (Rd w3 R w2.heap.size ts 0 0) := hr
  have HWR : Hid (w.heap.size ≤ R) := by show w.heap.size ≤ R; omega
  clear hr hg hR FF2
  go_wp2_with fail
  refine (bytes_short R _ ts 0 _ _ R3.out (by rw [HLEN.out]; omega)).mono ?_
  rintro en w4 ⟨rfl, hr, hg⟩
  have G4 : Hid (w.grownBy w4 none) := grown_new G3.out hg HWR.out
  have R4 : Hid (Rd w4 R w2.heap.size ts 0 10) := hr
  clear hr hg
  go_wp2
  go_loopw [11] (fun si wr => BrokenRel w R w2.heap.size ts 10 n si wr) (fun si _ => n - (intOf si).toNat)
  case atStart => exact ⟨0, Nat.zero_le _, by omega, rfl, R4.out, G4.out⟩
  case round =>
    obtain ⟨k, hk, hk2, rfl, hr, hg⟩ := hrel
    have HR : Hid (Rd wr R w2.heap.size ts 0 10) := hr
    have HG : Hid (w.grownBy wr none) := hg
    clear hr hg
    by_cases h1 : k < n
    · by_cases h2 : k < 2000
      · obtain rfl := HOO.out (by omega)
        have c0 := (HO.out.kept HG.out).at0 k h1
        have c1 := (HO.out.kept HG.out).at1 k h1
        have c2 := (HO.out.kept HG.out).at2 k h1
        have hbl : b < wr.heap.size := (HO.out.kept HG.out).lt (by omega)
        obtain ⟨K1, hK⟩ : ∃ K1, K1 = K k := ⟨_, rfl⟩
        obtain ⟨N1, hN⟩ : ∃ N1, N1 = N k := ⟨_, rfl⟩
        obtain ⟨S1, hS⟩ : ∃ S1, S1 = S k := ⟨_, rfl⟩
        rw [← hK] at c0
        rw [← hN] at c1
        rw [← hS] at c2
        clear hK hN hS
        by_cases h5 : K1 = 5
        · subst h5
          go_wp2_with fail
          refine (bytes_broken R _ ts 0 10 N1 _ (HR.out.kept (World.grownBy_alloc wr _ none) (by simp) (by simp)) rfl).mono ?_
          rintro en w6 ⟨xo, rfl, hr, hg⟩
          have HR6 : Hid (Rd w6 R w2.heap.size ts 0 10) := hr
          have HG6 : Hid (w.grownBy w6 none) := grown_new (grown_trans HG.out (World.grownBy_alloc wr _ none)) hg HWR.out
          clear hr hg
          go_wp2_with fail
          refine (err_any R _ ts 0 10 _ HR6.out).mono ?_
          rintro en w7 ⟨rfl, hq⟩
          have HG7 : Hid (w.grownBy w7 none) := grown_trans HG6.out (hq.grown none)
          have HR7 : Hid (Rd w7 R w2.heap.size ts 0 10) := HR6.out.qt hq
          clear hq
          go_wp2_with (go_at_call 21; refine (num_any _ _).mono ?_; rintro en w8 ⟨rfl, rfl⟩)
          refine (left_broken R _ ts 0 10 _ HR7.out rfl).mono ?_
          rintro en w9 ⟨rfl, hq⟩
          have HG9 : Hid (w.grownBy w9 none) := grown_trans HG7.out (hq.grown none)
          have HR9 : Hid (Rd w9 R w2.heap.size ts 0 10) := HR7.out.qt hq
          clear hq
          go_wp2
          go_roundw
          case rel => exact ⟨k + 1, by omega, by omega, by go_num, HR9.out, HG9.out⟩
          case measure => simp [intOf]; omega
        · have h5b : (K1 == 5) = false := by simpa using h5
          clear h5
          go_wp2_with fail
          refine (wide_any K1 _).mono ?_
          rintro en w5 ⟨rfl, hw5⟩
          have HRW : Hid (Rd w5 R w2.heap.size ts 0 10) := by rw [hw5]; exact HR.out.kept (World.grownBy_alloc wr _ none) (by simp) (by simp)
          have HGW : Hid (w.grownBy w5 none) := by rw [hw5]; exact grown_trans HG.out (World.grownBy_alloc wr _ none)
          clear hw5
          go_wp2_with fail
          refine (get_broken R _ ts 0 10 K1 _ HRW.out rfl).mono ?_
          rintro en w6 ⟨rfl, hr, hg⟩
          have HR6 : Hid (Rd w6 R w2.heap.size ts 0 10) := hr
          have HG6 : Hid (w.grownBy w6 none) := grown_new HGW.out hg HWR.out
          clear hr hg
          go_wp2_with fail
          refine (err_any R _ ts 0 10 _ HR6.out).mono ?_
          rintro en w7 ⟨rfl, hq⟩
          have HG7 : Hid (w.grownBy w7 none) := grown_trans HG6.out (hq.grown none)
          have HR7 : Hid (Rd w7 R w2.heap.size ts 0 10) := HR6.out.qt hq
          clear hq
          go_wp2_with (go_at_call 21; refine (num_any _ _).mono ?_; rintro en w8 ⟨rfl, rfl⟩)
          refine (left_broken R _ ts 0 10 _ HR7.out rfl).mono ?_
          rintro en w9 ⟨rfl, hq⟩
          have HG9 : Hid (w.grownBy w9 none) := grown_trans HG7.out (hq.grown none)
          have HR9 : Hid (Rd w9 R w2.heap.size ts 0 10) := HR7.out.qt hq
          clear hq
          go_wp2
          go_roundw
          case rel => exact ⟨k + 1, by omega, by omega, by go_num, HR9.out, HG9.out⟩
          case measure => simp [intOf]; omega
      · have hk3 : k = 2000 := by omega
        subst hk3
        have HR6 : Hid (Rd wr R w2.heap.size ts 0 10) := HR
        have HG6 : Hid (w.grownBy wr none) := HG
        go_wp2_with fail
        refine (err_any R _ ts 0 10 _ HR6.out).mono ?_
        rintro en w7 ⟨rfl, hq⟩
        have HG7 : Hid (w.grownBy w7 none) := grown_trans HG6.out (hq.grown none)
        have HR7 : Hid (Rd w7 R w2.heap.size ts 0 10) := HR6.out.qt hq
        clear hq
        go_wp2_with (go_at_call 21; refine (num_any _ _).mono ?_; rintro en w8 ⟨rfl, rfl⟩)
        refine (left_broken R _ ts 0 10 _ HR7.out rfl).mono ?_
        rintro en w9 ⟨rfl, hq⟩
        have HG9 : Hid (w.grownBy w9 none) := grown_trans HG7.out (hq.grown none)
        have HR9 : Hid (Rd w9 R w2.heap.size ts 0 10) := HR7.out.qt hq
        clear hq
        go_wp2
        go_ret
        exact ⟨rfl, Below_of HG9.out⟩
    · have hd : decide ((k : Int) < (n : Int)) = false := by simp; omega
      have HR6 : Hid (Rd wr R w2.heap.size ts 0 10) := HR
      have HG6 : Hid (w.grownBy wr none) := HG
      go_wp2_with fail
      refine (err_any R _ ts 0 10 _ HR6.out).mono ?_
      rintro en w7 ⟨rfl, hq⟩
      have HG7 : Hid (w.grownBy w7 none) := grown_trans HG6.out (hq.grown none)
      have HR7 : Hid (Rd w7 R w2.heap.size ts 0 10) := HR6.out.qt hq
      clear hq
      go_wp2_with (go_at_call 21; refine (num_any _ _).mono ?_; rintro en w8 ⟨rfl, rfl⟩)
      refine (left_broken R _ ts 0 10 _ HR7.out rfl).mono ?_
      rintro en w9 ⟨rfl, hq⟩
      have HG9 : Hid (w.grownBy w9 none) := grown_trans HG7.out (hq.grown none)
      have HR9 : Hid (Rd w9 R w2.heap.size ts 0 10) := HR7.out.qt hq
      clear hq
      go_wp2
      go_ret
      exact ⟨rfl, Below_of HG9.out⟩

set_option maxHeartbeats 4000000 in
set_option maxRecDepth 100000 in
theorem broken_1 (ao : Option Addr) (m c : Nat) (how : Int) (b off n oc : Nat) (K N : Nat → Int) (S : Nat → Bool) (oo : Option Addr) (w : World) (ts : List Int) (hb : Byt w ao m c ts) (hbt : Bt ts) (hm : m ≤ 65536)
    (hn : n ≤ 9223372036854775807) (hoo : 0 < n → oo = some ⟨b, off, none⟩) (ho : OpsAt w b off n K N S) (hh : (how.tmod 4 + 4) % 4 = 1) :
    Calls Try.prog 8 #[.slice ao m c, .int .i64 how, .slice oo n oc] w fun e w' => e = .returned (.bool true) ∧ Below w.heap.size w w' := by
  have HB : Hid (Byt w ao m c ts) := hb
  have HO : Hid (OpsAt w b off n K N S) := ho
  have HOO : Hid (0 < n → oo = some ⟨b, off, none⟩) := hoo
  obtain ⟨ht1, ht2⟩ := tmod4 how
  have HML : Hid (ts.length = m) := hb.len
  have HLEN : Hid (([128, 0] ++ ts).length = (2 + m)) := by show ([128, 0] ++ ts).length = _; rw [List.length_append, HML.out]; rfl
  have HBT : Hid (Bt ([128, 0] ++ ts)) := (Bt.app (by intro z hz; simp at hz; omega) hbt)
  clear hb ho hoo
  go_enter Try.func8, Try.ntmps8
  go_wp2_with fail
  refine (first_any _).mono ?_
  rintro en w1 ⟨rfl, hg⟩
  have G1 : Hid (w.grownBy w1 none) := hg
  have B1 : Hid (Byt w1 ao m c ts) := HB.out.keptN hg
  clear hg HB
  have HO1 : Hid (∀ cs : Array Value, cs = (([128, 0] : List Int).map (Value.int .u8)).toArray → (w1.alloc (.cells cs 5)).ownsRow w1.heap.size 5 1 (.slice (some ⟨w1.heap.size, 0, none⟩) 2 2) 2 (([128, 0] : List Int).map (Value.int .u8))) := by
    intro cs hcs
    have := World.ownsRow_lit (base := w1.heap.size) (e := 5) (size := 1) w1 cs 2 (Nat.le_refl _) (by unfold maxLen; omega) (by rw [hcs]; rfl)
    rw [hcs] at this ⊢
    exact this
  go_wp2_with (at_builtin; refine wpList_append_byt rfl _ _ rfl w1.heap.size _ 2 [128, 0] rfl (by exact HO1.out _ rfl) ao m c ts rfl (by exact B1.out.keptN (World.grownBy_alloc w1 _ none)) (by omega) (by simp) ?_)
  intro v' w2 hown2 hg2
  obtain ⟨fo, fc, hv, F2⟩ := owns_any (zs := [128, 0] ++ ts) (by rw [List.map_append]; exact hown2)
  subst hv
  have FF2 : Hid (Byt w2 fo (2 + m) fc ([128, 0] ++ ts)) := F2
  have G2 : Hid (w.grownBy w2 none) := grown_new (grown_trans G1.out (World.grownBy_alloc w1 _ none)) hg2 G1.out.size
  have hsz2 : w.heap.size ≤ w2.heap.size := G2.out.size
  clear hown2 hg2 F2
  go_wp2_with fail
  refine (newReader_any fo (2 + m) fc ([128, 0] ++ ts) _ FF2.out (by omega)).mono ?_
  rintro en w3 ⟨R, rfl, hr, hg, hR⟩
  have G3 : Hid (w.grownBy w3 none) := grown_trans G2.out hg
  have R3 : Hid (Rd w3 R w2.heap.size ([128, 0] ++ ts) 0 0) := hr
  have HWR : Hid (w.heap.size ≤ R) := by show w.heap.size ≤ R; omega
  clear hr hg hR FF2
  go_wp2_with fail
  refine (v_bad R _ ([128, 0] ++ ts) 0 11 _ R3.out HBT.out (rv_min ts) rfl).mono ?_
  rintro en w4 ⟨rfl, hr, hg⟩
  have G4 : Hid (w.grownBy w4 none) := grown_new G3.out hg HWR.out
  have R4 : Hid (Rd w4 R w2.heap.size ([128, 0] ++ ts) 0 11) := hr
  clear hr hg
  go_wp2
  go_loopw [11] (fun si wr => BrokenRel w R w2.heap.size ([128, 0] ++ ts) 11 n si wr) (fun si _ => n - (intOf si).toNat)
  case atStart => exact ⟨0, Nat.zero_le _, by omega, rfl, R4.out, G4.out⟩
  case round =>
    obtain ⟨k, hk, hk2, rfl, hr, hg⟩ := hrel
    have HR : Hid (Rd wr R w2.heap.size ([128, 0] ++ ts) 0 11) := hr
    have HG : Hid (w.grownBy wr none) := hg
    clear hr hg
    by_cases h1 : k < n
    · by_cases h2 : k < 2000
      · obtain rfl := HOO.out (by omega)
        have c0 := (HO.out.kept HG.out).at0 k h1
        have c1 := (HO.out.kept HG.out).at1 k h1
        have c2 := (HO.out.kept HG.out).at2 k h1
        have hbl : b < wr.heap.size := (HO.out.kept HG.out).lt (by omega)
        obtain ⟨K1, hK⟩ : ∃ K1, K1 = K k := ⟨_, rfl⟩
        obtain ⟨N1, hN⟩ : ∃ N1, N1 = N k := ⟨_, rfl⟩
        obtain ⟨S1, hS⟩ : ∃ S1, S1 = S k := ⟨_, rfl⟩
        rw [← hK] at c0
        rw [← hN] at c1
        rw [← hS] at c2
        clear hK hN hS
        by_cases h5 : K1 = 5
        · subst h5
          go_wp2_with fail
          refine (bytes_broken R _ ([128, 0] ++ ts) 0 11 N1 _ (HR.out.kept (World.grownBy_alloc wr _ none) (by simp) (by simp)) rfl).mono ?_
          rintro en w6 ⟨xo, rfl, hr, hg⟩
          have HR6 : Hid (Rd w6 R w2.heap.size ([128, 0] ++ ts) 0 11) := hr
          have HG6 : Hid (w.grownBy w6 none) := grown_new (grown_trans HG.out (World.grownBy_alloc wr _ none)) hg HWR.out
          clear hr hg
          go_wp2_with fail
          refine (err_any R _ ([128, 0] ++ ts) 0 11 _ HR6.out).mono ?_
          rintro en w7 ⟨rfl, hq⟩
          have HG7 : Hid (w.grownBy w7 none) := grown_trans HG6.out (hq.grown none)
          have HR7 : Hid (Rd w7 R w2.heap.size ([128, 0] ++ ts) 0 11) := HR6.out.qt hq
          clear hq
          go_wp2_with (go_at_call 21; refine (num_any _ _).mono ?_; rintro en w8 ⟨rfl, rfl⟩)
          refine (left_broken R _ ([128, 0] ++ ts) 0 11 _ HR7.out rfl).mono ?_
          rintro en w9 ⟨rfl, hq⟩
          have HG9 : Hid (w.grownBy w9 none) := grown_trans HG7.out (hq.grown none)
          have HR9 : Hid (Rd w9 R w2.heap.size ([128, 0] ++ ts) 0 11) := HR7.out.qt hq
          clear hq
          go_wp2
          go_roundw
          case rel => exact ⟨k + 1, by omega, by omega, by go_num, HR9.out, HG9.out⟩
          case measure => simp [intOf]; omega
        · have h5b : (K1 == 5) = false := by simpa using h5
          clear h5
          go_wp2_with fail
          refine (wide_any K1 _).mono ?_
          rintro en w5 ⟨rfl, hw5⟩
          have HRW : Hid (Rd w5 R w2.heap.size ([128, 0] ++ ts) 0 11) := by rw [hw5]; exact HR.out.kept (World.grownBy_alloc wr _ none) (by simp) (by simp)
          have HGW : Hid (w.grownBy w5 none) := by rw [hw5]; exact grown_trans HG.out (World.grownBy_alloc wr _ none)
          clear hw5
          go_wp2_with fail
          refine (get_broken R _ ([128, 0] ++ ts) 0 11 K1 _ HRW.out rfl).mono ?_
          rintro en w6 ⟨rfl, hr, hg⟩
          have HR6 : Hid (Rd w6 R w2.heap.size ([128, 0] ++ ts) 0 11) := hr
          have HG6 : Hid (w.grownBy w6 none) := grown_new HGW.out hg HWR.out
          clear hr hg
          go_wp2_with fail
          refine (err_any R _ ([128, 0] ++ ts) 0 11 _ HR6.out).mono ?_
          rintro en w7 ⟨rfl, hq⟩
          have HG7 : Hid (w.grownBy w7 none) := grown_trans HG6.out (hq.grown none)
          have HR7 : Hid (Rd w7 R w2.heap.size ([128, 0] ++ ts) 0 11) := HR6.out.qt hq
          clear hq
          go_wp2_with (go_at_call 21; refine (num_any _ _).mono ?_; rintro en w8 ⟨rfl, rfl⟩)
          refine (left_broken R _ ([128, 0] ++ ts) 0 11 _ HR7.out rfl).mono ?_
          rintro en w9 ⟨rfl, hq⟩
          have HG9 : Hid (w.grownBy w9 none) := grown_trans HG7.out (hq.grown none)
          have HR9 : Hid (Rd w9 R w2.heap.size ([128, 0] ++ ts) 0 11) := HR7.out.qt hq
          clear hq
          go_wp2
          go_roundw
          case rel => exact ⟨k + 1, by omega, by omega, by go_num, HR9.out, HG9.out⟩
          case measure => simp [intOf]; omega
      · have hk3 : k = 2000 := by omega
        subst hk3
        have HR6 : Hid (Rd wr R w2.heap.size ([128, 0] ++ ts) 0 11) := HR
        have HG6 : Hid (w.grownBy wr none) := HG
        go_wp2_with fail
        refine (err_any R _ ([128, 0] ++ ts) 0 11 _ HR6.out).mono ?_
        rintro en w7 ⟨rfl, hq⟩
        have HG7 : Hid (w.grownBy w7 none) := grown_trans HG6.out (hq.grown none)
        have HR7 : Hid (Rd w7 R w2.heap.size ([128, 0] ++ ts) 0 11) := HR6.out.qt hq
        clear hq
        go_wp2_with (go_at_call 21; refine (num_any _ _).mono ?_; rintro en w8 ⟨rfl, rfl⟩)
        refine (left_broken R _ ([128, 0] ++ ts) 0 11 _ HR7.out rfl).mono ?_
        rintro en w9 ⟨rfl, hq⟩
        have HG9 : Hid (w.grownBy w9 none) := grown_trans HG7.out (hq.grown none)
        have HR9 : Hid (Rd w9 R w2.heap.size ([128, 0] ++ ts) 0 11) := HR7.out.qt hq
        clear hq
        go_wp2
        go_ret
        exact ⟨rfl, Below_of HG9.out⟩
    · have hd : decide ((k : Int) < (n : Int)) = false := by simp; omega
      have HR6 : Hid (Rd wr R w2.heap.size ([128, 0] ++ ts) 0 11) := HR
      have HG6 : Hid (w.grownBy wr none) := HG
      go_wp2_with fail
      refine (err_any R _ ([128, 0] ++ ts) 0 11 _ HR6.out).mono ?_
      rintro en w7 ⟨rfl, hq⟩
      have HG7 : Hid (w.grownBy w7 none) := grown_trans HG6.out (hq.grown none)
      have HR7 : Hid (Rd w7 R w2.heap.size ([128, 0] ++ ts) 0 11) := HR6.out.qt hq
      clear hq
      go_wp2_with (go_at_call 21; refine (num_any _ _).mono ?_; rintro en w8 ⟨rfl, rfl⟩)
      refine (left_broken R _ ([128, 0] ++ ts) 0 11 _ HR7.out rfl).mono ?_
      rintro en w9 ⟨rfl, hq⟩
      have HG9 : Hid (w.grownBy w9 none) := grown_trans HG7.out (hq.grown none)
      have HR9 : Hid (Rd w9 R w2.heap.size ([128, 0] ++ ts) 0 11) := HR7.out.qt hq
      clear hq
      go_wp2
      go_ret
      exact ⟨rfl, Below_of HG9.out⟩

set_option maxHeartbeats 4000000 in
set_option maxRecDepth 100000 in
theorem broken_2 (ao : Option Addr) (m c : Nat) (how : Int) (b off n oc : Nat) (K N : Nat → Int) (S : Nat → Bool) (oo : Option Addr) (w : World) (ts : List Int) (hb : Byt w ao m c ts) (hbt : Bt ts) (hm : m ≤ 65536)
    (hn : n ≤ 9223372036854775807) (hoo : 0 < n → oo = some ⟨b, off, none⟩) (ho : OpsAt w b off n K N S) (hh : (how.tmod 4 + 4) % 4 = 2) :
    Calls Try.prog 8 #[.slice ao m c, .int .i64 how, .slice oo n oc] w fun e w' => e = .returned (.bool true) ∧ Below w.heap.size w w' := by
  have HB : Hid (Byt w ao m c ts) := hb
  have HO : Hid (OpsAt w b off n K N S) := ho
  have HOO : Hid (0 < n → oo = some ⟨b, off, none⟩) := hoo
  obtain ⟨ht1, ht2⟩ := tmod4 how
  have HML : Hid (ts.length = m) := hb.len
  have HLEN : Hid (([255, 255, 255, 255, 255, 255, 255, 255, 255, 2] ++ ts).length = (10 + m)) := by show ([255, 255, 255, 255, 255, 255, 255, 255, 255, 2] ++ ts).length = _; rw [List.length_append, HML.out]; rfl
  have HBT : Hid (Bt ([255, 255, 255, 255, 255, 255, 255, 255, 255, 2] ++ ts)) := (Bt.app (by intro z hz; simp at hz; omega) hbt)
  clear hb ho hoo
  go_enter Try.func8, Try.ntmps8
  go_wp2_with fail
  refine (first_any _).mono ?_
  rintro en w1 ⟨rfl, hg⟩
  have G1 : Hid (w.grownBy w1 none) := hg
  have B1 : Hid (Byt w1 ao m c ts) := HB.out.keptN hg
  clear hg HB
  have HO1 : Hid (∀ cs : Array Value, cs = (([255, 255, 255, 255, 255, 255, 255, 255, 255, 2] : List Int).map (Value.int .u8)).toArray → (w1.alloc (.cells cs 5)).ownsRow w1.heap.size 5 1 (.slice (some ⟨w1.heap.size, 0, none⟩) 10 10) 10 (([255, 255, 255, 255, 255, 255, 255, 255, 255, 2] : List Int).map (Value.int .u8))) := by
    intro cs hcs
    have := World.ownsRow_lit (base := w1.heap.size) (e := 5) (size := 1) w1 cs 10 (Nat.le_refl _) (by unfold maxLen; omega) (by rw [hcs]; rfl)
    rw [hcs] at this ⊢
    exact this
  go_wp2_with (at_builtin; refine wpList_append_byt rfl _ _ rfl w1.heap.size _ 10 [255, 255, 255, 255, 255, 255, 255, 255, 255, 2] rfl (by exact HO1.out _ rfl) ao m c ts rfl (by exact B1.out.keptN (World.grownBy_alloc w1 _ none)) (by omega) (by simp) ?_)
  intro v' w2 hown2 hg2
  obtain ⟨fo, fc, hv, F2⟩ := owns_any (zs := [255, 255, 255, 255, 255, 255, 255, 255, 255, 2] ++ ts) (by rw [List.map_append]; exact hown2)
  subst hv
  have FF2 : Hid (Byt w2 fo (10 + m) fc ([255, 255, 255, 255, 255, 255, 255, 255, 255, 2] ++ ts)) := F2
  have G2 : Hid (w.grownBy w2 none) := grown_new (grown_trans G1.out (World.grownBy_alloc w1 _ none)) hg2 G1.out.size
  have hsz2 : w.heap.size ≤ w2.heap.size := G2.out.size
  clear hown2 hg2 F2
  go_wp2_with fail
  refine (newReader_any fo (10 + m) fc ([255, 255, 255, 255, 255, 255, 255, 255, 255, 2] ++ ts) _ FF2.out (by omega)).mono ?_
  rintro en w3 ⟨R, rfl, hr, hg, hR⟩
  have G3 : Hid (w.grownBy w3 none) := grown_trans G2.out hg
  have R3 : Hid (Rd w3 R w2.heap.size ([255, 255, 255, 255, 255, 255, 255, 255, 255, 2] ++ ts) 0 0) := hr
  have HWR : Hid (w.heap.size ≤ R) := by show w.heap.size ≤ R; omega
  clear hr hg hR FF2
  go_wp2_with fail
  refine (v_bad R _ ([255, 255, 255, 255, 255, 255, 255, 255, 255, 2] ++ ts) 0 12 _ R3.out HBT.out (rv_wide ts) rfl).mono ?_
  rintro en w4 ⟨rfl, hr, hg⟩
  have G4 : Hid (w.grownBy w4 none) := grown_new G3.out hg HWR.out
  have R4 : Hid (Rd w4 R w2.heap.size ([255, 255, 255, 255, 255, 255, 255, 255, 255, 2] ++ ts) 0 12) := hr
  clear hr hg
  go_wp2
  go_loopw [11] (fun si wr => BrokenRel w R w2.heap.size ([255, 255, 255, 255, 255, 255, 255, 255, 255, 2] ++ ts) 12 n si wr) (fun si _ => n - (intOf si).toNat)
  case atStart => exact ⟨0, Nat.zero_le _, by omega, rfl, R4.out, G4.out⟩
  case round =>
    obtain ⟨k, hk, hk2, rfl, hr, hg⟩ := hrel
    have HR : Hid (Rd wr R w2.heap.size ([255, 255, 255, 255, 255, 255, 255, 255, 255, 2] ++ ts) 0 12) := hr
    have HG : Hid (w.grownBy wr none) := hg
    clear hr hg
    by_cases h1 : k < n
    · by_cases h2 : k < 2000
      · obtain rfl := HOO.out (by omega)
        have c0 := (HO.out.kept HG.out).at0 k h1
        have c1 := (HO.out.kept HG.out).at1 k h1
        have c2 := (HO.out.kept HG.out).at2 k h1
        have hbl : b < wr.heap.size := (HO.out.kept HG.out).lt (by omega)
        obtain ⟨K1, hK⟩ : ∃ K1, K1 = K k := ⟨_, rfl⟩
        obtain ⟨N1, hN⟩ : ∃ N1, N1 = N k := ⟨_, rfl⟩
        obtain ⟨S1, hS⟩ : ∃ S1, S1 = S k := ⟨_, rfl⟩
        rw [← hK] at c0
        rw [← hN] at c1
        rw [← hS] at c2
        clear hK hN hS
        by_cases h5 : K1 = 5
        · subst h5
          go_wp2_with fail
          refine (bytes_broken R _ ([255, 255, 255, 255, 255, 255, 255, 255, 255, 2] ++ ts) 0 12 N1 _ (HR.out.kept (World.grownBy_alloc wr _ none) (by simp) (by simp)) rfl).mono ?_
          rintro en w6 ⟨xo, rfl, hr, hg⟩
          have HR6 : Hid (Rd w6 R w2.heap.size ([255, 255, 255, 255, 255, 255, 255, 255, 255, 2] ++ ts) 0 12) := hr
          have HG6 : Hid (w.grownBy w6 none) := grown_new (grown_trans HG.out (World.grownBy_alloc wr _ none)) hg HWR.out
          clear hr hg
          go_wp2_with fail
          refine (err_any R _ ([255, 255, 255, 255, 255, 255, 255, 255, 255, 2] ++ ts) 0 12 _ HR6.out).mono ?_
          rintro en w7 ⟨rfl, hq⟩
          have HG7 : Hid (w.grownBy w7 none) := grown_trans HG6.out (hq.grown none)
          have HR7 : Hid (Rd w7 R w2.heap.size ([255, 255, 255, 255, 255, 255, 255, 255, 255, 2] ++ ts) 0 12) := HR6.out.qt hq
          clear hq
          go_wp2_with (go_at_call 21; refine (num_any _ _).mono ?_; rintro en w8 ⟨rfl, rfl⟩)
          refine (left_broken R _ ([255, 255, 255, 255, 255, 255, 255, 255, 255, 2] ++ ts) 0 12 _ HR7.out rfl).mono ?_
          rintro en w9 ⟨rfl, hq⟩
          have HG9 : Hid (w.grownBy w9 none) := grown_trans HG7.out (hq.grown none)
          have HR9 : Hid (Rd w9 R w2.heap.size ([255, 255, 255, 255, 255, 255, 255, 255, 255, 2] ++ ts) 0 12) := HR7.out.qt hq
          clear hq
          go_wp2
          go_roundw
          case rel => exact ⟨k + 1, by omega, by omega, by go_num, HR9.out, HG9.out⟩
          case measure => simp [intOf]; omega
        · have h5b : (K1 == 5) = false := by simpa using h5
          clear h5
          go_wp2_with fail
          refine (wide_any K1 _).mono ?_
          rintro en w5 ⟨rfl, hw5⟩
          have HRW : Hid (Rd w5 R w2.heap.size ([255, 255, 255, 255, 255, 255, 255, 255, 255, 2] ++ ts) 0 12) := by rw [hw5]; exact HR.out.kept (World.grownBy_alloc wr _ none) (by simp) (by simp)
          have HGW : Hid (w.grownBy w5 none) := by rw [hw5]; exact grown_trans HG.out (World.grownBy_alloc wr _ none)
          clear hw5
          go_wp2_with fail
          refine (get_broken R _ ([255, 255, 255, 255, 255, 255, 255, 255, 255, 2] ++ ts) 0 12 K1 _ HRW.out rfl).mono ?_
          rintro en w6 ⟨rfl, hr, hg⟩
          have HR6 : Hid (Rd w6 R w2.heap.size ([255, 255, 255, 255, 255, 255, 255, 255, 255, 2] ++ ts) 0 12) := hr
          have HG6 : Hid (w.grownBy w6 none) := grown_new HGW.out hg HWR.out
          clear hr hg
          go_wp2_with fail
          refine (err_any R _ ([255, 255, 255, 255, 255, 255, 255, 255, 255, 2] ++ ts) 0 12 _ HR6.out).mono ?_
          rintro en w7 ⟨rfl, hq⟩
          have HG7 : Hid (w.grownBy w7 none) := grown_trans HG6.out (hq.grown none)
          have HR7 : Hid (Rd w7 R w2.heap.size ([255, 255, 255, 255, 255, 255, 255, 255, 255, 2] ++ ts) 0 12) := HR6.out.qt hq
          clear hq
          go_wp2_with (go_at_call 21; refine (num_any _ _).mono ?_; rintro en w8 ⟨rfl, rfl⟩)
          refine (left_broken R _ ([255, 255, 255, 255, 255, 255, 255, 255, 255, 2] ++ ts) 0 12 _ HR7.out rfl).mono ?_
          rintro en w9 ⟨rfl, hq⟩
          have HG9 : Hid (w.grownBy w9 none) := grown_trans HG7.out (hq.grown none)
          have HR9 : Hid (Rd w9 R w2.heap.size ([255, 255, 255, 255, 255, 255, 255, 255, 255, 2] ++ ts) 0 12) := HR7.out.qt hq
          clear hq
          go_wp2
          go_roundw
          case rel => exact ⟨k + 1, by omega, by omega, by go_num, HR9.out, HG9.out⟩
          case measure => simp [intOf]; omega
      · have hk3 : k = 2000 := by omega
        subst hk3
        have HR6 : Hid (Rd wr R w2.heap.size ([255, 255, 255, 255, 255, 255, 255, 255, 255, 2] ++ ts) 0 12) := HR
        have HG6 : Hid (w.grownBy wr none) := HG
        go_wp2_with fail
        refine (err_any R _ ([255, 255, 255, 255, 255, 255, 255, 255, 255, 2] ++ ts) 0 12 _ HR6.out).mono ?_
        rintro en w7 ⟨rfl, hq⟩
        have HG7 : Hid (w.grownBy w7 none) := grown_trans HG6.out (hq.grown none)
        have HR7 : Hid (Rd w7 R w2.heap.size ([255, 255, 255, 255, 255, 255, 255, 255, 255, 2] ++ ts) 0 12) := HR6.out.qt hq
        clear hq
        go_wp2_with (go_at_call 21; refine (num_any _ _).mono ?_; rintro en w8 ⟨rfl, rfl⟩)
        refine (left_broken R _ ([255, 255, 255, 255, 255, 255, 255, 255, 255, 2] ++ ts) 0 12 _ HR7.out rfl).mono ?_
        rintro en w9 ⟨rfl, hq⟩
        have HG9 : Hid (w.grownBy w9 none) := grown_trans HG7.out (hq.grown none)
        have HR9 : Hid (Rd w9 R w2.heap.size ([255, 255, 255, 255, 255, 255, 255, 255, 255, 2] ++ ts) 0 12) := HR7.out.qt hq
        clear hq
        go_wp2
        go_ret
        exact ⟨rfl, Below_of HG9.out⟩
    · have hd : decide ((k : Int) < (n : Int)) = false := by simp; omega
      have HR6 : Hid (Rd wr R w2.heap.size ([255, 255, 255, 255, 255, 255, 255, 255, 255, 2] ++ ts) 0 12) := HR
      have HG6 : Hid (w.grownBy wr none) := HG
      go_wp2_with fail
      refine (err_any R _ ([255, 255, 255, 255, 255, 255, 255, 255, 255, 2] ++ ts) 0 12 _ HR6.out).mono ?_
      rintro en w7 ⟨rfl, hq⟩
      have HG7 : Hid (w.grownBy w7 none) := grown_trans HG6.out (hq.grown none)
      have HR7 : Hid (Rd w7 R w2.heap.size ([255, 255, 255, 255, 255, 255, 255, 255, 255, 2] ++ ts) 0 12) := HR6.out.qt hq
      clear hq
      go_wp2_with (go_at_call 21; refine (num_any _ _).mono ?_; rintro en w8 ⟨rfl, rfl⟩)
      refine (left_broken R _ ([255, 255, 255, 255, 255, 255, 255, 255, 255, 2] ++ ts) 0 12 _ HR7.out rfl).mono ?_
      rintro en w9 ⟨rfl, hq⟩
      have HG9 : Hid (w.grownBy w9 none) := grown_trans HG7.out (hq.grown none)
      have HR9 : Hid (Rd w9 R w2.heap.size ([255, 255, 255, 255, 255, 255, 255, 255, 255, 2] ++ ts) 0 12) := HR7.out.qt hq
      clear hq
      go_wp2
      go_ret
      exact ⟨rfl, Below_of HG9.out⟩

set_option maxHeartbeats 4000000 in
set_option maxRecDepth 100000 in
theorem broken_3 (ao : Option Addr) (m c : Nat) (how : Int) (b off n oc : Nat) (K N : Nat → Int) (S : Nat → Bool) (oo : Option Addr) (w : World) (ts : List Int) (hb : Byt w ao m c ts) (hbt : Bt ts) (hm : m ≤ 65536)
    (hn : n ≤ 9223372036854775807) (hoo : 0 < n → oo = some ⟨b, off, none⟩) (ho : OpsAt w b off n K N S) (hh : (how.tmod 4 + 4) % 4 = 3) :
    Calls Try.prog 8 #[.slice ao m c, .int .i64 how, .slice oo n oc] w fun e w' => e = .returned (.bool true) ∧ Below w.heap.size w w' := by
  have HB : Hid (Byt w ao m c ts) := hb
  have HO : Hid (OpsAt w b off n K N S) := ho
  have HOO : Hid (0 < n → oo = some ⟨b, off, none⟩) := hoo
  obtain ⟨ht1, ht2⟩ := tmod4 how
  have HML : Hid (ts.length = m) := hb.len
  have HLEN : Hid (ts.length = m) := HML.out
  have HBT : Hid (Bt ts) := hbt
  clear hb ho hoo
  go_enter Try.func8, Try.ntmps8
  go_wp2_with fail
  refine (first_any _).mono ?_
  rintro en w1 ⟨rfl, hg⟩
  have G1 : Hid (w.grownBy w1 none) := hg
  have B1 : Hid (Byt w1 ao m c ts) := HB.out.keptN hg
  clear hg HB
  skip
  go_wp2_with (at_builtin; refine wpList_append_byt rfl _ _ rfl w1.heap.size _ 0 [] rfl (World.ownsRow_nil _ _ _ _) ao m c ts rfl B1.out (by omega) (Nat.le_refl _) ?_)
  intro v' w2 hown2 hg2
  obtain ⟨fo, fc, hv, F2⟩ := owns_any (zs := ts) (by simpa using hown2)
  subst hv
  have FF2 : Hid (Byt w2 fo m fc ts) := F2
  have G2 : Hid (w.grownBy w2 none) := grown_trans G1.out hg2
  have hsz2 : w.heap.size ≤ w2.heap.size := G2.out.size
  clear hown2 hg2 F2
  go_wp2_with fail
  refine (newReader_any fo m fc ts _ FF2.out (by omega)).mono ?_
  rintro en w3 ⟨R, rfl, hr, hg, hR⟩
  have G3 : Hid (w.grownBy w3 none) := grown_trans G2.out hg
  have R3 : Hid (Rd w3 R w2.heap.size ts 0 0) := hr
  have HWR : Hid (w.heap.size ≤ R) := by show w.heap.size ≤ R; omega
  clear hr hg hR FF2
  go_wp2_with fail
  refine (bytes_neg R _ ts 0 _ _ R3.out (by omega)).mono ?_
  rintro en w4 ⟨rfl, hr, hg⟩
  have G4 : Hid (w.grownBy w4 none) := grown_new G3.out hg HWR.out
  have R4 : Hid (Rd w4 R w2.heap.size ts 0 10) := hr
  clear hr hg
  go_wp2
  go_loopw [11] (fun si wr => BrokenRel w R w2.heap.size ts 10 n si wr) (fun si _ => n - (intOf si).toNat)
  case atStart => exact ⟨0, Nat.zero_le _, by omega, rfl, R4.out, G4.out⟩
  case round =>
    obtain ⟨k, hk, hk2, rfl, hr, hg⟩ := hrel
    have HR : Hid (Rd wr R w2.heap.size ts 0 10) := hr
    have HG : Hid (w.grownBy wr none) := hg
    clear hr hg
    by_cases h1 : k < n
    · by_cases h2 : k < 2000
      · obtain rfl := HOO.out (by omega)
        have c0 := (HO.out.kept HG.out).at0 k h1
        have c1 := (HO.out.kept HG.out).at1 k h1
        have c2 := (HO.out.kept HG.out).at2 k h1
        have hbl : b < wr.heap.size := (HO.out.kept HG.out).lt (by omega)
        obtain ⟨K1, hK⟩ : ∃ K1, K1 = K k := ⟨_, rfl⟩
        obtain ⟨N1, hN⟩ : ∃ N1, N1 = N k := ⟨_, rfl⟩
        obtain ⟨S1, hS⟩ : ∃ S1, S1 = S k := ⟨_, rfl⟩
        rw [← hK] at c0
        rw [← hN] at c1
        rw [← hS] at c2
        clear hK hN hS
        by_cases h5 : K1 = 5
        · subst h5
          go_wp2_with fail
          refine (bytes_broken R _ ts 0 10 N1 _ (HR.out.kept (World.grownBy_alloc wr _ none) (by simp) (by simp)) rfl).mono ?_
          rintro en w6 ⟨xo, rfl, hr, hg⟩
          have HR6 : Hid (Rd w6 R w2.heap.size ts 0 10) := hr
          have HG6 : Hid (w.grownBy w6 none) := grown_new (grown_trans HG.out (World.grownBy_alloc wr _ none)) hg HWR.out
          clear hr hg
          go_wp2_with fail
          refine (err_any R _ ts 0 10 _ HR6.out).mono ?_
          rintro en w7 ⟨rfl, hq⟩
          have HG7 : Hid (w.grownBy w7 none) := grown_trans HG6.out (hq.grown none)
          have HR7 : Hid (Rd w7 R w2.heap.size ts 0 10) := HR6.out.qt hq
          clear hq
          go_wp2_with (go_at_call 21; refine (num_any _ _).mono ?_; rintro en w8 ⟨rfl, rfl⟩)
          refine (left_broken R _ ts 0 10 _ HR7.out rfl).mono ?_
          rintro en w9 ⟨rfl, hq⟩
          have HG9 : Hid (w.grownBy w9 none) := grown_trans HG7.out (hq.grown none)
          have HR9 : Hid (Rd w9 R w2.heap.size ts 0 10) := HR7.out.qt hq
          clear hq
          go_wp2
          go_roundw
          case rel => exact ⟨k + 1, by omega, by omega, by go_num, HR9.out, HG9.out⟩
          case measure => simp [intOf]; omega
        · have h5b : (K1 == 5) = false := by simpa using h5
          clear h5
          go_wp2_with fail
          refine (wide_any K1 _).mono ?_
          rintro en w5 ⟨rfl, hw5⟩
          have HRW : Hid (Rd w5 R w2.heap.size ts 0 10) := by rw [hw5]; exact HR.out.kept (World.grownBy_alloc wr _ none) (by simp) (by simp)
          have HGW : Hid (w.grownBy w5 none) := by rw [hw5]; exact grown_trans HG.out (World.grownBy_alloc wr _ none)
          clear hw5
          go_wp2_with fail
          refine (get_broken R _ ts 0 10 K1 _ HRW.out rfl).mono ?_
          rintro en w6 ⟨rfl, hr, hg⟩
          have HR6 : Hid (Rd w6 R w2.heap.size ts 0 10) := hr
          have HG6 : Hid (w.grownBy w6 none) := grown_new HGW.out hg HWR.out
          clear hr hg
          go_wp2_with fail
          refine (err_any R _ ts 0 10 _ HR6.out).mono ?_
          rintro en w7 ⟨rfl, hq⟩
          have HG7 : Hid (w.grownBy w7 none) := grown_trans HG6.out (hq.grown none)
          have HR7 : Hid (Rd w7 R w2.heap.size ts 0 10) := HR6.out.qt hq
          clear hq
          go_wp2_with (go_at_call 21; refine (num_any _ _).mono ?_; rintro en w8 ⟨rfl, rfl⟩)
          refine (left_broken R _ ts 0 10 _ HR7.out rfl).mono ?_
          rintro en w9 ⟨rfl, hq⟩
          have HG9 : Hid (w.grownBy w9 none) := grown_trans HG7.out (hq.grown none)
          have HR9 : Hid (Rd w9 R w2.heap.size ts 0 10) := HR7.out.qt hq
          clear hq
          go_wp2
          go_roundw
          case rel => exact ⟨k + 1, by omega, by omega, by go_num, HR9.out, HG9.out⟩
          case measure => simp [intOf]; omega
      · have hk3 : k = 2000 := by omega
        subst hk3
        have HR6 : Hid (Rd wr R w2.heap.size ts 0 10) := HR
        have HG6 : Hid (w.grownBy wr none) := HG
        go_wp2_with fail
        refine (err_any R _ ts 0 10 _ HR6.out).mono ?_
        rintro en w7 ⟨rfl, hq⟩
        have HG7 : Hid (w.grownBy w7 none) := grown_trans HG6.out (hq.grown none)
        have HR7 : Hid (Rd w7 R w2.heap.size ts 0 10) := HR6.out.qt hq
        clear hq
        go_wp2_with (go_at_call 21; refine (num_any _ _).mono ?_; rintro en w8 ⟨rfl, rfl⟩)
        refine (left_broken R _ ts 0 10 _ HR7.out rfl).mono ?_
        rintro en w9 ⟨rfl, hq⟩
        have HG9 : Hid (w.grownBy w9 none) := grown_trans HG7.out (hq.grown none)
        have HR9 : Hid (Rd w9 R w2.heap.size ts 0 10) := HR7.out.qt hq
        clear hq
        go_wp2
        go_ret
        exact ⟨rfl, Below_of HG9.out⟩
    · have hd : decide ((k : Int) < (n : Int)) = false := by simp; omega
      have HR6 : Hid (Rd wr R w2.heap.size ts 0 10) := HR
      have HG6 : Hid (w.grownBy wr none) := HG
      go_wp2_with fail
      refine (err_any R _ ts 0 10 _ HR6.out).mono ?_
      rintro en w7 ⟨rfl, hq⟩
      have HG7 : Hid (w.grownBy w7 none) := grown_trans HG6.out (hq.grown none)
      have HR7 : Hid (Rd w7 R w2.heap.size ts 0 10) := HR6.out.qt hq
      clear hq
      go_wp2_with (go_at_call 21; refine (num_any _ _).mono ?_; rintro en w8 ⟨rfl, rfl⟩)
      refine (left_broken R _ ts 0 10 _ HR7.out rfl).mono ?_
      rintro en w9 ⟨rfl, hq⟩
      have HG9 : Hid (w.grownBy w9 none) := grown_trans HG7.out (hq.grown none)
      have HR9 : Hid (Rd w9 R w2.heap.size ts 0 10) := HR7.out.qt hq
      clear hq
      go_wp2
      go_ret
      exact ⟨rfl, Below_of HG9.out⟩

end Go.Proofs.Ythebdbdahdegfaa
