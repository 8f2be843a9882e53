import Derived.Test.YtopgcnoijagoiaaPl8
namespace Go.Proofs.Ytopgcnoijagoiaa
open Go.RowKit Go.Maps

/-- May that number be given up? -/
def fI (c : Int) (fr : List Int) (x : Int) : Bool := !decide (x ∈ fr) && decide (2 ≤ x) && decide (x < c)
def fN (b : Bool) (c : Int) (fr g : List Int) (i : Nat) : Bool := b && (g.take i).all (fI c fr)
theorem fN_succ (b : Bool) (c : Int) (fr g : List Int) {i : Nat} (h : i < g.length) : fN b c fr g (i + 1) = (fN b c fr g i && fI c fr (g.getD i 0)) := by
  unfold fN
  rw [take_snoc h, List.all_append, Bool.and_assoc]
  simp
theorem has_new (fr : List Int) (x : Int) : hasI (fr.map fun y => (y, (0 : Int))) x = decide (x ∈ fr) := by
  rw [Bool.eq_iff_iff, hasI_iff, decide_eq_true_eq]
  constructor
  · rintro ⟨p, hp, rfl⟩
    obtain ⟨y, hy, rfl⟩ := List.mem_map.1 hp
    exact hy
  · intro hx
    exact ⟨(x, 0), List.mem_map.2 ⟨x, hx, rfl⟩, rfl⟩
theorem fine_may {c k d : Int} {fr g : List Int} (h : fN (decide (0 ≤ d) && rz g) c fr g g.length = true) : 0 ≤ d ∧ mayP (newP c k fr) g = true := by
  unfold fN at h
  simp only [Bool.and_eq_true, decide_eq_true_eq, rz_iff, List.take_length, List.all_eq_true, fI, Bool.not_eq_true', decide_eq_false_iff_not] at h
  obtain ⟨⟨h1, h2⟩, h3⟩ := h
  refine ⟨h1, ?_⟩
  unfold mayP noF
  rw [Bool.and_eq_true]
  constructor
  · rw [List.all_eq_true]
    intro x hx
    show (!hasI (fr.map fun y => (y, (0 : Int))) x) = true
    rw [has_new]
    simp [(h3 x hx).1.1]
  · exact (rp_iff 1 c g).2 ⟨h2, fun x hx => ⟨by have := (h3 x hx).1.2; omega, (h3 x hx).2⟩⟩
theorem fine_not {c k d : Int} {fr g : List Int} (h : fN (decide (0 ≤ d) && rz g) c fr g g.length = false) : lsP (newP c k fr) d g = -1 := by
  unfold lsP
  rw [if_pos]
  by_cases h0 : d < 0
  · exact .inl h0
  · right
    cases hm : mayP (newP c k fr) g with
    | false => rfl
    | true =>
      exfalso
      unfold mayP noF at hm
      rw [Bool.and_eq_true, List.all_eq_true, rp_iff] at hm
      obtain ⟨h1, h2, h3⟩ := hm
      have : fN (decide (0 ≤ d) && rz g) c fr g g.length = true := by
        unfold fN
        simp only [Bool.and_eq_true, decide_eq_true_eq, rz_iff, List.take_length, List.all_eq_true, fI, Bool.not_eq_true', decide_eq_false_iff_not]
        refine ⟨⟨by omega, h2⟩, fun x hx => ⟨⟨fun hf => ?_, by have := h3 x hx; omega⟩, (h3 x hx).2⟩⟩
        have := h1 x hx
        have e : hasI (fr.map fun y => (y, (0 : Int))) x = true := by rw [has_new]; simp [hf]
        rw [show (newP c k fr).l = fr.map fun y => (y, (0 : Int)) from rfl, e] at this
        simp at this
      rw [h] at this
      cases this
theorem us_new (c k : Int) (fr : List Int) : us (newP c k fr) = fr := by
  show ((fr.map fun x => (x, (0 : Int))).filter fun x => ([] : List (Int × Int)).all fun y => decide (x.2 ≤ y.1)).map (·.1) = fr
  have e : ((fr.map fun x => (x, (0 : Int))).filter fun x => ([] : List (Int × Int)).all fun y => decide (x.2 ≤ y.1)) = fr.map fun x => (x, (0 : Int)) := List.filter_eq_self.2 (fun x _ => rfl)
  rw [e, List.map_map]
  exact List.map_id fr

/-- What Lists says of a pool that is new. -/
structure Ln (n m f : Nat) (d : Int) : Prop where
  top : (f : Int) ≤ ((n : Int) + m + 1020) / 1021
  fit : (n : Int) - min (n : Int) (min d 1099511627776 + f) + m ≤ 1021 * f
  less : f = 0 ∨ 1021 * ((f : Int) - 1) < (n : Int) - min (n : Int) (min d 1099511627776 + f - 1) + m
set_option maxRecDepth 100000 in
theorem ln_of {n m : Nat} {d : Int} (hd : 0 ≤ d) (hn : n ≤ 4000) : Ln n m (lst (n + m) n (min d n).toNat) d := by
  have h := lst_ok (n + m) n (min d n).toNat
  generalize lst (n + m) n (min d n).toNat = f at *
  have hs := h.stop
  refine ⟨?_, ?_, ?_⟩
  · by_cases h0 : f = 0
    · subst h0; omega
    · have := h.go (f - 1) (by omega)
      omega
  · omega
  · by_cases h0 : f = 0
    · exact .inl h0
    · have := h.go (f - 1) (by omega)
      right
      omega
theorem ls_new {c k d : Int} {fr g : List Int} (hd : 0 ≤ d) (hm : mayP (newP c k fr) g = true) : lsP (newP c k fr) d g = (lst (fr.length + g.length) fr.length (min d fr.length).toNat : Nat) := by
  unfold lsP
  rw [if_neg (by rw [hm]; simp; omega), us_new]
  show ((lst ((fr.map fun x => (x, (0 : Int))).length + g.length) fr.length _ : Nat) : Int) = _
  rw [List.length_map]
theorem newP_ok {c k : Int} {fr : List Int} (h : newOk c k fr = true) : Ok (newP c k fr) := by
  simp only [newOk, Bool.and_eq_true, decide_eq_true_eq, rp_iff] at h
  obtain ⟨⟨⟨h1, h2⟩, h3⟩, h4, h5⟩ := h
  refine ⟨h1, h2, h3, fun x hx => ?_⟩
  obtain ⟨y, hy, rfl⟩ := List.mem_map.1 hx
  have := h5 y hy
  exact ⟨by show 2 ≤ y; omega, this.2⟩

set_option maxHeartbeats 4000000 in
set_option maxRecDepth 100000 in
theorem poolLists_walk (c k : Int) (a : Option Addr) (n cap : Nat) (fr : List Int) (ga : Option Addr) (m gcap : Nat) (g : List Int) (d : Int) (w : World)
    (hl : Nt w a fr) (hn : fr.length = n) (hw : Wf fr) (hl2 : Nt w ga g) (hm : g.length = m) (hw2 : Wf g) (hd : -9223372036854775808 ≤ d ∧ d ≤ 9223372036854775807) (hb : n ≤ 9000000000000000000) (hb2 : m ≤ 9000000000000000000) :
    Calls Try.prog 6 #[.int .i64 c, .int .i64 k, .slice a n cap, .slice ga m gcap, .int .i64 d] w fun en w' => en = .returned (.bool true) ∧ w.grownBy w' none := by
  have HL := hid_intro hl
  have HL2 := hid_intro hl2
  have HW := hid_intro hw
  have HW2 := hid_intro hw2
  have HD := hid_intro hd
  clear hl hl2 hw hw2 hd
  cases hfit : (decide (k ≤ 20000) && decide (n ≤ 4000)) with
  | false =>
    go_enter Try.func6, Try.ntmps6
    go_wp2_with (first
      | (go_at_call 7; refine (first17_any _).mono ?_; rintro en w1 ⟨rfl, hg1⟩; have HG1 := hid_intro hg1; clear hg1)
      | (go_at_call 10; refine (fits_any k a n cap _).mono ?_; rw [hfit]; rintro en w1 ⟨rfl, rfl⟩))
    go_ret
    exact ⟨rfl, HG1.out⟩
  | true =>
    simp only [Bool.and_eq_true, decide_eq_true_eq] at hfit
    obtain ⟨hk, hn4⟩ := hfit
    have hfit : (decide (k ≤ 20000) && decide (n ≤ 4000)) = true := by simp [hk, hn4]
    have HFT := hid_intro hfit
    clear hfit
    by_cases hm4 : 4000 < m
    · have hm4' : (4000 : Int) < (m : Int) := by omega
      go_enter Try.func6, Try.ntmps6
      go_wp2_with (first
        | (go_at_call 7; refine (first17_any _).mono ?_; rintro en w1 ⟨rfl, hg1⟩; have HG1 := hid_intro hg1; clear hg1)
        | (go_at_call 10; refine (fits_any k a n cap _).mono ?_; rw [HFT.out]; rintro en w1 ⟨rfl, rfl⟩))
      go_ret
      exact ⟨rfl, HG1.out⟩
    · have hm4' : decide ((4000 : Int) < (m : Int)) = false := by simp; omega
      go_enter Try.func6, Try.ntmps6
      go_wp2_with fail
      refine (first17_any _).mono ?_
      rintro en w1 ⟨rfl, hg1⟩
      have HG1 := hid_intro hg1
      clear hg1
      go_wp2_with fail
      refine (fits_any k a n cap _).mono ?_
      rw [HFT.out]
      rintro en w1 ⟨rfl, rfl⟩
      go_wp2_with fail
      refine (refInts_any a n cap fr _ (HL.out.keptN HG1.out) hn (by omega)).mono ?_
      rintro en w2 ⟨⟨v, rfl, ho⟩, hg2, hs2⟩
      obtain ⟨va, vc, rfl, hnt, -⟩ := owns_ints ho
      have HG2 := hid_intro (grown_trans HG1.out hg2)
      have HN2 := hid_intro hnt
      clear ho hg2 hs2 hnt HG1
      cases hok : newOk c k fr with
      | false =>
        go_wp2_with (first
          | (go_at_call 12; refine (new_no c k va n vc fr _ HN2.out hn (by omega) hok).mono ?_; rintro en w2 ⟨rfl, rfl⟩))
        go_ret
        exact ⟨rfl, HG2.out⟩
      | true =>
        go_wp2_with fail
        refine (new_yes c k va n vc fr _ HN2.out hn (by omega) hok).mono ?_
        rintro en w3 ⟨B, s, q, rfl, hp, hg3, hb3⟩
        have HP3 := hid_intro hp
        have HG3 := hid_intro (grown_trans HG2.out hg3)
        clear hp hg3 hb3 HN2 HG2
        go_wp2_with fail
        refine (refInts_any ga m gcap g _ (HL2.out.keptN HG3.out) hm (by omega)).mono ?_
        rintro en w4 ⟨⟨v4, rfl, ho⟩, hg4, hs4⟩
        obtain ⟨va4, vc4, rfl, hnt, -⟩ := owns_ints ho
        have HG4 := hid_intro (grown_trans HG3.out hg4)
        have HP4 := hid_intro (HP3.out.keptN hg4)
        have HN4 := hid_intro hnt
        clear ho hg4 hs4 hnt HG3 HP3
        go_wp2_with fail
        refine (lists_any HP4.out (newP_ok hok) d va4 m vc4 g HN4.out hm HW2.out (by omega) HD.out.2).mono ?_
        rintro en w5 ⟨rfl, hg5⟩
        have HG5 := hid_intro (grown_trans HG4.out hg5)
        have HLS : Hid (fN (decide (0 ≤ d) && rz g) c fr g m = false → lsP (newP c k fr) d g = -1) := by
          intro h
          rw [← hm] at h
          exact fine_not h
        have HLY : Hid (fN (decide (0 ≤ d) && rz g) c fr g m = true → ∃ f : Nat, lsP (newP c k fr) d g = f ∧ Ln n m f d ∧ 0 ≤ d) := by
          intro h
          rw [← hm] at h
          obtain ⟨h1, h2⟩ := fine_may (k := k) h
          refine ⟨_, ls_new h1 h2, ?_, h1⟩
          rw [hn, hm]
          exact ln_of h1 hn4
        have hlr := lsP_range (newP_ok hok) HP4.out.ms.ris d g (by omega)
        clear hg5 HG4 HP4 HN4 hok
        generalize lsP (newP c k fr) d g = f at *
        have HBS : Hid (∀ W, w.grownBy W none → Calls Try.prog 16 #[.slice ga m gcap] W fun en w' => en = .returned (.bool (rz g)) ∧ Qt W w') := fun W hW => riseL_any ga m gcap g W (HL2.out.keptN hW) hm (by omega)
        have HST : Hid (∀ b, (decide (0 ≤ d) && rz g) = b → Value.bool b = Value.bool (fN (decide (0 ≤ d) && rz g) c fr g 0)) := by
          intro b hb
          rw [hb]
          unfold fN
          simp
        rcases (show (d < 0 ∧ (decide (0 ≤ d) && rz g) = false) ∨ (0 ≤ d ∧ rz g = false ∧ (decide (0 ≤ d) && rz g) = false) ∨ (0 ≤ d ∧ rz g = true ∧ (decide (0 ≤ d) && rz g) = true) by
          by_cases h0 : d < 0
          · exact .inl ⟨h0, by simp; omega⟩
          · right
            cases hr : rz g
            · exact .inl ⟨by omega, rfl, by simp⟩
            · exact .inr ⟨by omega, rfl, by simp; omega⟩) with ⟨h0, hb0⟩ | ⟨h0, hr, hb0⟩ | ⟨h0, hr, hb0⟩
        · have hd0 : decide (0 ≤ d) = false := by simp; omega
          have HB0 := hid_intro (HST.out _ hb0)
          clear hb0
          go_wp2
          have HQ6 := hid_intro HG5.out
          clear HBS HST
          go_loopw [14, 15, 16] (fun sb si _ wr => ∃ i : Nat, i ≤ m ∧ si = .int .i64 i ∧ sb = .bool (fN (decide (0 ≤ d) && rz g) c fr g i) ∧ w.grownBy wr none) (fun _ si _ _ => m - (zOf si).toNat)
          case atStart => exact ⟨0, Nat.zero_le _, rfl, HB0.out, HQ6.out⟩
          case round =>
            obtain ⟨i, hi, rfl, hsb, hg⟩ := hrel
            have HG := hid_intro hg
            clear hg HQ6 HG5 HB0
            by_cases hlt : i < m
            · obtain ⟨b, off, rfl, q0⟩ := HL2.out.row i (by omega)
              have c0 := HG.out.cell q0 (by simp)
              have HS := hid_intro (fN_succ (decide (0 ≤ d) && rz g) c fr g (i := i) (by omega))
              have HH := hid_intro (fun (W : World) (hW : w.grownBy W none) => hasL_any a n cap fr (g.getD i 0) W (HL.out.keptN hW) hn (by omega))
              clear q0
              generalize g.getD i 0 = x at *
              cases hF : fN (decide (0 ≤ d) && rz g) c fr g i with
              | false =>
                rw [hF] at hsb
                subst hsb
                obtain ⟨bx, hxd⟩ : ∃ bx, decide (x ∈ fr) = bx := ⟨_, rfl⟩
                have HS2 : Hid (fN (decide (0 ≤ d) && rz g) c fr g (i + 1) = false) := by
                  show _ = _
                  rw [HS.out, hF]
                  simp [fI, hxd]
                clear HS hF
                go_wp2_with (go_at_call 17; refine (HH.out _ HG.out).mono ?_; rw [hxd]; rintro en w9 ⟨rfl, rfl⟩)
                go_roundw
                case rel => exact ⟨i + 1, by omega, by go_num, by rw [HS2.out], HG.out⟩
                case measure => simp [zOf]; omega
              | true =>
                rw [hF] at hsb
                subst hsb
                by_cases hx : x ∈ fr
                · have hxd : decide (x ∈ fr) = true := by simp [hx]
                  have HS2 : Hid (fN (decide (0 ≤ d) && rz g) c fr g (i + 1) = false) := by
                    show _ = _
                    rw [HS.out, hF]
                    simp [fI, hxd]
                  clear HS hF
                  go_wp2_with (go_at_call 17; refine (HH.out _ HG.out).mono ?_; rw [hxd]; rintro en w9 ⟨rfl, rfl⟩)
                  go_roundw
                  case rel => exact ⟨i + 1, by omega, by go_num, by rw [HS2.out], HG.out⟩
                  case measure => simp [zOf]; omega
                · have hxd : decide (x ∈ fr) = false := by simp [hx]
                  by_cases hx2 : 2 ≤ x
                  · have hx2d : decide (2 ≤ x) = true := by simp [hx2]
                    by_cases hxc : x < c
                    · have hxcd : decide (x < c) = true := by simp [hxc]
                      have HS2 : Hid (fN (decide (0 ≤ d) && rz g) c fr g (i + 1) = true) := by
                        show _ = _
                        rw [HS.out, hF]
                        simp [fI, hxd, hx2, hxc]
                      clear HS hF
                      go_wp2_with (go_at_call 17; refine (HH.out _ HG.out).mono ?_; rw [hxd]; rintro en w9 ⟨rfl, rfl⟩)
                      go_roundw
                      case rel => exact ⟨i + 1, by omega, by go_num, by rw [HS2.out], HG.out⟩
                      case measure => simp [zOf]; omega
                    · have hxcd : decide (x < c) = false := by simp; omega
                      have HS2 : Hid (fN (decide (0 ≤ d) && rz g) c fr g (i + 1) = false) := by
                        show _ = _
                        rw [HS.out, hF]
                        simp [fI, hxd, hx2, hxc]
                      clear HS hF
                      go_wp2_with (go_at_call 17; refine (HH.out _ HG.out).mono ?_; rw [hxd]; rintro en w9 ⟨rfl, rfl⟩)
                      go_roundw
                      case rel => exact ⟨i + 1, by omega, by go_num, by rw [HS2.out], HG.out⟩
                      case measure => simp [zOf]; omega
                  · have hx2d : decide (2 ≤ x) = false := by simp; omega
                    have HS2 : Hid (fN (decide (0 ≤ d) && rz g) c fr g (i + 1) = false) := by
                      show _ = _
                      rw [HS.out, hF]
                      simp [fI, hxd, hx2]
                    clear HS hF
                    go_wp2_with (go_at_call 17; refine (HH.out _ HG.out).mono ?_; rw [hxd]; rintro en w9 ⟨rfl, rfl⟩)
                    go_roundw
                    case rel => exact ⟨i + 1, by omega, by go_num, by rw [HS2.out], HG.out⟩
                    case measure => simp [zOf]; omega
            · have him : i = m := by omega
              subst him
              cases hF : fN (decide (0 ≤ d) && rz g) c fr g i with
              | false =>
                rw [hF] at hsb
                subst hsb
                have hf1 := HLS.out hF
                subst hf1
                clear HLS HLY hF
                go_wp2
                go_ret
                exact ⟨rfl, HG.out⟩
              | true =>
                rw [hF] at hsb
                subst hsb
                obtain ⟨F, hF2, hln, hd1⟩ := HLY.out hF
                omega
        · have hd0 : decide (0 ≤ d) = true := by simp; omega
          have HB0 := hid_intro (HST.out _ hb0)
          clear hb0
          go_wp2_with fail
          refine (HBS.out _ HG5.out).mono ?_
          rw [hr]
          rintro en w6 ⟨rfl, hq6⟩
          have HQ6 := hid_intro (grown_trans HG5.out (hq6.grown none))
          clear hq6
          go_wp2
          clear HBS HST
          go_loopw [14, 15, 16] (fun sb si _ wr => ∃ i : Nat, i ≤ m ∧ si = .int .i64 i ∧ sb = .bool (fN (decide (0 ≤ d) && rz g) c fr g i) ∧ w.grownBy wr none) (fun _ si _ _ => m - (zOf si).toNat)
          case atStart => exact ⟨0, Nat.zero_le _, rfl, HB0.out, HQ6.out⟩
          case round =>
            obtain ⟨i, hi, rfl, hsb, hg⟩ := hrel
            have HG := hid_intro hg
            clear hg HQ6 HG5 HB0
            by_cases hlt : i < m
            · obtain ⟨b, off, rfl, q0⟩ := HL2.out.row i (by omega)
              have c0 := HG.out.cell q0 (by simp)
              have HS := hid_intro (fN_succ (decide (0 ≤ d) && rz g) c fr g (i := i) (by omega))
              have HH := hid_intro (fun (W : World) (hW : w.grownBy W none) => hasL_any a n cap fr (g.getD i 0) W (HL.out.keptN hW) hn (by omega))
              clear q0
              generalize g.getD i 0 = x at *
              cases hF : fN (decide (0 ≤ d) && rz g) c fr g i with
              | false =>
                rw [hF] at hsb
                subst hsb
                obtain ⟨bx, hxd⟩ : ∃ bx, decide (x ∈ fr) = bx := ⟨_, rfl⟩
                have HS2 : Hid (fN (decide (0 ≤ d) && rz g) c fr g (i + 1) = false) := by
                  show _ = _
                  rw [HS.out, hF]
                  simp [fI, hxd]
                clear HS hF
                go_wp2_with (go_at_call 17; refine (HH.out _ HG.out).mono ?_; rw [hxd]; rintro en w9 ⟨rfl, rfl⟩)
                go_roundw
                case rel => exact ⟨i + 1, by omega, by go_num, by rw [HS2.out], HG.out⟩
                case measure => simp [zOf]; omega
              | true =>
                rw [hF] at hsb
                subst hsb
                by_cases hx : x ∈ fr
                · have hxd : decide (x ∈ fr) = true := by simp [hx]
                  have HS2 : Hid (fN (decide (0 ≤ d) && rz g) c fr g (i + 1) = false) := by
                    show _ = _
                    rw [HS.out, hF]
                    simp [fI, hxd]
                  clear HS hF
                  go_wp2_with (go_at_call 17; refine (HH.out _ HG.out).mono ?_; rw [hxd]; rintro en w9 ⟨rfl, rfl⟩)
                  go_roundw
                  case rel => exact ⟨i + 1, by omega, by go_num, by rw [HS2.out], HG.out⟩
                  case measure => simp [zOf]; omega
                · have hxd : decide (x ∈ fr) = false := by simp [hx]
                  by_cases hx2 : 2 ≤ x
                  · have hx2d : decide (2 ≤ x) = true := by simp [hx2]
                    by_cases hxc : x < c
                    · have hxcd : decide (x < c) = true := by simp [hxc]
                      have HS2 : Hid (fN (decide (0 ≤ d) && rz g) c fr g (i + 1) = true) := by
                        show _ = _
                        rw [HS.out, hF]
                        simp [fI, hxd, hx2, hxc]
                      clear HS hF
                      go_wp2_with (go_at_call 17; refine (HH.out _ HG.out).mono ?_; rw [hxd]; rintro en w9 ⟨rfl, rfl⟩)
                      go_roundw
                      case rel => exact ⟨i + 1, by omega, by go_num, by rw [HS2.out], HG.out⟩
                      case measure => simp [zOf]; omega
                    · have hxcd : decide (x < c) = false := by simp; omega
                      have HS2 : Hid (fN (decide (0 ≤ d) && rz g) c fr g (i + 1) = false) := by
                        show _ = _
                        rw [HS.out, hF]
                        simp [fI, hxd, hx2, hxc]
                      clear HS hF
                      go_wp2_with (go_at_call 17; refine (HH.out _ HG.out).mono ?_; rw [hxd]; rintro en w9 ⟨rfl, rfl⟩)
                      go_roundw
                      case rel => exact ⟨i + 1, by omega, by go_num, by rw [HS2.out], HG.out⟩
                      case measure => simp [zOf]; omega
                  · have hx2d : decide (2 ≤ x) = false := by simp; omega
                    have HS2 : Hid (fN (decide (0 ≤ d) && rz g) c fr g (i + 1) = false) := by
                      show _ = _
                      rw [HS.out, hF]
                      simp [fI, hxd, hx2]
                    clear HS hF
                    go_wp2_with (go_at_call 17; refine (HH.out _ HG.out).mono ?_; rw [hxd]; rintro en w9 ⟨rfl, rfl⟩)
                    go_roundw
                    case rel => exact ⟨i + 1, by omega, by go_num, by rw [HS2.out], HG.out⟩
                    case measure => simp [zOf]; omega
            · have him : i = m := by omega
              subst him
              cases hF : fN (decide (0 ≤ d) && rz g) c fr g i with
              | false =>
                rw [hF] at hsb
                subst hsb
                have hf1 := HLS.out hF
                subst hf1
                clear HLS HLY hF
                go_wp2
                go_ret
                exact ⟨rfl, HG.out⟩
              | true =>
                rw [hF] at hsb
                subst hsb
                obtain ⟨F, hF2, hln, hd1⟩ := HLY.out hF
                subst hF2
                clear HLS HLY hF
                have t1 := hln.top
                have t2 := hln.fit
                rcases hln.less with t3 | t3
                · subst t3
                  clear hln
                  go_wp2
                  go_ret
                  exact ⟨rfl, HG.out⟩
                · have t4 : decide (1021 * ((F : Int) - 1) < (n : Int) - min (n : Int) (min d 1099511627776 + F - 1) + i) = true := decide_eq_true t3
                  clear hln
                  go_wp2
                  all_goals
                    go_ret
                    exact ⟨by simp, HG.out⟩
        · have hd0 : decide (0 ≤ d) = true := by simp; omega
          have HB0 := hid_intro (HST.out _ hb0)
          clear hb0
          go_wp2_with fail
          refine (HBS.out _ HG5.out).mono ?_
          rw [hr]
          rintro en w6 ⟨rfl, hq6⟩
          have HQ6 := hid_intro (grown_trans HG5.out (hq6.grown none))
          clear hq6
          go_wp2
          clear HBS HST
          go_loopw [14, 15, 16] (fun sb si _ wr => ∃ i : Nat, i ≤ m ∧ si = .int .i64 i ∧ sb = .bool (fN (decide (0 ≤ d) && rz g) c fr g i) ∧ w.grownBy wr none) (fun _ si _ _ => m - (zOf si).toNat)
          case atStart => exact ⟨0, Nat.zero_le _, rfl, HB0.out, HQ6.out⟩
          case round =>
            obtain ⟨i, hi, rfl, hsb, hg⟩ := hrel
            have HG := hid_intro hg
            clear hg HQ6 HG5 HB0
            by_cases hlt : i < m
            · obtain ⟨b, off, rfl, q0⟩ := HL2.out.row i (by omega)
              have c0 := HG.out.cell q0 (by simp)
              have HS := hid_intro (fN_succ (decide (0 ≤ d) && rz g) c fr g (i := i) (by omega))
              have HH := hid_intro (fun (W : World) (hW : w.grownBy W none) => hasL_any a n cap fr (g.getD i 0) W (HL.out.keptN hW) hn (by omega))
              clear q0
              generalize g.getD i 0 = x at *
              cases hF : fN (decide (0 ≤ d) && rz g) c fr g i with
              | false =>
                rw [hF] at hsb
                subst hsb
                obtain ⟨bx, hxd⟩ : ∃ bx, decide (x ∈ fr) = bx := ⟨_, rfl⟩
                have HS2 : Hid (fN (decide (0 ≤ d) && rz g) c fr g (i + 1) = false) := by
                  show _ = _
                  rw [HS.out, hF]
                  simp [fI, hxd]
                clear HS hF
                go_wp2_with (go_at_call 17; refine (HH.out _ HG.out).mono ?_; rw [hxd]; rintro en w9 ⟨rfl, rfl⟩)
                go_roundw
                case rel => exact ⟨i + 1, by omega, by go_num, by rw [HS2.out], HG.out⟩
                case measure => simp [zOf]; omega
              | true =>
                rw [hF] at hsb
                subst hsb
                by_cases hx : x ∈ fr
                · have hxd : decide (x ∈ fr) = true := by simp [hx]
                  have HS2 : Hid (fN (decide (0 ≤ d) && rz g) c fr g (i + 1) = false) := by
                    show _ = _
                    rw [HS.out, hF]
                    simp [fI, hxd]
                  clear HS hF
                  go_wp2_with (go_at_call 17; refine (HH.out _ HG.out).mono ?_; rw [hxd]; rintro en w9 ⟨rfl, rfl⟩)
                  go_roundw
                  case rel => exact ⟨i + 1, by omega, by go_num, by rw [HS2.out], HG.out⟩
                  case measure => simp [zOf]; omega
                · have hxd : decide (x ∈ fr) = false := by simp [hx]
                  by_cases hx2 : 2 ≤ x
                  · have hx2d : decide (2 ≤ x) = true := by simp [hx2]
                    by_cases hxc : x < c
                    · have hxcd : decide (x < c) = true := by simp [hxc]
                      have HS2 : Hid (fN (decide (0 ≤ d) && rz g) c fr g (i + 1) = true) := by
                        show _ = _
                        rw [HS.out, hF]
                        simp [fI, hxd, hx2, hxc]
                      clear HS hF
                      go_wp2_with (go_at_call 17; refine (HH.out _ HG.out).mono ?_; rw [hxd]; rintro en w9 ⟨rfl, rfl⟩)
                      go_roundw
                      case rel => exact ⟨i + 1, by omega, by go_num, by rw [HS2.out], HG.out⟩
                      case measure => simp [zOf]; omega
                    · have hxcd : decide (x < c) = false := by simp; omega
                      have HS2 : Hid (fN (decide (0 ≤ d) && rz g) c fr g (i + 1) = false) := by
                        show _ = _
                        rw [HS.out, hF]
                        simp [fI, hxd, hx2, hxc]
                      clear HS hF
                      go_wp2_with (go_at_call 17; refine (HH.out _ HG.out).mono ?_; rw [hxd]; rintro en w9 ⟨rfl, rfl⟩)
                      go_roundw
                      case rel => exact ⟨i + 1, by omega, by go_num, by rw [HS2.out], HG.out⟩
                      case measure => simp [zOf]; omega
                  · have hx2d : decide (2 ≤ x) = false := by simp; omega
                    have HS2 : Hid (fN (decide (0 ≤ d) && rz g) c fr g (i + 1) = false) := by
                      show _ = _
                      rw [HS.out, hF]
                      simp [fI, hxd, hx2]
                    clear HS hF
                    go_wp2_with (go_at_call 17; refine (HH.out _ HG.out).mono ?_; rw [hxd]; rintro en w9 ⟨rfl, rfl⟩)
                    go_roundw
                    case rel => exact ⟨i + 1, by omega, by go_num, by rw [HS2.out], HG.out⟩
                    case measure => simp [zOf]; omega
            · have him : i = m := by omega
              subst him
              cases hF : fN (decide (0 ≤ d) && rz g) c fr g i with
              | false =>
                rw [hF] at hsb
                subst hsb
                have hf1 := HLS.out hF
                subst hf1
                clear HLS HLY hF
                go_wp2
                go_ret
                exact ⟨rfl, HG.out⟩
              | true =>
                rw [hF] at hsb
                subst hsb
                obtain ⟨F, hF2, hln, hd1⟩ := HLY.out hF
                subst hF2
                clear HLS HLY hF
                have t1 := hln.top
                have t2 := hln.fit
                rcases hln.less with t3 | t3
                · subst t3
                  clear hln
                  go_wp2
                  go_ret
                  exact ⟨rfl, HG.out⟩
                · have t4 : decide (1021 * ((F : Int) - 1) < (n : Int) - min (n : Int) (min d 1099511627776 + F - 1) + i) = true := decide_eq_true t3
                  clear hln
                  go_wp2
                  all_goals
                    go_ret
                    exact ⟨by simp, HG.out⟩
end Go.Proofs.Ytopgcnoijagoiaa
