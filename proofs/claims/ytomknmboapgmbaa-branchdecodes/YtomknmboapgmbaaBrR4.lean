import Derived.Test.YtomknmboapgmbaaBrR3
import Derived.Test.YtomknmboapgmbaaBrZ
namespace Go.Proofs.Ytomknmboapgmbaa
open Go.RowKit

theorem Bdec.uniq {zs : List Int} {lv lv' : Int} {L L' : List (List Int)} {K K' : List Kd} {e e' : Int} (h : Bdec zs lv L K e) (g : Bdec zs lv' L' K' e') : lv = lv' ∧ L = L' ∧ K = K' ∧ e = e' := by
  by_cases h0 : e = 0
  · obtain ⟨_, k, M, hL, hK, hG⟩ := h.good h0
    by_cases g0 : e' = 0
    · obtain ⟨_, k', M', hL', hK', hG'⟩ := g.good g0
      obtain ⟨e1, e2, e3⟩ := bgood_one hG hG'
      subst e1 e2 e3
      exact ⟨rfl, hL.trans hL'.symm, hK.trans hK'.symm, h0.trans g0.symm⟩
    · exact absurd hG ((g.bad g0).2.2.2 _ _ _)
  · by_cases g0 : e' = 0
    · obtain ⟨_, k', M', _, _, hG'⟩ := g.good g0
      exact absurd hG' ((h.bad h0).2.2.2 _ _ _)
    · obtain ⟨a1, a2, a3, _⟩ := h.bad h0
      obtain ⟨b1, b2, b3, _⟩ := g.bad g0
      have c1 := h.code
      have c2 := g.code
      exact ⟨a1.trans b1.symm, a2.trans b2.symm, a3.trans b3.symm, by omega⟩

/-- What the reference's Decode leaves. -/
structure DecOut (zs : List Int) (w : World) (en : Ending) (w' : World) : Prop where
  out : ∃ lv a n cap b m cap2 e L K, en = .returned (.tuple #[.int .i64 lv, .slice a n cap, .slice b m cap2, .int .i64 e]) ∧ Bdec zs lv L K e ∧ Lz w' a L ∧ Lb L ∧ L.length = n ∧ Kl w' b K ∧ K.length = m
  gr : w.grownBy w' none
theorem DecOut.bad {zs : List Int} {w w' : World} (h : ∀ lv k M, ¬ BGood zs lv k M) (hg : w.grownBy w' none) : DecOut zs w (.returned (.tuple #[.int .i64 0, .slice none 0 0, .slice none 0 0, .int .i64 50])) w' :=
  ⟨⟨0, none, 0, 0, none, 0, 0, 50, [], [], rfl, ⟨.inr rfl, (fun h => by cases h), fun _ => ⟨rfl, rfl, rfl, h⟩⟩, Lz.zero _ _, (fun s hs => by cases hs), rfl, Kl.zero _ _, rfl⟩, hg⟩

set_option maxHeartbeats 2000000 in
set_option maxRecDepth 100000 in
theorem refDecode5_any (ao : Option Addr) (n c : Nat) (zs : List Int) (w : World) (hb : Byt w ao n c zs) (hbt : Bt zs) (hcc : n ≤ c) (hcm : c ≤ 9223372036854775807) :
    Calls Try.prog 42 #[.slice ao n c] w fun en w' => DecOut zs w en w' := by
  have hl := hb.len
  by_cases hn : n = 4092
  · subst hn
    have HRB : Hid (∀ lv k M, BGood zs lv k M → ((by8 zs 1 : Nat) : Int) = lv ∧ rread zs = some (k, M)) := fun lv k M h => rread_body h
    have HB := hid_intro hb
    clear hb
    go_enter Try.func42, Try.ntmps42
    go_wp2_with fail
    refine (rread_any ao c zs _ HB.out hbt hcc hcm).mono ?_
    rintro en w1 ⟨ho, hg1⟩
    have G1 := hid_intro hg1
    clear hg1
    rcases ho with ⟨hr, rfl⟩ | ⟨k, M, a, j, cap, b, cap2, hr, rfl, hlz, hlb, hkl, hml, hj⟩
    · have HN : Hid (∀ lv k M, ¬ BGood zs lv k M) := fun lv k M h => by have := (HRB.out lv k M h).2; rw [hr] at this; cases this
      clear hr
      go_wp2
      (try simp only [Exit.inBlock, Exit.then]); refine bodyPost_ret (results_tmp4 rfl _ _ _) rfl ?_
      exact DecOut.bad HN.out G1.out
    · have HU : Hid (∀ lv' k' M', BGood zs lv' k' M' → ((by8 zs 1 : Nat) : Int) = lv' ∧ k = k' ∧ M = M') := fun lv' k' M' h => by
        obtain ⟨h1, h2⟩ := HRB.out lv' k' M' h
        rw [hr] at h2
        simp only [Option.some.injEq, Prod.mk.injEq] at h2
        exact ⟨h1, h2.1, h2.2⟩
      generalize by8 zs 1 = lv at *
      have HLZ := hid_intro hlz
      have HLB := hid_intro hlb
      have HKL := hid_intro hkl
      clear hr hlz hlb hkl HRB
      go_wp2_with fail
      refine (refEncode5_any (lv : Int) a j cap (seps M) b (j + 1) cap2 (kids k M) _ HLZ.out HLB.out (by rw [seps_len]; exact hml) (by omega) HKL.out (by rw [kids_len, hml]) (by omega)).mono ?_
      rintro en w2 ⟨⟨bo, q, qc, e, ys, rfl, hb2, hbe, hq1, hq2, hq3⟩, hg2⟩
      have B2 := hid_intro hb2
      have Z2 := hid_intro ((HB.out.keptN G1.out).keptN hg2)
      have L2 := hid_intro (HLZ.out.keptN hg2)
      have K2 := hid_intro (HKL.out.keptN hg2)
      have G2 := hid_intro (grown_trans G1.out hg2)
      have HYB := hid_intro (hbe.bt HLB.out)
      have HBE := hid_intro hbe
      clear hb2 hg2 hbe G1 HLZ HKL
      have HN2 : Hid (∀ lv' k' M', BGood zs lv' k' M' → e = 0 ∧ ys = zs) := by
        intro lv' k' M' h
        obtain ⟨rfl, rfl, rfl⟩ := HU.out lv' k' M' h
        have he : e = 0 := HBE.out.code.trans h.1
        obtain ⟨k2, M2, h1, h2, h3⟩ := HBE.out.good he
        obtain ⟨rfl, rfl⟩ := branch_inj h1 h2
        exact ⟨he, h3.2.symm.trans h.2⟩
      by_cases he : e = 0
      · by_cases hy : ys = zs
        · have HGD : Hid (Bdec zs (lv : Int) (seps M) (kids k M) 0) := ⟨.inl rfl, fun _ => ⟨hl, k, M, rfl, rfl, by
            obtain ⟨k2, M2, h1, h2, h3⟩ := HBE.out.good he
            obtain ⟨rfl, rfl⟩ := branch_inj h1 h2
            rw [← hy]; exact h3⟩, fun h => absurd rfl h⟩
          subst he
          clear HBE HN2
          go_wp2_with fail
          refine (same_yes _ _ _ _ _ _ _ _ _ B2.out Z2.out hy).mono ?_
          rintro en w5 ⟨rfl, rfl⟩
          clear hy
          go_wp2
          (try simp only [Exit.inBlock, Exit.then]); refine bodyPost_ret (results_tmp4 rfl _ _ _) rfl ?_
          exact ⟨⟨_, a, j, cap, b, j + 1, cap2, 0, seps M, kids k M, rfl, HGD.out, L2.out, HLB.out, by rw [seps_len]; exact hml, K2.out, by rw [kids_len, hml]⟩, G2.out⟩
        · have HN : Hid (∀ lv k M, ¬ BGood zs lv k M) := fun lv' k' M' h => hy (HN2.out lv' k' M' h).2
          subst he
          clear HBE HN2
          go_wp2_with fail
          refine (same_no _ _ _ _ _ _ _ _ _ B2.out Z2.out HYB.out hbt hy).mono ?_
          rintro en w5 ⟨rfl, rfl⟩
          clear hy
          go_wp2
          (try simp only [Exit.inBlock, Exit.then]); refine bodyPost_ret (results_tmp4 rfl _ _ _) rfl ?_
          exact DecOut.bad HN.out G2.out
      · have HN : Hid (∀ lv k M, ¬ BGood zs lv k M) := fun lv' k' M' h => he (HN2.out lv' k' M' h).1
        have he2 : (e == 0) = false := beq_eq_false_iff_ne.2 he
        clear HBE HN2
        go_wp2
        (try simp only [Exit.inBlock, Exit.then]); refine bodyPost_ret (results_tmp4 rfl _ _ _) rfl ?_
        exact DecOut.bad HN.out G2.out
  · have HN : Hid (∀ lv k M, ¬ BGood zs lv k M) := fun lv k M h => hn (by rw [← hl]; exact h.len)
    clear hb
    go_enter Try.func42, Try.ntmps42
    go_wp2
    (try simp only [Exit.inBlock, Exit.then]); refine bodyPost_ret (results_tmp4 rfl _ _ _) rfl ?_
    exact DecOut.bad HN.out (World.grownBy.refl _ _)

set_option maxHeartbeats 2000000 in
set_option maxRecDepth 100000 in
theorem decodes_any (ao : Option Addr) (n c : Nat) (zs : List Int) (w : World) (hb : Byt w ao n c zs) (hbt : Bt zs) (hn : n ≤ 100000) (hcc : n ≤ c) (hcm : c ≤ 9223372036854775807) :
    Calls Try.prog 23 #[.slice ao n c] w fun en w' => en = .returned (.bool true) ∧ w.grownBy w' none := by
  have HB := hid_intro hb
  have hl := hb.len
  clear hb
  go_enter Try.func23, Try.ntmps23
  go_wp2_with fail
  refine (refBytes_any ao n c zs _ HB.out (by omega)).mono ?_
  rintro en w2 ⟨rfl, hown2, hg2, hs2⟩
  have O2 := hid_intro (hown2.alloc (.cells #[.int .u8 201, .int .u8 202] 5))
  have hown2' := hown2
  have HG2 := hid_intro hg2
  have BL := hid_intro (Byt.lit w2 5 #[.int .u8 201, .int .u8 202] [201, 202] 2 rfl rfl)
  clear hown2 hg2
  go_wp2_with (at_builtin; refine wpList_append_byt rfl _ _ rfl w.heap.size _ n zs rfl O2.out (some ⟨w2.heap.size, 0, none⟩) 2 2 [201, 202] rfl BL.out (by omega) (by simp; omega) ?_)
  intro v3 w3 ho3 hg3
  have ho3' : w3.ownsRow w.heap.size 5 1 v3 (n + 2) ((zs ++ [201, 202]).map (Value.int .u8)) := by simpa using ho3
  obtain ⟨g, cc, rfl, hgb, hgl, hgc⟩ := owns_shape ho3' (by omega)
  obtain ⟨hOw, _, _, _⟩ := Ow.of_owns ho3'
  have HG3 := hid_intro (grown_own HG2.out hown2' (Nat.le_refl _) hg3)
  have HOW := hid_intro hOw
  have hmx := hOw.max
  have B3 := hid_intro (ow_byt hOw n hl.symm)
  clear hg3 ho3 ho3' hOw HG2 O2 BL hown2'
  have g1 : (n : Int) ≤ (cc : Int) := by omega
  have g2 : (0 : Int) ≤ (n : Int) := by omega
  go_wp2_with fail
  refine (bdecode_any _ n cc zs _ B3.out hbt).mono ?_
  rintro en w4 ⟨⟨lv, a, m, cap, b, k, cap2, e, L, K, rfl, hd, hlz, hlb, hlm, _, _, hkl, hkm, _, _⟩, hg4⟩
  have HD := hid_intro hd
  have L4 := hid_intro hlz
  have K4 := hid_intro hkl
  have G4 := hid_intro (grown_trans HG3.out hg4)
  have W4 := hid_intro (HOW.out.keptN hg4)
  clear hd hlz hkl hg4 HG3 HOW B3
  go_wp2_with fail
  refine (refDecode5_any ao n c zs _ (HB.out.keptN G4.out) hbt hcc hcm).mono ?_
  rintro en w5 ⟨⟨lv', a', m', cap', b', k', cap2', e', L', K', rfl, hd', hlz', hlb', hlm', hkl', hkm'⟩, hg5⟩
  obtain ⟨rfl, rfl, rfl, rfl⟩ := HD.out.uniq hd'
  have L5 := hid_intro (L4.out.keptN hg5)
  have M5 := hid_intro hlz'
  have K5 := hid_intro (K4.out.keptN hg5)
  have Q5 := hid_intro hkl'
  have G5 := hid_intro (grown_trans G4.out hg5)
  have W5 := hid_intro (W4.out.keptN hg5)
  have hm5 : m ≤ 9223372036854775807 := by omega
  have hk5 : k ≤ 9223372036854775807 := by omega
  clear hd' hlz' hkl' hg5 L4 K4 G4 W4 HD
  go_wp2_with fail
  refine (sameLists_any a m cap L a' m' cap' L _ L5.out hlb hlm M5.out hlb' hlm' hm5).mono ?_
  rintro en w6 ⟨⟨b6, rfl, hb6⟩, hq6⟩
  obtain rfl := hb6.2 rfl
  have K6 := hid_intro (K5.out.keptN (hq6.grown none))
  have Q6 := hid_intro (Q5.out.keptN (hq6.grown none))
  have G6 := hid_intro (grown_trans G5.out (hq6.grown none))
  have W6 := hid_intro (W5.out.keptN (hq6.grown none))
  clear hb6 hq6 K5 Q5 G5 W5 L5 M5
  go_wp2_with fail
  refine (sameKids_any b k cap2 K b' k' cap2' K _ K6.out hkm Q6.out hkm' hk5).mono ?_
  rintro en w7 ⟨⟨b7, rfl, hb7⟩, hq7⟩
  obtain rfl := hb7.2 rfl
  have G7 := hid_intro (grown_trans G6.out (hq7.grown none))
  have W7 := hid_intro (W6.out.keptN (hq7.grown none))
  clear hb7 hq7 K6 Q6 G6 W6
  go_wp2_with fail
  refine (num5_any _ _).mono ?_
  rintro en w8 ⟨rfl, rfl⟩
  have B7 := hid_intro (ow_byt W7.out n hl.symm)
  have c1 := W7.out.cell (j := n) (by rw [List.length_append]; simp; omega)
  have c2 := W7.out.cell (j := n + 1) (by rw [List.length_append]; simp; omega)
  have e1 : (zs ++ [201, 202]).getD n 0 = 201 := by subst hl; simp [List.getD]
  have e2 : (zs ++ [201, 202]).getD (n + 1) 0 = 202 := by subst hl; simp [List.getD]
  rw [e1] at c1
  rw [e2] at c2
  have h1 : (n : Int) < (n : Int) + 2 := by omega
  clear e1 e2 W7
  go_wp2_with fail
  refine (same_yes _ _ _ _ _ _ _ _ _ B7.out (HB.out.keptN G7.out) rfl).mono ?_
  rintro en w8 ⟨rfl, rfl⟩
  go_wp2
  go_ret
  exact ⟨rfl, G7.out⟩
end Go.Proofs.Ytomknmboapgmbaa
