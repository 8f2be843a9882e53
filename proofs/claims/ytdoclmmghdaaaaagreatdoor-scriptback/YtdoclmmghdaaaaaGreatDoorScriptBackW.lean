import Derived.Test.YtdoclmmghdaaaaaGreatDoorSg2
import Derived.Test.YtdoclmmghdaaaaaGreatDoorGrpU
import Derived.Test.YtdoclmmghdaaaaaGreatDoorSrL
namespace Go.Proofs.YtdoclmmghdaaaaaGreatDoor
open Go.RowKit

theorem OpsR.obt {w : World} {a : Option Addr} {l : List Opq} (h : OpsR w a l) : ∀ o ∈ l, Obt o := fun o ho => by
  obtain ⟨i, hi⟩ := List.getElem?_of_mem ho
  obtain ⟨_, _, _, _, _, _, _, _, _, _, _, _, q⟩ := h i o hi
  exact ⟨q.bk, q.bv, q.bh⟩
theorem PrP.split {r : Except Int (List UInt8)} {en : Ending} (h : (∃ t, r = .ok t ∧ en = .returned (.tuple #[.string (tstr t), .int .i64 0])) ∨ ∃ e, r = .error e ∧ e ≠ 0 ∧ en = .returned (.tuple #[.string ⟨#[]⟩, .int .i64 e])) :
    ∃ u pe, en = .returned (.tuple #[.string (tstr u), .int .i64 pe]) ∧ ((pe = 0 ∧ r = .ok u) ∨ ((pe ≠ 0 ∧ u = []) ∧ r = .error pe)) := by
  rcases h with ⟨t, h1, h2⟩ | ⟨e, h1, h2, h3⟩
  · exact ⟨t, 0, h2, .inl ⟨rfl, h1⟩⟩
  · exact ⟨[], e, h3, .inr ⟨⟨h2, rfl⟩, h1⟩⟩
theorem FitP.fnw {l : List Opq} (h : FitP l) : Fnw l := fun o ho => by have := (h.el o ho).2.2.2; omega
theorem FitP.szs {l : List Opq} (h : FitP l) : ∀ o ∈ l, lsz o ≤ 140737488355328 := fun o ho => by
  obtain ⟨h1, h2, h3, h4⟩ := h.el o ho
  unfold lsz
  omega
set_option maxHeartbeats 64000000 in
set_option maxRecDepth 100000 in
theorem scriptBack_walk (x : Int) (l : List Opq) (ao : Option Addr) (n cap : Nat) (T : List UInt8) (w : World) (hL : Lv w) (hR : OpsR w ao l) (hl : l.length = n) : Calls Tryz.prog 4 #[.agg #[.int .i64 x, .slice ao n cap], .string (tstr T)] w fun en w' => en = .returned (.bool true) ∧ w.grownBy w' none := by
  have HL : Hid (Lv w) := hL
  have HR := hid_intro hR
  have HN := hid_intro hl
  have hT := tstr_size T
  have g1 := World.grownBy_alloc w (.cells #[.int .i64 x, .slice ao n cap] 25) none
  have X1 := hid_intro (heap_at0S w #[.int .i64 x, .slice ao n cap] 25)
  have G1 := hid_intro g1
  have HF := hid_intro (first23_any _ (hL.keptN g1))
  clear hL hR hl g1
  go_enter Tryz.func4, Tryz.ntmps4
  go_upto_region 1 with fail
  generalize w.alloc (.cells #[.int .i64 x, .slice ao n cap] 25) = w1 at *
  generalize w.heap.size = S0 at *
  go_wp2_with fail
  refine HF.out.mono ?_
  rintro en w2 ⟨rfl, hg2⟩
  have G2 := hid_intro (grown_trans G1.out hg2)
  have X2 := hid_intro (heap_keptS X1.out hg2)
  have R2 := hid_intro (HR.out.keptN G2.out)
  have c0 := cell_heapS (i := 0) X2.out rfl
  have c1 := cell_heapS (i := 1) X2.out rfl
  clear hg2 X1 G1 HF
  have HFI := hid_intro (fits23 x ao n cap l w2 R2.out HN.out)
  go_wp2_with fail
  refine HFI.out.mono ?_
  rintro en w3 ⟨⟨b, rfl, hb⟩, hg3⟩
  have G3 := hid_intro (grown_trans G2.out hg3)
  have X3 := hid_intro (heap_keptS X2.out hg3)
  have R3 := hid_intro (R2.out.keptN hg3)
  clear hg3 c0 c1 X2 G2 R2 HFI
  have c0 := cell_heapS (i := 0) X3.out rfl
  have c1 := cell_heapS (i := 1) X3.out rfl
  cases b with
  | false =>
    clear hb
    go_wp2
    go_ret
    exact ⟨rfl, G3.out⟩
  | true =>
    have hfit := hb rfl
    by_cases h1 : T.length ≤ 2097152
    · have t1 : ¬ (2097152 : Int) < ((tstr T).size : Int) := by omega
      have HPT := hid_intro (fun W hW => parse_any T W hW (by omega))
      have HOP := hid_intro (fun W hW => refOps23 ao n cap l W hW HN.out hfit)
      have HPR := hid_intro (fun a c W hW hR => print_any x l a c W hW hR hfit.fnw hfit.szs (by have := hfit.len; omega))
      have HSS := hid_intro (fun a b c d W ha hb => sameScript_any x x a b c d l l W ha hb hfit.fnw (by have := hfit.len; omega))
      have HBK := hid_intro (fun (u : List UInt8) (h : prt x l = .ok u) => psc_prt HR.out.obt h)
      rw [HN.out] at HPR HSS
      clear hT h1 hb hfit
      generalize tstr T = sT at *
      go_wp2_with fail
      go_region_held3 (fun w' => w'.cell? ⟨S0, 0, none⟩ = some (.int .i64 x) ∧ w'.cell? ⟨S0, 1, none⟩ = some (.slice ao n cap)) (first | exact ⟨c0, c1⟩ | exact T4.out | exact T5.out | go_keep)
        (first
          | (go_at_call 13; refine (HOP.out w3.drew (R3.out.keptN ((Qt.refl w3).drew.grown none))).mono ?_; rintro en w4 ⟨a4, c4, xs4, rfl, ho4, hol4, hg4⟩; have G4 := hid_intro (grown_undrew hg4); rw [← HN.out] at ho4; have R4 := hid_intro (hol4.opsR ho4); have T4 := hid_intro (show w4.cell? ⟨S0, 0, none⟩ = some (.int .i64 x) ∧ w4.cell? ⟨S0, 1, none⟩ = some (.slice ao n cap) from ⟨cell_keptS c0 G4.out, cell_keptS c1 G4.out⟩); clear ho4 hol4 hg4)
          | (go_at_call 12; refine (HPR.out a4 c4 w4 (HL.out.keptN (grown_trans G3.out G4.out)) R4.out).mono ?_; rintro en w5 ⟨hg5, hr5⟩; obtain ⟨u, pe, hen, hr5'⟩ := PrP.split hr5; subst hen; have HR5 := hid_intro hr5'; have G5 := hid_intro (grown_trans G4.out hg5); have T5 := hid_intro (show w5.cell? ⟨S0, 0, none⟩ = some (.int .i64 x) ∧ w5.cell? ⟨S0, 1, none⟩ = some (.slice ao n cap) from ⟨cell_keptS c0 G5.out, cell_keptS c1 G5.out⟩); clear hg5 hr5 hr5')
          | fail)
      all_goals
        have GT5 := hid_intro (grown_trans G3.out G5.out)
        have X5 := hid_intro (heap_keptS X3.out G5.out)
        have R5 := hid_intro (R3.out.keptN G5.out)
        clear c0 c1 HOP HPR
        rcases HR5.out with ⟨q1, q2⟩ | ⟨q1, q2⟩
        · subst q1
          obtain ⟨k1, k2⟩ := HBK.out u q2
          have HPU := hid_intro (fun W hW => parse_any u W hW (by omega))
          have HU2 := hid_intro k2
          have hul : ¬ (1048576 : Int) < ((tstr u).size : Int) := by rw [tstr_size]; omega
          have huln : ¬ 1048576 < (tstr u).size := by rw [tstr_size]; omega
          clear q2 k1 k2 HR5 HBK
          generalize tstr u = su at *
          go_wp2_with (first | (go_at_call 10; refine (num23_any _ _).mono ?_; rintro en wz ⟨rfl, rfl⟩) | fail)
          refine (HPU.out _ (HL.out.keptN GT5.out)).mono ?_
          rintro en w6 ⟨hg6, hr6⟩
          rcases hr6 with ⟨n3, l3, v3, xs3, s1, rfl, ho, hol⟩ | ⟨_, _, s1, _, _⟩
          · rw [HU2.out] at s1
            cases s1
            rw [HN.out] at ho
            obtain ⟨a3, c3, hv⟩ := own_shape20 ho
            subst hv
            rw [← HN.out] at ho
            have hop := hol.opsR ho
            have gB := World.grownBy_alloc w6 (.cells #[.int .i64 x, .slice a3 n c3] 25) none
            have XB := hid_intro (heap_at0S w6 #[.int .i64 x, .slice a3 n c3] 25)
            have g7 := grown_trans hg6 gB
            have GB := hid_intro (grown_trans GT5.out g7)
            have XS := hid_intro (heap_keptS X5.out g7)
            have RS := hid_intro (R5.out.keptN g7)
            have RB := hid_intro (hop.keptN gB)
            clear ho hol hop gB g7 hg6
            go_upto_region 7 with fail
            generalize w6.alloc (.cells #[.int .i64 x, .slice a3 n c3] 25) = wB at *
            generalize w6.heap.size = KB at *
            have d0 := cell_heapS (i := 0) XB.out rfl
            have d1 := cell_heapS (i := 1) XB.out rfl
            have e0 := cell_heapS (i := 0) XS.out rfl
            have e1 := cell_heapS (i := 1) XS.out rfl
            go_wp2_with fail
            refine (HSS.out a3 ao c3 cap _ RB.out RS.out).mono ?_
            rintro en w8 ⟨b, rfl, hb, hg8⟩
            have hbt : b = true := hb.2 (by first | exact ⟨rfl, rfl⟩ | trivial | simp)
            subst hbt
            have GT := hid_intro (grown_trans GB.out hg8)
            clear hb hg8 d0 d1 e0 e1 HSS
            go_wp2_with (first | (go_at_call 10; refine (num23_any _ _).mono ?_; rintro en wz ⟨rfl, rfl⟩) | fail)
            refine (HPT.out _ (HL.out.keptN GT.out)).mono ?_
            rintro en w20 ⟨hg20, hr20⟩
            rcases hr20 with ⟨n2, l2, v2, xs2, r1, rfl, ho, hol⟩ | ⟨kk, e2, r1, r2, rfl⟩
            · obtain ⟨a2, c2, hv⟩ := own_shape20 ho
              subst hv
              obtain ⟨f1, f2, f3⟩ := psc_fit r1
              have HPR := hid_intro (fun a c W hW hR => print_any n2 l2 a c W hW hR f1 (fun o ho => by have := f2 o ho; omega) (by omega))
              have HSS := hid_intro (fun a b c d W ha hb => sameScript_any n2 n2 a b c d l2 l2 W ha hb f1 (by omega))
              have gA := World.grownBy_alloc w20 (.cells #[.int .i64 n2, .slice a2 l2.length c2] 25) none
              have XA := hid_intro (heap_at0S w20 #[.int .i64 n2, .slice a2 l2.length c2] 25)
              have GA := hid_intro (grown_trans GT.out (grown_trans hg20 gA))
              have RA := hid_intro ((hol.opsR ho).keptN gA)
              have HCA := hid_intro (prt_psc r1)
              obtain ⟨m2, hm2⟩ : ∃ m, l2.length = m := ⟨_, rfl⟩
              rw [hm2] at gA XA GA RA HPR HSS ⊢
              have HM2 := hid_intro hm2
              clear ho hol gA r1 f1 f2 f3 hg20 hm2
              go_upto_region 13 with fail
              generalize w20.alloc (.cells #[.int .i64 n2, .slice a2 m2 c2] 25) = wA at *
              generalize w20.heap.size = KA at *
              have d0 := cell_heapS (i := 0) XA.out rfl
              have d1 := cell_heapS (i := 1) XA.out rfl
              go_wp2_with (first | (go_at_call 10; refine (num23_any _ _).mono ?_; rintro en wz ⟨rfl, rfl⟩) | fail)
              refine (HPR.out a2 c2 _ (HL.out.keptN GA.out) RA.out).mono ?_
              rintro en w21 ⟨hg21, hr21⟩
              have G21 := hid_intro (grown_trans GA.out hg21)
              have X21 := hid_intro (heap_keptS XA.out hg21)
              have R21 := hid_intro (RA.out.keptN hg21)
              clear hg21 d0 d1
              rcases HCA.out with hE | ⟨u, hu1, hu2, hu3⟩
              · rcases hr21 with ⟨t, q1, _⟩ | ⟨e, q1, q2, rfl⟩
                · rw [hE] at q1; cases q1
                · rw [hE] at q1
                  cases q1
                  clear hE q2
                  go_wp2_with (go_at_call 10; refine (num23_any _ _).mono ?_; rintro en wz ⟨rfl, rfl⟩)
                  go_ret
                  exact ⟨rfl, G21.out⟩
              · rcases hr21 with ⟨t, q1, rfl⟩ | ⟨e, q1, _⟩
                · rw [hu1] at q1
                  cases q1
                  have HPU := hid_intro (fun W hW => parse_any u W hW (by omega))
                  have HU1 := hid_intro hu1
                  have HU3 := hid_intro hu3
                  clear hu1 hu2 hu3
                  obtain ⟨st, hst⟩ : ∃ st, tstr u = st := ⟨_, rfl⟩
                  rw [hst] at HPU ⊢
                  have HST := hid_intro hst
                  clear hst
                  go_wp2_with (first | (go_at_call 10; refine (num23_any _ _).mono ?_; rintro en wz ⟨rfl, rfl⟩) | fail)
                  refine (HPU.out _ (HL.out.keptN G21.out)).mono ?_
                  rintro en w22 ⟨hg22, hr22⟩
                  rcases hr22 with ⟨n3, l3, v3, xs3, s1, rfl, ho, hol⟩ | ⟨_, _, s1, _, _⟩
                  · rw [HU3.out] at s1
                    cases s1
                    rw [HM2.out] at ho
                    obtain ⟨a3, c3, hv⟩ := own_shape20 ho
                    subst hv
                    rw [← HM2.out] at ho
                    have hop := hol.opsR ho
                    have gB := World.grownBy_alloc w22 (.cells #[.int .i64 n2, .slice a3 m2 c3] 25) none
                    have XB := hid_intro (heap_at0S w22 #[.int .i64 n2, .slice a3 m2 c3] 25)
                    have g23 := grown_trans hg22 gB
                    have GB := hid_intro (grown_trans G21.out g23)
                    have XA2 := hid_intro (heap_keptS X21.out g23)
                    have RA2 := hid_intro (R21.out.keptN g23)
                    have RB := hid_intro (hop.keptN gB)
                    clear ho hol hop gB g23 hg22
                    go_upto_region 19 with fail
                    generalize w22.alloc (.cells #[.int .i64 n2, .slice a3 m2 c3] 25) = wB at *
                    generalize w22.heap.size = KB at *
                    have d0 := cell_heapS (i := 0) XB.out rfl
                    have d1 := cell_heapS (i := 1) XB.out rfl
                    go_wp2_with fail
                    refine (HPR.out a3 c3 _ (HL.out.keptN GB.out) RB.out).mono ?_
                    rintro en w23 ⟨hg23, hr23⟩
                    rcases hr23 with ⟨t3, q1, rfl⟩ | ⟨e, q1, _⟩
                    · rw [HU1.out] at q1
                      cases q1
                      have G23 := hid_intro (grown_trans GB.out hg23)
                      have XA3 := heap_keptS XA2.out hg23
                      have XB3 := heap_keptS XB.out hg23
                      have RA3 := hid_intro (RA2.out.keptN hg23)
                      have RB3 := hid_intro (RB.out.keptN hg23)
                      clear d0 d1 hg23
                      have d0 := cell_heapS (i := 0) XA3 rfl
                      have d1 := cell_heapS (i := 1) XA3 rfl
                      have e0 := cell_heapS (i := 0) XB3 rfl
                      have e1 := cell_heapS (i := 1) XB3 rfl
                      clear XA3 XB3
                      rw [HST.out]
                      go_wp2_with fail
                      refine (HSS.out a3 a2 c3 c2 _ RB3.out RA3.out).mono ?_
                      rintro en w24 ⟨b, rfl, hb, hg24⟩
                      have hbt : b = true := hb.2 (by first | exact ⟨rfl, rfl⟩ | trivial | simp)
                      subst hbt
                      have G24 := hid_intro (grown_trans G23.out hg24)
                      clear hb hg24 d0 d1 e0 e1
                      go_wp2_with (go_at_call 10; refine (num23_any _ _).mono ?_; rintro en wz ⟨rfl, rfl⟩)
                      go_ret
                      exact ⟨by simp, G24.out⟩
                    · rw [HU1.out] at q1; cases q1
                  · rw [HU3.out] at s1; cases s1
                · rw [hu1] at q1; cases q1
            · have ge : (e2 == 0) = false := by rw [beq_eq_false_iff_ne]; exact r2
              have gA := World.grownBy_alloc w20 (.cells #[.int .i64 0, .slice none 0 0] 25) none
              have GA := hid_intro (grown_trans GT.out (grown_trans hg20 gA))
              clear gA r1 r2 hg20
              go_wp2_with (go_at_call 10; refine (num23_any _ _).mono ?_; rintro en wz ⟨rfl, rfl⟩)
              go_ret
              exact ⟨rfl, GA.out⟩
          · rw [HU2.out] at s1; cases s1
        · have ge : (pe == 0) = false := by rw [beq_eq_false_iff_ne]; exact q1.1
          have hue : u = [] := q1.2
          have GT := hid_intro GT5.out
          have hst : tstr u = ⟨#[]⟩ := by rw [hue]; rfl
          rw [hst]
          clear q1 q2 HR5 HBK HSS hue hst
          go_wp2_with (first | (go_at_call 10; refine (num23_any _ _).mono ?_; rintro en wz ⟨rfl, rfl⟩) | fail)
          refine (HPT.out _ (HL.out.keptN GT.out)).mono ?_
          rintro en w20 ⟨hg20, hr20⟩
          rcases hr20 with ⟨n2, l2, v2, xs2, r1, rfl, ho, hol⟩ | ⟨kk, e2, r1, r2, rfl⟩
          · obtain ⟨a2, c2, hv⟩ := own_shape20 ho
            subst hv
            obtain ⟨f1, f2, f3⟩ := psc_fit r1
            have HPR := hid_intro (fun a c W hW hR => print_any n2 l2 a c W hW hR f1 (fun o ho => by have := f2 o ho; omega) (by omega))
            have HSS := hid_intro (fun a b c d W ha hb => sameScript_any n2 n2 a b c d l2 l2 W ha hb f1 (by omega))
            have gA := World.grownBy_alloc w20 (.cells #[.int .i64 n2, .slice a2 l2.length c2] 25) none
            have XA := hid_intro (heap_at0S w20 #[.int .i64 n2, .slice a2 l2.length c2] 25)
            have GA := hid_intro (grown_trans GT.out (grown_trans hg20 gA))
            have RA := hid_intro ((hol.opsR ho).keptN gA)
            have HCA := hid_intro (prt_psc r1)
            obtain ⟨m2, hm2⟩ : ∃ m, l2.length = m := ⟨_, rfl⟩
            rw [hm2] at gA XA GA RA HPR HSS ⊢
            have HM2 := hid_intro hm2
            clear ho hol gA r1 f1 f2 f3 hg20 hm2
            go_upto_region 13 with fail
            generalize w20.alloc (.cells #[.int .i64 n2, .slice a2 m2 c2] 25) = wA at *
            generalize w20.heap.size = KA at *
            have d0 := cell_heapS (i := 0) XA.out rfl
            have d1 := cell_heapS (i := 1) XA.out rfl
            go_wp2_with (first | (go_at_call 10; refine (num23_any _ _).mono ?_; rintro en wz ⟨rfl, rfl⟩) | fail)
            refine (HPR.out a2 c2 _ (HL.out.keptN GA.out) RA.out).mono ?_
            rintro en w21 ⟨hg21, hr21⟩
            have G21 := hid_intro (grown_trans GA.out hg21)
            have X21 := hid_intro (heap_keptS XA.out hg21)
            have R21 := hid_intro (RA.out.keptN hg21)
            clear hg21 d0 d1
            rcases HCA.out with hE | ⟨u, hu1, hu2, hu3⟩
            · rcases hr21 with ⟨t, q1, _⟩ | ⟨e, q1, q2, rfl⟩
              · rw [hE] at q1; cases q1
              · rw [hE] at q1
                cases q1
                clear hE q2
                go_wp2_with (go_at_call 10; refine (num23_any _ _).mono ?_; rintro en wz ⟨rfl, rfl⟩)
                go_ret
                exact ⟨rfl, G21.out⟩
            · rcases hr21 with ⟨t, q1, rfl⟩ | ⟨e, q1, _⟩
              · rw [hu1] at q1
                cases q1
                have HPU := hid_intro (fun W hW => parse_any u W hW (by omega))
                have HU1 := hid_intro hu1
                have HU3 := hid_intro hu3
                clear hu1 hu2 hu3
                obtain ⟨st, hst⟩ : ∃ st, tstr u = st := ⟨_, rfl⟩
                rw [hst] at HPU ⊢
                have HST := hid_intro hst
                clear hst
                go_wp2_with (first | (go_at_call 10; refine (num23_any _ _).mono ?_; rintro en wz ⟨rfl, rfl⟩) | fail)
                refine (HPU.out _ (HL.out.keptN G21.out)).mono ?_
                rintro en w22 ⟨hg22, hr22⟩
                rcases hr22 with ⟨n3, l3, v3, xs3, s1, rfl, ho, hol⟩ | ⟨_, _, s1, _, _⟩
                · rw [HU3.out] at s1
                  cases s1
                  rw [HM2.out] at ho
                  obtain ⟨a3, c3, hv⟩ := own_shape20 ho
                  subst hv
                  rw [← HM2.out] at ho
                  have hop := hol.opsR ho
                  have gB := World.grownBy_alloc w22 (.cells #[.int .i64 n2, .slice a3 m2 c3] 25) none
                  have XB := hid_intro (heap_at0S w22 #[.int .i64 n2, .slice a3 m2 c3] 25)
                  have g23 := grown_trans hg22 gB
                  have GB := hid_intro (grown_trans G21.out g23)
                  have XA2 := hid_intro (heap_keptS X21.out g23)
                  have RA2 := hid_intro (R21.out.keptN g23)
                  have RB := hid_intro (hop.keptN gB)
                  clear ho hol hop gB g23 hg22
                  go_upto_region 19 with fail
                  generalize w22.alloc (.cells #[.int .i64 n2, .slice a3 m2 c3] 25) = wB at *
                  generalize w22.heap.size = KB at *
                  have d0 := cell_heapS (i := 0) XB.out rfl
                  have d1 := cell_heapS (i := 1) XB.out rfl
                  go_wp2_with fail
                  refine (HPR.out a3 c3 _ (HL.out.keptN GB.out) RB.out).mono ?_
                  rintro en w23 ⟨hg23, hr23⟩
                  rcases hr23 with ⟨t3, q1, rfl⟩ | ⟨e, q1, _⟩
                  · rw [HU1.out] at q1
                    cases q1
                    have G23 := hid_intro (grown_trans GB.out hg23)
                    have XA3 := heap_keptS XA2.out hg23
                    have XB3 := heap_keptS XB.out hg23
                    have RA3 := hid_intro (RA2.out.keptN hg23)
                    have RB3 := hid_intro (RB.out.keptN hg23)
                    clear d0 d1 hg23
                    have d0 := cell_heapS (i := 0) XA3 rfl
                    have d1 := cell_heapS (i := 1) XA3 rfl
                    have e0 := cell_heapS (i := 0) XB3 rfl
                    have e1 := cell_heapS (i := 1) XB3 rfl
                    clear XA3 XB3
                    rw [HST.out]
                    go_wp2_with fail
                    refine (HSS.out a3 a2 c3 c2 _ RB3.out RA3.out).mono ?_
                    rintro en w24 ⟨b, rfl, hb, hg24⟩
                    have hbt : b = true := hb.2 (by first | exact ⟨rfl, rfl⟩ | trivial | simp)
                    subst hbt
                    have G24 := hid_intro (grown_trans G23.out hg24)
                    clear hb hg24 d0 d1 e0 e1
                    go_wp2_with (go_at_call 10; refine (num23_any _ _).mono ?_; rintro en wz ⟨rfl, rfl⟩)
                    go_ret
                    exact ⟨by simp, G24.out⟩
                  · rw [HU1.out] at q1; cases q1
                · rw [HU3.out] at s1; cases s1
              · rw [hu1] at q1; cases q1
          · have ge : (e2 == 0) = false := by rw [beq_eq_false_iff_ne]; exact r2
            have gA := World.grownBy_alloc w20 (.cells #[.int .i64 0, .slice none 0 0] 25) none
            have GA := hid_intro (grown_trans GT.out (grown_trans hg20 gA))
            clear gA r1 r2 hg20
            go_wp2_with (go_at_call 10; refine (num23_any _ _).mono ?_; rintro en wz ⟨rfl, rfl⟩)
            go_ret
            exact ⟨rfl, GA.out⟩
    · have t1 : (2097152 : Int) < ((tstr T).size : Int) := by omega
      clear hT h1 hb hfit
      generalize tstr T = sT at *
      go_wp2
      go_ret
      exact ⟨rfl, G3.out⟩
theorem scriptBack_walkS (x : Int) (l : List Opq) (ao : Option Addr) (n cap : Nat) (s : ByteArray) (w : World) (hL : Lv w) (hR : OpsR w ao l) (hl : l.length = n) : Calls Tryz.prog 4 #[.agg #[.int .i64 x, .slice ao n cap], .string s] w fun en w' => en = .returned (.bool true) ∧ w.grownBy w' none := by
  have h := scriptBack_walk x l ao n cap s.data.toList w hL hR hl
  rw [tstr_mk] at h
  exact h
end Go.Proofs.YtdoclmmghdaaaaaGreatDoor
