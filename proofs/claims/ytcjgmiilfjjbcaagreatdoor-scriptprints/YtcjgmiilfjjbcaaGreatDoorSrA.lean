import Derived.Test.YtcjgmiilfjjbcaaGreatDoorSr9
namespace Go.Proofs.YtcjgmiilfjjbcaaGreatDoor
open Go.RowKit

set_option maxHeartbeats 32000000 in
set_option maxRecDepth 100000 in
theorem parse_many (T : List UInt8) (w : World) (h : 1048576 < T.length) (hT : T.length ≤ 140737488355328) : Calls Tryz.prog 12 #[.string (tstr T)] w fun en w' => PsP w (psc T) en w' := by
  have hz := tstr_size T
  have g1 : (1048576 : Int) < ((tstr T).size : Int) := by omega
  have HP : Hid (psc T = .error (0, 234)) := by show _ = _; unfold psc; rw [if_pos h]
  clear h hT hz
  generalize psc T = P at *
  generalize tstr T = s at *
  go_enter Tryz.func12, Tryz.ntmps12
  go_wp2
  go_step3
  go_wp2
  (repeat (rw [Exit.noGoto_ret]; try go_wp2))
  refine bodyPost_ret (results_scr rfl _ _ w.heap.size _ _ rfl (heap_at0S _ _ _)) rfl ?_
  exact ⟨World.grownBy_alloc _ _ _, .inr ⟨0, 234, HP.out, by decide, rfl⟩⟩
set_option maxHeartbeats 32000000 in
set_option maxRecDepth 100000 in
theorem parse_few (T : List UInt8) (w : World) (hL : Lv w) (h : T.length ≤ 1048576) : Calls Tryz.prog 12 #[.string (tstr T)] w fun en w' => PsP w (psc T) en w' := by
  obtain ⟨ip, hip, hp0, hp1, hp2⟩ := info_parts info_strS
  have hz := tstr_size T
  have g1 : ¬ (1048576 : Int) < ((tstr T).size : Int) := by omega
  have HP : Hid (psc T = pll (lns T) 1 none) := by show _ = _; unfold psc; rw [if_neg (by omega)]
  have HL : Hid (Lv w) := hL
  have HLT := hid_intro hL.lt
  clear hL hz
  generalize psc T = P at *
  go_enter Tryz.func12, Tryz.ntmps12
  go_wp2
  go_step3
  go_wp2
  go_step3
  go_wp2
  have gU := World.grownBy_alloc w (.cells #[.int .i64 0, .slice none 0 0] 24) none
  have gR := World.grownBy_alloc (w.alloc (.cells #[.int .i64 0, .slice none 0 0] 24)) (.cells #[.int .i64 0, .slice none 0 0, .bool false] 64) none
  have xU := heap_keptS (heap_at0S w #[.int .i64 0, .slice none 0 0] 24) gR
  have xR := heap_at0S (w.alloc (.cells #[.int .i64 0, .slice none 0 0] 24)) #[.int .i64 0, .slice none 0 0, .bool false] 64
  rw [show (w.alloc (.cells #[.int .i64 0, .slice none 0 0] 24)).heap.size = w.heap.size + 1 by simp] at xR
  have G2 := hid_intro (grown_trans gU gR)
  have XU := hid_intro xU
  have XR : Hid (RdI _ w.heap.size (w.heap.size + 1) none) := RdI.mkN xR
  have HH := hid_intro h
  clear gU gR xU xR h
  generalize (w.alloc (.cells #[.int .i64 0, .slice none 0 0] 24)).alloc (.cells #[.int .i64 0, .slice none 0 0, .bool false] 64) = w2 at *
  go_loopw [0, 6, 7, 8, 9, 10, 11] (fun s0 _ s7 _ _ _ _ wr => ∃ (no : Nat) (t : List UInt8) (s : Option Sq), s0 = .string (tstr t) ∧ s7 = .int .i64 (no : Nat) ∧ no + t.length ≤ 1048577 ∧ w.grownBy wr none ∧ RdI wr w.heap.size (w.heap.size + 1) s ∧ wr.heap[w.heap.size]? = some (.cells #[.int .i64 0, .slice none 0 0] 24 (0, 0)) ∧ P = pll (lns t) no s ∧ (∀ x, s = some x → x.2.length ≤ 2000)) (fun s0 _ _ _ _ _ _ _ => strLen s0)
  case atStart => exact ⟨1, T, none, rfl, rfl, by have := HH.out; omega, G2.out, XR.out, XU.out, HP.out, fun x hx => by cases hx⟩
  case round =>
    obtain ⟨no, t, s, rfl, rfl, hno, hg, hR, hU, hP, hS⟩ := hrel
    have HG := hid_intro hg
    have HR := hid_intro hR
    have HU := hid_intro hU
    have HP2 := hid_intro hP
    have HS := hid_intro hS
    clear g1 G2 XU XR HP HH hg hR hU hP hS
    have hem := str_nil t
    by_cases ht : t = []
    · subst ht
      have b0 : ((tstr []).toList == []) = true := by rw [hem]; rfl
      clear hem
      generalize tstr [] = st at *
      have hp2 := HP2.out
      rw [lns_nil] at hp2
      cases s with
      | none =>
        · have hb := HR.out.ofN
          have d2 := cell_heapS (i := 2) hb rfl
          have e0 := cell_heapS (i := 0) HU.out rfl
          have e1 := cell_heapS (i := 1) HU.out rfl
          have z0 := frozen_of_row wr w.heap.size 0 _ _ HU.out
          have z1 := frozen_of_row wr w.heap.size 1 _ _ HU.out
          have HP3 : Hid (P = .error (0, 230)) := hp2
          clear hp2 hb
          go_wp2
          (repeat (rw [Exit.noGoto_ret]; try go_wp2))
          obtain ⟨y1, y2⟩ := box2_put HU.out (.int .i64 0) (.slice none 0 0)
          refine bodyPost_ret (results_scr rfl _ _ w.heap.size _ _ rfl (by first | exact y1 | exact HU.out)) rfl ?_
          exact ⟨by first | exact grown_new HG.out y2 (Nat.le_refl _) | exact HG.out, .inr ⟨0, 230, HP3.out, by decide, rfl⟩⟩
      | some x =>
        · obtain ⟨n, l⟩ := x
          obtain ⟨v, xs, hb, ho, hol⟩ := HR.out.ofS
          simp only at hb ho hol
          obtain ⟨oa', oc', hv⟩ := own_shape20 ho
          obtain ⟨L, hL⟩ : ∃ L, L = l.length := ⟨_, rfl⟩
          rw [← hL] at hv
          subst hv
          have HP3 : Hid (P = .ok (n, l)) := hp2
          have d0 := cell_heapS (i := 0) hb rfl
          have d1 := cell_heapS (i := 1) hb rfl
          have d2 := cell_heapS (i := 2) hb rfl
          have e0 := cell_heapS (i := 0) HU.out rfl
          have e1 := cell_heapS (i := 1) HU.out rfl
          have z0 := frozen_of_row wr w.heap.size 0 _ _ HU.out
          have z1 := frozen_of_row wr w.heap.size 1 _ _ HU.out
          have HO := hid_intro ho
          have HOL := hid_intro hol
          clear hp2 hb ho hol hL
          go_wp2
          (repeat (rw [Exit.noGoto_ret]; try go_wp2))
          obtain ⟨y1, y2⟩ := box2_put HU.out (.int .i64 n) (.slice oa' L oc')
          refine bodyPost_ret (results_scr rfl _ _ w.heap.size _ _ rfl y1) rfl ?_
          exact ⟨grown_new HG.out y2 (Nat.le_refl _), .inl ⟨n, l, _, xs, HP3.out, rfl, OpI.own HO.out HU.out (by decide) y2, HOL.out.one HU.out (by decide) (by decide) y2⟩⟩
    · have b0 : ((tstr t).toList == []) = false := by rw [hem]; simp [ht]
      obtain ⟨hl1, hl2, hl3⟩ := cub_len 10 t
      have hl4 := hl3 ht
      have hl5 := (cub_len 35 (cua 10 t)).1
      have HC := hid_intro (fun W => cut_any 10 t W (by omega))
      have HSD := hid_intro (fun W => said_any (cua 10 t) W (by omega))
      have HNW := hid_intro (fun (x : List UInt8) (W : World) (hx : x.length ≤ 2000000000) => nextWord_any x W hx)
      have HP3 : Hid (P = if wrds (cua 35 (cua 10 t)) = [] then pll (lns (cub 10 t)) (no + 1) s else match tke s (wrds (cua 35 (cua 10 t))) with
          | .ok s' => pll (lns (cub 10 t)) (no + 1) (some s')
          | .error e => .error (no, e)) := by show _ = _; rw [HP2.out, lns_cut t ht, pll_cons]; rfl
      have hz := tstr_size t
      have HMS : Hid (strLen (.string (tstr (cub 10 t))) < strLen (.string (tstr t))) := by show (tstr (cub 10 t)).size < (tstr t).size; rw [tstr_size, tstr_size]; exact hl4
      have hwr : IntKind.i64.wrap ((no : Int) + 1) = (no : Int) + 1 := wrap_small _ (by omega) (by omega)
      have hno2 : no + 1 + (cub 10 t).length ≤ 1048577 := by omega
      have hln : (cua 35 (cua 10 t)).length ≤ 1048577 := by omega
      have HLN := hid_intro hln
      have HN2 := hid_intro hno2
      clear HP2 hem ht hz hno hl1 hl2 hl3 hl4 hl5 hno2
      generalize cua 35 (cua 10 t) = ln at *
      generalize tstr (cua 10 t) = sl at *
      generalize cub 10 t = tr at *
      generalize (cutC 10 t).isSome = fl at *
      generalize tstr t = st at *
      go_wp2_with fail
      refine (HC.out _).mono ?_
      rintro en w3 ⟨rfl, hq⟩
      have g3 := hq.grown none
      have G3 := hid_intro g3
      clear hq g3
      go_wp2_with fail
      refine (HSD.out _).mono ?_
      rintro en w4 ⟨rfl, hg4⟩
      have G4 := hid_intro (grown_trans G3.out hg4)
      clear hg4
      go_wp2_with fail
      refine (HNW.out ln _ (by omega)).mono ?_
      rintro en w5 ⟨rfl, hg5⟩
      have g5 := grown_trans G4.out hg5
      have G5 := hid_intro (grown_trans HG.out g5)
      have R5 := hid_intro (HR.out.keptN g5)
      have U5 := hid_intro (heap_keptS HU.out g5)
      have hw1 := wrds_nw ln
      have hw2 := nw2_len ln
      have HW1 := hid_intro hw1
      clear hg5 g5 G3 G4 HG HR HU HC HSD hw1
      generalize hn1 : nw1 ln = wd1 at *
      generalize hn2 : nw2 ln = rs1 at *
      clear hn1 hn2
      go_wp2
      go_loopw [8, 9, 10] (fun s8 s9 s10 wr => ∃ (ws : List (List UInt8)) (wd rs : List UInt8), s9 = .string (tstr wd) ∧ s10 = .string (tstr rs) ∧ w5.grownBy wr none ∧ wr.ownsRow w5.heap.size 9 1 s8 ws.length (wv ws) ∧ wrds ln = ws ++ (if wd = [] then [] else wd :: wrds rs) ∧ rs.length ≤ 1048577 ∧ wd.length ≤ 1048577) (fun _ s9 s10 _ => strLen s9 + strLen s10)
      case atStart => exact ⟨[], wd1, rs1, rfl, rfl, World.grownBy.refl _ _, ⟨rfl, .inl ⟨rfl, rfl⟩⟩, HW1.out, by omega, by omega⟩
      case round =>
        obtain ⟨ws, wd, rs, rfl, rfl, hg, ho, hw, hrl, hwl⟩ := hrel
        obtain ⟨oa', oc', hv8⟩ := own_shape20 ho
        subst hv8
        have HG6 := hid_intro hg
        have HO := hid_intro ho
        have HW := hid_intro hw
        have hsl := (wrds_len ln).2
        rw [hw, List.length_append] at hsl
        have hemw := str_nil wd
        clear HW1 hw2 hg ho hw
        obtain ⟨N, hN⟩ : ∃ N, ws.length = N := ⟨_, rfl⟩
        have HNN := hid_intro hN
        rw [hN] at HO hsl ⊢
        clear hN
        have hNz : (N : Int) ≤ 1048577 := by omega
        by_cases hwd : wd = []
        · subst hwd
          have b1 : ((tstr []).toList == []) = true := by rw [hemw]; rfl
          clear hemw hsl
          by_cases hws : N = 0
          · subst hws
            have h0 : ws = [] := List.eq_nil_of_length_eq_zero HNN.out
            have HP4 : Hid (P = pll (lns tr) (no + 1) s) := by
              show _ = _
              rw [HP3.out, if_pos (by rw [HW.out, h0]; rfl)]
            generalize tstr [] = sw at *
            clear HP3 h0
            go_wp2
            go_roundw
            case rel => exact ⟨no + 1, tr, s, rfl, by simp, HN2.out, grown_trans G5.out HG6.out, R5.out.keptN HG6.out, heap_keptS U5.out HG6.out, HP4.out, HS.out⟩
            case measure => exact HMS.out
          · have h0 : ws ≠ [] := fun e => by rw [e] at HNN; exact hws HNN.out.symm
            have g0 : ((N : Int) == 0) = false := by rw [beq_eq_false_iff_ne]; omega
            obtain ⟨gw, ha, hwl, hwn, hwc⟩ := wsl_own HO.out h0
            subst ha
            obtain ⟨T0, lw, hws2⟩ : ∃ T0 lw, ws = T0 :: lw := by
              cases ws with
              | nil => exact absurd rfl h0
              | cons x y => exact ⟨x, y, rfl⟩
            have hww : wrds ln = T0 :: lw := by rw [HW.out, hws2, if_pos rfl, List.append_nil]
            have HP4 : Hid (P = match tke s (T0 :: lw) with
              | .ok s' => pll (lns tr) (no + 1) (some s')
              | .error e => .error (no, e)) := by
              show _ = _
              rw [HP3.out, if_neg (by rw [hww]; simp), hww]
            have HTT : Hid (∀ T ∈ T0 :: lw, T.length ≤ 2000000000) := fun T hT => by
              have := (wrds_len ln).1 T (by rw [hww]; exact hT)
              have := HLN.out
              omega
            obtain ⟨M, rfl⟩ : ∃ M, N = M + 1 := ⟨N - 1, by omega⟩
            obtain ⟨D, rfl⟩ : ∃ D, oc' = D + 1 := ⟨oc' - 1, by omega⟩
            have hlm : lw.length = M := by rw [hws2] at hwn; simp at hwn; exact hwn
            have HR6 := hid_intro (R5.out.keptN HG6.out)
            have HG7 := hid_intro (grown_trans G5.out HG6.out)
            have HU6 := hid_intro (heap_keptS U5.out HG6.out)
            have hgR : gw ≠ w.heap.size + 1 := fun e => by
              have hR6 := HR6.out
              have := hR6.box
              obtain ⟨cs, hcs⟩ := this
              rcases own_neB HO.out hcs (by decide) with h | h
              · cases h
              · exact h (by rw [e]; rfl)
            have HTK := hid_intro (take_any T0 lw gw M D (w.heap.size + 1) w.heap.size s wr (HL.out.keptN HG7.out) (by rw [← hws2]; exact hwl) hlm (by omega) (by omega) HTT.out HR6.out HG7.out.size (by omega) HS.out hgR HLT.out)
            have HSL : Hid (∀ s', tke s (T0 :: lw) = .ok s' → s'.2.length ≤ 2000) := fun s' hs' => tke_len hs' HS.out
            generalize tstr [] = sw at *
            clear HP3 h0 hwl hwn hws2 hww hlm hgR HO HW HTT HR6
            generalize tke s (T0 :: lw) = TK at *
            have g1 : (((M : Int) + 1) == 0) = false := by rw [beq_eq_false_iff_ne]; omega
            clear hws hwc hNz g0 hrl
            go_wp2_with fail
            refine HTK.out.mono ?_
            rintro en w7 ⟨⟨hb7, ht7⟩, hr7⟩
            have G7 := hid_intro (grown_ofBelow HG7.out hb7)
            have U7 := hid_intro (ht7 w.heap.size _ HU6.out (by omega) (fun cs fr e => by injection e with _ e2 _; exact absurd e2 (by decide)))
            clear hb7 ht7
            rcases hr7 with ⟨s', r1, rfl, hR7⟩ | ⟨e, r1, r2, rfl⟩
            · have HP5 : Hid (P = pll (lns tr) (no + 1) (some s')) := by show _ = _; rw [HP4.out, r1]
              have HR7 := hid_intro hR7
              have HS7 : Hid (s'.2.length ≤ 2000) := HSL.out s' r1
              clear r1 hR7 HP4
              go_wp2
              go_roundw
              case rel => exact ⟨no + 1, tr, some s', rfl, by simp, HN2.out, G7.out, HR7.out, U7.out, HP5.out, fun x hx => by cases hx; exact HS7.out⟩
              case measure => exact HMS.out
            · have HP5 : Hid (P = .error (no, e)) := by show _ = _; rw [HP4.out, r1]
              have ge : (e == 0) = false := by rw [beq_eq_false_iff_ne]; exact r2
              have e0 := cell_heapS (i := 0) U7.out rfl
              have e1 := cell_heapS (i := 1) U7.out rfl
              have z0 := frozen_of_row w7 w.heap.size 0 _ _ U7.out
              have z1 := frozen_of_row w7 w.heap.size 1 _ _ U7.out
              clear r1 HP4
              go_wp2
              (repeat (rw [Exit.noGoto_ret]; try go_wp2))
              obtain ⟨y1, y2⟩ := box2_put U7.out (.int .i64 0) (.slice none 0 0)
              refine bodyPost_ret (results_scr rfl _ _ w.heap.size _ _ rfl (by first | exact y1 | exact U7.out)) rfl ?_
              exact ⟨by first | exact grown_new G7.out y2 (Nat.le_refl _) | exact G7.out, .inr ⟨no, e, HP5.out, r2, rfl⟩⟩
        · have b1 : ((tstr wd).toList == []) = false := by rw [hemw]; simp [hwd]
          have hw3 := nw2_len rs
          have HWN : Hid (wrds ln = (ws ++ [wd]) ++ (if nw1 rs = [] then [] else nw1 rs :: wrds (nw2 rs))) := by
            show _ = _
            rw [HW.out, if_neg hwd, wrds_nw rs, List.append_assoc]
            rfl
          have hdl : 0 < wd.length := List.length_pos_iff.2 hwd
          have HMS2 : Hid (strLen (.string (tstr (nw1 rs))) + strLen (.string (tstr (nw2 rs))) < strLen (.string (tstr wd)) + strLen (.string (tstr rs))) := by
            show (tstr (nw1 rs)).size + (tstr (nw2 rs)).size < (tstr wd).size + (tstr rs).size
            rw [tstr_size, tstr_size, tstr_size, tstr_size]
            omega
          have HVV : Hid (wv (ws ++ [wd]) = wv ws ++ [.string (tstr wd)]) := by show _ = _; unfold wv; rw [List.map_append]; rfl
          have hN1 : N + 1 ≤ 2000000 := by omega
          have hsz6 := HG6.out.size
          clear hemw hwd HW hsl hdl
          generalize tstr wd = sw at *
          go_wp2_with (at_builtin; refine wpList_append_own _ rfl _ _ 56 rfl w5.heap.size 9 ip (.string ⟨#[]⟩) 1 16 Tryz.underlying56 hip hp0 hp1 hp2 rfl (by decide) _ N _ rfl (HO.out.alloc _) ⟨wr.heap.size, 0, none⟩ 1 1 [.string sw] rfl rfl (cell_one20 _ _ _) (by intro u hu; simp at hu; subst hu; rfl) (by unfold maxLen; omega) (by omega) (by simp; omega) ?_)
          intro v8 w8 ho8 hg8 _
          obtain ⟨va, vc, hv8⟩ := own_shape20 ho8
          subst hv8
          have O8 := hid_intro ho8
          have G8 := hid_intro (grown_app20 HG6.out HO.out (Nat.le_refl _) hg8)
          clear ho8 hg8 HO
          go_wp2_with fail
          refine (HNW.out rs _ (by omega)).mono ?_
          rintro en w9 ⟨rfl, hg9⟩
          have O9 := hid_intro (own_keptD O8.out hg9)
          have G9 := hid_intro (grown_trans G8.out hg9)
          clear hg9
          go_wp2
          go_roundw
          case rel => exact ⟨ws ++ [wd], nw1 rs, nw2 rs, rfl, rfl, G9.out, by rw [HVV.out, List.length_append, HNN.out]; exact O9.out, HWN.out, by omega, by omega⟩
          case measure => exact HMS2.out
theorem parse_any (T : List UInt8) (w : World) (hL : Lv w) (h : T.length ≤ 140737488355328) : Calls Tryz.prog 12 #[.string (tstr T)] w fun en w' => PsP w (psc T) en w' := by
  by_cases h1 : T.length ≤ 1048576
  · exact parse_few T w hL h1
  · exact parse_many T w (by omega) h
end Go.Proofs.YtcjgmiilfjjbcaaGreatDoor
