import Derived.Test.YtdoclmmghdaaaaaGreatDoorSf4
namespace Go.Proofs.YtdoclmmghdaaaaaGreatDoor
open Go.RowKit

theorem cua_at {T : List UInt8} {f t : Nat} (hft : f ≤ t) (ht : t ≤ T.length) (h : (10 : UInt8) ∉ (T.drop f).take (t - f)) (he : t = T.length ∨ ∃ h : t < T.length, T[t]'h = 10) : cua 10 (T.drop f) = (T.drop f).take (t - f) ∧ cub 10 (T.drop f) = T.drop (t + 1) := by
  unfold cua cub
  rcases he with rfl | ⟨h1, h2⟩
  · have e : (T.drop f).take (T.length - f) = T.drop f := by rw [← List.length_drop, List.take_length]
    rw [e] at h ⊢
    rw [cutC_none.2 h]
    exact ⟨rfl, (List.drop_of_length_le (by omega)).symm⟩
  · have e : T.drop f = (T.drop f).take (t - f) ++ 10 :: T.drop (t + 1) := by
      conv => lhs; rw [← List.take_append_drop (t - f) (T.drop f)]
      congr 1
      rw [List.drop_drop, show f + (t - f) = t by omega, List.drop_eq_getElem_cons h1, h2]
    have hc : cutC 10 (T.drop f) = some ((T.drop f).take (t - f), T.drop (t + 1)) := by
      conv => lhs; rw [e]
      exact cutC_app h
    rw [hc]
    exact ⟨rfl, rfl⟩
theorem take_grow {T : List UInt8} {f t : Nat} (hft : f ≤ t) (ht : t < T.length) : (T.drop f).take (t + 1 - f) = (T.drop f).take (t - f) ++ [T[t]'ht] := by
  rw [show t + 1 - f = (t - f) + 1 by omega, List.take_add_one, List.getElem?_drop, show f + (t - f) = t by omega, List.getElem?_eq_getElem ht]
  rfl
theorem wrds_ne (l : List UInt8) : ∀ x ∈ wrds l, x ≠ [] := by
  have ht : ∀ l : List UInt8, ∀ x ∈ (tok l).2, x ≠ [] := by
    intro l
    induction l with
    | nil => intro x hx; cases hx
    | cons c l ih =>
      intro x hx
      rw [tok] at hx
      split at hx
      · simp only at hx
        unfold cns at hx
        split at hx
        · exact ih x hx
        · rename_i hne
          rcases List.mem_cons.1 hx with rfl | hx
          · exact hne
          · exact ih x hx
      · exact ih x hx
  intro x hx
  unfold wrds cns at hx
  split at hx
  · exact ht l x hx
  · rename_i hne
    rcases List.mem_cons.1 hx with rfl | hx
    · exact hne
    · exact ht l x hx
/-- What has been read, in its box. -/
def Rdd (w : World) (B S : Nat) (b : Bool) (st : Option Sq) : Prop := ∃ n l v xs, w.heap[S]? = some (.cells #[.int .i64 n, v] 25 (0, 0)) ∧ w.ownsRow B 49 8 v l.length xs ∧ OpL w B xs l ∧ ((b = true ∧ st = some (n, l) ∧ l.length ≤ 2000) ∨ (b = false ∧ st = none ∧ l = []))
theorem Rdd.keptN {w w' : World} {B S : Nat} {b : Bool} {st : Option Sq} (h : Rdd w B S b st) (hg : w.grownBy w' none) : Rdd w' B S b st := by
  obtain ⟨n, l, v, xs, h1, h2, h3, h4⟩ := h
  exact ⟨n, l, v, xs, heap_keptS h1 hg, own_keptD h2 hg, h3.keptN hg, h4⟩
set_option maxHeartbeats 32000000 in
set_option maxRecDepth 100000 in
theorem refParse23 (T : List UInt8) (w : World) (hT : T.length ≤ 2000000000) : Calls Tryz.prog 8 #[.string (tstr T)] w fun en w' => PsP w (psc T) en w' := by
  obtain ⟨ip, hip, hp0, hp1, hp2⟩ := info_parts info_aopS
  have hsz := tstr_size T
  have g1 := World.grownBy_alloc w (.cells #[.int .i64 0, .slice none 0 0] 25) none
  have XU0 := hid_intro (heap_at0S w #[.int .i64 0, .slice none 0 0] 25)
  have G1 := hid_intro g1
  have HUW0 : Hid (w.heap.size ≤ w.heap.size) := Nat.le_refl w.heap.size
  have HEX : Hid (∀ i k, (tstr T).extract i k = tstr ((T.drop i).take (k - i))) := fun i k => ext_mid T i k
  have HAT : Hid (∀ i (h : i < (tstr T).size) (h2 : i < T.length), (tstr T)[i]'h = T[i]'h2) := fun i h h2 => by
    have := getD_data (tstr T) i h
    rw [tstr_data] at this
    rw [← this, List.getD, List.getElem?_eq_getElem h2]
    rfl
  have HPS : Hid (psc T = if 1048576 < T.length then .error (0, 234) else pll (lns T) 1 none) := rfl
  generalize psc T = R at *
  by_cases hbig : 1048576 < T.length
  · have gb : (1048576 : Int) < ((tstr T).size : Int) := by omega
    have HR : Hid (R = .error (0, 234)) := by show _ = _; rw [HPS.out, if_pos hbig]
    clear hbig hsz HEX HAT
    generalize tstr T = s at *
    go_enter Tryz.func8, Tryz.ntmps8
    go_wp2
    refine bodyPost_ret (results_scr rfl _ _ w.heap.size _ _ rfl XU0.out) rfl ?_
    exact ⟨G1.out, .inr ⟨0, 234, HR.out, by decide, rfl⟩⟩
  · have gb : ¬ (1048576 : Int) < ((tstr T).size : Int) := by omega
    have HR0 : Hid (R = pll (lns (T.drop 0)) (0 + 1) none) := by show _ = _; rw [HPS.out, if_neg hbig]; rfl
    have g2 := World.grownBy_alloc (w.alloc (.cells #[.int .i64 0, .slice none 0 0] 25)) (.cells #[.int .i64 0, .slice none 0 0] 25) none
    have xU := heap_keptS (heap_at0S w #[.int .i64 0, .slice none 0 0] 25) g2
    have xS := heap_at0S (w.alloc (.cells #[.int .i64 0, .slice none 0 0] 25)) #[.int .i64 0, .slice none 0 0] 25
    rw [size_allocD] at xS
    have XU := hid_intro xU
    have XS := hid_intro xS
    have G2 := hid_intro (grown_trans g1 g2)
    have HSZ := hid_intro hsz
    have hs2 : (tstr T).size ≤ 1048576 := by omega
    clear g1 g2 xU xS XU0 G1 hbig hsz HPS
    obtain ⟨s, hs⟩ : ∃ s, tstr T = s := ⟨_, rfl⟩
    rw [hs] at HEX HSZ gb hs2 ⊢
    have HAT2 : Hid (∀ i (h : i < s.size) (h2 : i < T.length), s[i]'h = T[i]'h2) := by subst hs; exact HAT.out
    clear hs HAT
    go_enter Tryz.func8, Tryz.ntmps8
    go_upto_region 4 with fail
    generalize (w.alloc (.cells #[.int .i64 0, .slice none 0 0] 25)).alloc (.cells #[.int .i64 0, .slice none 0 0] 25) = w2 at *
    obtain ⟨U, hU⟩ : ∃ U, w.heap.size = U := ⟨_, rfl⟩
    rw [hU] at XU XS ⊢
    have HUE := hid_intro hU
    have HUW : Hid (w.heap.size ≤ U) := by show _ ≤ _; rw [hU]; exact Nat.le_refl _
    have HOW : Hid (w.heap.size ≤ U + 1) := by show _ ≤ _; rw [hU]; exact Nat.le_succ _
    have R2 : Hid (Rdd w2 w.heap.size (U + 1) false none) := ⟨0, [], .slice none 0 0, [], XS.out, ⟨rfl, .inl ⟨rfl, rfl⟩⟩, OpL.nil _ _, .inr ⟨rfl, rfl, rfl⟩⟩
    clear hU HUW0
    go_wp2
    go_loopw [6, 7, 8, 9, 10, 11, 12, 13, 14] (fun sb sn sf _ _ _ _ _ _ wr => ∃ (b : Bool) (k f : Nat) (st : Option Sq), sb = .bool b ∧ sn = .int .i64 (k : Nat) ∧ sf = .int .i64 (f : Nat) ∧ f ≤ s.size + 1 ∧ k ≤ f ∧ w.grownBy wr none ∧ Rdd wr w.heap.size (U + 1) b st ∧ wr.heap[U]? = some (.cells #[.int .i64 0, .slice none 0 0] 25 (0, 0)) ∧ R = pll (lns (T.drop f)) (k + 1) st) (fun _ _ sf _ _ _ _ _ _ _ => s.size + 1 - (intOf sf).toNat)
    case atStart => exact ⟨false, 0, 0, none, rfl, rfl, rfl, by omega, Nat.le_refl _, G2.out, R2.out, XU.out, HR0.out⟩
    case round =>
      obtain ⟨b, k, f, st, rfl, rfl, rfl, hf, hkf, hg, hrd, hu, hr⟩ := hrel
      have HG := hid_intro hg
      have HRD := hid_intro hrd
      have HU := hid_intro hu
      have HR := hid_intro hr
      clear hg hrd hu hr G2 R2 XU XS HR0
      have hfz : (0 : Int) ≤ (f : Int) := by omega
      have wk : IntKind.i64.wrap ((k : Int) + 1) = (k : Int) + 1 := wrap_small _ (by omega) (by omega)
      by_cases hfs : f < s.size
      · have e1 : (f : Int) < (s.size : Int) := by omega
        go_wp2
        go_loopw [9] (fun st' wr' => ∃ t : Nat, f ≤ t ∧ t ≤ s.size ∧ st' = .int .i64 (t : Nat) ∧ (10 : UInt8) ∉ (T.drop f).take (t - f) ∧ wr' = wr) (fun st' _ => s.size - (intOf st').toNat)
        case atStart => exact ⟨f, Nat.le_refl _, by omega, rfl, by rw [Nat.sub_self]; simp, rfl⟩
        case round =>
          obtain ⟨t, ht1, ht2, rfl, hno, hww⟩ := hrel
          have HNO := hid_intro hno
          subst hww
          have htz : (0 : Int) ≤ (t : Int) := by omega
          have wt : IntKind.i64.wrap ((t : Int) + 1) = (t : Int) + 1 := wrap_small _ (by omega) (by omega)
          clear hno
          by_cases hgo : ∃ h : t < s.size, s[t]'h ≠ 10
          · obtain ⟨h1, h2⟩ := hgo
            have e2 : (t : Int) < (s.size : Int) := by omega
            have e3 : (((s[t]'h1).toNat : Int) == 10) = false := by
              rw [beq_eq_false_iff_ne]
              intro h
              exact h2 (UInt8.toNat_inj.1 (by have : (s[t]'h1).toNat = 10 := by omega
                                              rw [this]; rfl))
            have HNO2 : Hid ((10 : UInt8) ∉ (T.drop f).take (t + 1 - f)) := by
              show _ ∉ _
              have hlt : t < T.length := by have := HSZ.out; omega
              rw [take_grow ht1 hlt, List.mem_append]
              rintro (q | q)
              · exact HNO.out q
              · simp only [List.mem_cons, List.not_mem_nil, or_false] at q
                rw [← HAT2.out t h1 hlt] at q
                exact h2 q.symm
            clear h2
            go_wp2
            go_roundw
            case rel => exact ⟨t + 1, by omega, by omega, by go_num, HNO2.out, by first | rfl | trivial⟩
            case measure => simp [intOf]; omega
          · have hend : t = T.length ∨ ∃ h : t < T.length, T[t]'h = 10 := by
              by_cases h1 : t < s.size
              · have hlt : t < T.length := by have := HSZ.out; omega
                refine .inr ⟨hlt, ?_⟩
                rw [← HAT2.out t h1 hlt]
                by_cases h2 : s[t]'h1 = 10
                · exact h2
                · exact absurd ⟨h1, h2⟩ hgo
              · left; have := HSZ.out; omega
            obtain ⟨c1, c2⟩ := cua_at ht1 (by have := HSZ.out; omega) HNO.out hend
            obtain ⟨ln, hln⟩ : ∃ ln, (T.drop f).take (t - f) = ln := ⟨_, rfl⟩
            have HX : Hid (s.extract f t = tstr ln) := by show _ = _; rw [HEX.out, hln]
            rw [hln] at c1
            have hlnl : ln.length ≤ 2000000 := by rw [← hln, List.length_take]; have := HSZ.out; omega
            have HR1 : Hid (R = if wrds (cua 35 ln) = [] then pll (lns (T.drop (t + 1))) (k + 1 + 1) st else match tke st (wrds (cua 35 ln)) with | .ok s' => pll (lns (T.drop (t + 1))) (k + 1 + 1) (some s') | .error e => .error (k + 1, e)) := by
              show _ = _
              rw [HR.out, lns_cut _ (by intro e; have := congrArg List.length e; rw [List.length_drop] at this; simp at this; have := HSZ.out; omega), pll_cons, c1, c2]
              first | rfl | (split <;> first | rfl | (cases tke st (wrds (cua 35 ln)) <;> rfl))
            have HWD := hid_intro (fun W => refWords_any ln W hlnl)
            have hwl := wrds_len (cua 35 ln)
            have hcl := cua_le 35 ln
            have HWN := hid_intro (wrds_ne (cua 35 ln))
            have e4 : (f : Int) ≤ (t : Int) := by omega
            have e5 : (t : Int) ≤ (s.size : Int) := by omega
            clear c1 c2 hln hend HR HNO
            obtain ⟨ws, hws⟩ : ∃ ws, wrds (cua 35 ln) = ws := ⟨_, rfl⟩
            rw [hws] at HR1 HWD hwl HWN
            have HWL := hid_intro hwl
            clear hws hwl
            have hX := HX.out
            generalize tstr ln = sl at *
            by_cases h1 : t < s.size
            case' pos =>
              have e2 : (t : Int) < (s.size : Int) := by omega
              have h2 : s[t]'h1 = 10 := by
                by_cases h2 : s[t]'h1 = 10
                · exact h2
                · exact absurd ⟨h1, h2⟩ hgo
              have e3 : (((s[t]'h1).toNat : Int) == 10) = true := by rw [h2]; rfl
              clear h2 hgo
              go_wp2_with fail
            case' neg =>
              have e2 : ¬ (t : Int) < (s.size : Int) := by omega
              clear hgo
              go_wp2_with fail
            all_goals
              refine (HWD.out _).mono ?_
              rintro en w4 ⟨la, lc, rfl, ho4, hg4⟩
              have G4 := hid_intro (grown_trans HG.out hg4)
              have R4 := hid_intro (HRD.out.keptN hg4)
              have U4 := hid_intro (heap_keptS HU.out hg4)
              clear hg4 HWD
              by_cases hw0 : ws = []
              · subst hw0
                have HRA : Hid (R = pll (lns (T.drop (t + 1))) (k + 1 + 1) st) := by show _ = _; rw [HR1.out, if_pos rfl]
                clear HR1 ho4 HWL HWN HRD HU HG
                go_wp2
                go_roundw
                case rel => exact ⟨b, k + 1, t + 1, st, rfl, by go_num, by go_num, by omega, by omega, G4.out, R4.out, U4.out, HRA.out⟩
                case measure => simp [intOf]; omega
              · obtain ⟨gw, ea, hwsl, _, _⟩ := wsl_own ho4 hw0
                subst ea
                obtain ⟨T0, lw, hwe⟩ : ∃ T0 lw, ws = T0 :: lw := by
                  cases ws with
                  | nil => exact absurd rfl hw0
                  | cons a b => exact ⟨a, b, rfl⟩
                subst hwe
                have HRA : Hid (R = match tke st (T0 :: lw) with | .ok s' => pll (lns (T.drop (t + 1))) (k + 1 + 1) (some s') | .error e => .error (k + 1, e)) := by show _ = _; rw [HR1.out, if_neg hw0]
                have HTA : Hid (∀ x ∈ T0 :: lw, x ≠ [] ∧ x.length ≤ 2000000000) := fun x hx => ⟨HWN.out x hx, by have := HWL.out.1 x hx; omega⟩
                obtain ⟨m, hm⟩ : ∃ m, lw.length = m := ⟨_, rfl⟩
                have hm2 : m ≤ 2000000 := by have := HWL.out.2; rw [List.length_cons, hm] at this; omega
                have HMM := hid_intro hm
                have HWS := hid_intro hwsl
                have hlen : (T0 :: lw).length = m + 1 := by rw [List.length_cons, hm]
                rw [hlen]
                clear HR1 ho4 HWL HWN HRD HU HG hw0 hwsl hlen hm
                obtain ⟨n, l, v, xs, x1, x2, x3, x4⟩ := R4.out
                have X5 := hid_intro x1
                have O5 := hid_intro x2
                have L5 := hid_intro x3
                clear R4 x1 x2 x3
                rcases x4 with ⟨hb, hst, hl2⟩ | ⟨hb, hst, hl0⟩
                · subst hb hst
                  obtain ⟨va, vc, hv⟩ := own_shape20 O5.out
                  subst hv
                  have d1 := cell_heapS (i := 1) X5.out rfl
                  by_cases h2000 : l.length = 2000
                  · have HRB : Hid (R = .error (k + 1, 234)) := by show _ = _; rw [HRA.out]; unfold tke; simp only; rw [if_pos h2000]
                    have ge : ((l.length : Int) == 2000) = true := by rw [h2000]; rfl
                    clear HRA h2000
                    have u0 := cell_heapS (i := 0) U4.out rfl
                    have zu0 := frozen_of_row w4 U 0 _ _ U4.out
                    have u1 := cell_heapS (i := 1) U4.out rfl
                    have zu1 := frozen_of_row w4 U 1 _ _ U4.out
                    go_wp2
                    obtain ⟨y1, y2⟩ := box2_put U4.out (.int .i64 0) (.slice none 0 0)
                    refine bodyPost_ret (results_scr rfl _ _ U _ _ rfl (by first | exact y1 | exact U4.out)) rfl ?_
                    exact ⟨by first | exact grown_new G4.out y2 HUW.out | exact G4.out, .inr ⟨k + 1, 234, HRB.out, by decide, rfl⟩⟩
                  · have ge : ((l.length : Int) == 2000) = false := by rw [beq_eq_false_iff_ne]; omega
                    have HTK : Hid (tke (some (n, l)) (T0 :: lw) = (stp (T0 :: lw)).map fun o => (n, l ++ [o])) := by show _ = _; unfold tke; simp only; rw [if_neg h2000]
                    have HST := hid_intro (refStep23 T0 lw gw m lc w4 HWS.out HMM.out hm2 HTA.out)
                    obtain ⟨L, hL⟩ : ∃ L, l.length = L := ⟨_, rfl⟩
                    have HLL := hid_intro hL
                    rw [hL] at X5 O5 ge d1 h2000 hl2
                    have hL1 : L + 1 ≤ 2000 := by omega
                    have HL2 : Hid ((l.length : Nat) + 1 ≤ 2000) := by show _ ≤ _; rw [hL]; exact hL1
                    clear hL
                    go_wp2_with fail
                    refine HST.out.mono ?_
                    rintro en w5 ⟨hg5, hr5⟩
                    rcases hr5 with ⟨o, ka, kc, va', vc', ha, hc, fa, fc, r1, rfl, hV⟩ | ⟨o, ka, kc, va', vc', ha, hc, fa, fc, e, r1, r2, rfl⟩
                    · rw [r1] at HTK
                      have HRB : Hid (R = pll (lns (T.drop (t + 1))) (k + 1 + 1) (some (n, l ++ [o]))) := by show _ = _; rw [HRA.out, HTK.out]; rfl
                      have ga := World.grownBy_alloc w5 (.cells #[.int .i64 o.k, .int .i64 o.a, .int .i64 o.b, .int .i64 o.c, .slice ka o.key.length kc, .slice va' o.val.length vc', .slice ha o.hi.length hc, .slice fa o.f.length fc] 49) none
                      have g6 := grown_trans hg5 ga
                      have X6 := hid_intro (heap_keptS X5.out g6)
                      have O6 := hid_intro (own_keptD O5.out g6)
                      have L6 := hid_intro (L5.out.keptN g6)
                      have U6 := hid_intro (heap_keptS U4.out g6)
                      have G6 := hid_intro (grown_trans G4.out g6)
                      have V6 := hid_intro ((hV.low (B' := w.heap.size) G4.out.size).keptN ga)
                      have xb := heap_at0S w5 #[.int .i64 o.k, .int .i64 o.a, .int .i64 o.b, .int .i64 o.c, .slice ka o.key.length kc, .slice va' o.val.length vc', .slice ha o.hi.length hc, .slice fa o.f.length fc] 49
                      have xb0 := cell_heapS (i := 0) xb rfl
                      have xb1 := cell_heapS (i := 1) xb rfl
                      have xb2 := cell_heapS (i := 2) xb rfl
                      have xb3 := cell_heapS (i := 3) xb rfl
                      have xb4 := cell_heapS (i := 4) xb rfl
                      have xb5 := cell_heapS (i := 5) xb rfl
                      have xb6 := cell_heapS (i := 6) xb rfl
                      have xb7 := cell_heapS (i := 7) xb rfl
                      clear r1 HTK HRA hg5 ga g6 hV xb d1 X5 O5 L5
                      go_upto_region 26 with fail
                      generalize w5.alloc (.cells #[.int .i64 o.k, .int .i64 o.a, .int .i64 o.b, .int .i64 o.c, .slice ka o.key.length kc, .slice va' o.val.length vc', .slice ha o.hi.length hc, .slice fa o.f.length fc] 49) = w6 at *
                      have d1 := cell_heapS (i := 1) X6.out rfl
                      have hs6 : w.heap.size ≤ w6.heap.size := G6.out.size
                      have hSl : U + 1 < w6.heap.size := (Array.getElem?_eq_some_iff.1 X6.out).1
                      have HAP : Hid ((w6.alloc (.cells #[.int .i64 o.k, .int .i64 o.a, .int .i64 o.b, .int .i64 o.c, .slice ka o.key.length kc, .slice va' o.val.length vc', .slice ha o.hi.length hc, .slice fa o.f.length fc] 49)).ownsRow w.heap.size 49 8 (.slice va L vc) L xs) := by
                        have := O6.out.alloc (.cells #[.int .i64 o.k, .int .i64 o.a, .int .i64 o.b, .int .i64 o.c, .slice ka o.key.length kc, .slice va' o.val.length vc', .slice ha o.hi.length hc, .slice fa o.f.length fc] 49)
                        exact this
                      have HZ : Hid (∀ (v8 : Value) (w8 : World), w8.ownsRow w.heap.size 49 8 v8 (L + 1) (xs ++ [.int .i64 o.k, .int .i64 o.a, .int .i64 o.b, .int .i64 o.c, .slice ka o.key.length kc, .slice va' o.val.length vc', .slice ha o.hi.length hc, .slice fa o.f.length fc]) → (w6.alloc (.cells #[.int .i64 o.k, .int .i64 o.a, .int .i64 o.b, .int .i64 o.c, .slice ka o.key.length kc, .slice va' o.val.length vc', .slice ha o.hi.length hc, .slice fa o.f.length fc] 49)).grownBy w8 (Value.slice va L vc).ownBlock → w8.cell? ⟨U + 1, 1, none⟩ = some (.slice va L vc) ∧ w8.frozen? ⟨U + 1, 1, none⟩ = false ∧ w.grownBy (w8.setCell ⟨U + 1, 1, none⟩ v8) none ∧ (w8.setCell ⟨U + 1, 1, none⟩ v8).heap[U]? = some (.cells #[.int .i64 0, .slice none 0 0] 25 (0, 0)) ∧ Rdd (w8.setCell ⟨U + 1, 1, none⟩ v8) w.heap.size (U + 1) true (some (n, l ++ [o]))) := fun v8 w8 ho hg => by
                        have gb := World.grownBy_alloc w6 (.cells #[.int .i64 o.k, .int .i64 o.a, .int .i64 o.b, .int .i64 o.c, .slice ka o.key.length kc, .slice va' o.val.length vc', .slice ha o.hi.length hc, .slice fa o.f.length fc] 49) none
                        have o6 := own_keptD O6.out gb
                        have x6 := heap_keptS X6.out gb
                        have u6 := heap_keptS U6.out gb
                        have bx : w8.heap[U + 1]? = some (.cells #[.int .i64 n, .slice va L vc] 25 (0, 0)) := by
                          rw [hg.block (U + 1) (by simp; omega) (fun e => ?_)]
                          · exact x6
                          · rcases own_neB o6 x6 (by decide) with h | h
                            · rw [h] at e; cases e
                            · exact h e.symm
                        have ux : w8.heap[U]? = some (.cells #[.int .i64 0, .slice none 0 0] 25 (0, 0)) := by
                          rw [hg.block U (by simp; omega) (fun e => ?_)]
                          · exact u6
                          · rcases own_neB o6 u6 (by decide) with h | h
                            · rw [h] at e; cases e
                            · exact h e.symm
                        have hb := heap_setCell_same w8 (U + 1) 1 _ _ v8 bx
                        have hg2 := grown_cellS w8 (U + 1) 1 v8
                        have gA := grown_trans G6.out gb
                        have gB := grown_ofBelow gA (below_ownS hg o6 gA.size)
                        have l8 := (L6.out.keptN gb).own o6 (by decide) (by decide) hg
                        have v8' := (V6.out.keptN gb).own o6 (by decide) (by decide) hg
                        refine ⟨cell_heapS (i := 1) bx rfl, frozen_of_row w8 (U + 1) 1 _ _ bx, grown_new gB hg2 HOW.out, ?_, n, l ++ [o], v8, _, hb, OpI.own ?_ bx (by decide) hg2, (l8.snoc v8').one bx (by decide) (by decide) hg2, .inl ⟨rfl, rfl, by rw [List.length_append]; exact HL2.out⟩⟩
                        · rw [hg2.block U (Array.getElem?_eq_some_iff.1 ux).1 (by simp)]
                          exact ux
                        · rw [List.length_append, HLL.out]
                          exact ho
                      go_wp2_with (at_builtin; refine wpList_append_own _ rfl _ _ 23 rfl w.heap.size 49 ip (.agg #[.int .i64 0, .int .i64 0, .int .i64 0, .int .i64 0, .slice none 0 0, .slice none 0 0, .slice none 0 0, .slice none 0 0]) 8 128 Tryz.underlying23 hip hp0 hp1 hp2 rfl (by decide) _ _ _ rfl HAP.out ⟨w6.heap.size, 0, none⟩ 1 1 [.int .i64 o.k, .int .i64 o.a, .int .i64 o.b, .int .i64 o.c, .slice ka o.key.length kc, .slice va' o.val.length vc', .slice ha o.hi.length hc, .slice fa o.f.length fc] rfl rfl (by exact fun j u hj => cells_new w6 49 #[.int .i64 o.k, .int .i64 o.a, .int .i64 o.b, .int .i64 o.c, .slice ka o.key.length kc, .slice va' o.val.length vc', .slice ha o.hi.length hc, .slice fa o.f.length fc] j u hj) (by intro u hu; simp at hu; rcases hu with rfl | rfl | rfl | rfl | rfl | rfl | rfl | rfl <;> rfl) (by unfold maxLen; omega) (by omega) (by simp; omega) ?_)
                      intro v8 w8 ho8 hg8 _
                      have Z8 := HZ.out v8 w8 ho8 hg8
                      obtain ⟨va8, vc8, hv8⟩ := own_shape20 ho8
                      subst hv8
                      have c8 := Z8.1
                      have f8 := Z8.2.1
                      have ZZ := hid_intro Z8
                      clear ho8 hg8 Z8 HZ HAP
                      go_wp2
                      go_roundw
                      case rel => exact ⟨true, k + 1, t + 1, _, rfl, by go_num, by go_num, by omega, by omega, ZZ.out.2.2.1, ZZ.out.2.2.2.2, ZZ.out.2.2.2.1, HRB.out⟩
                      case measure => simp [intOf]; omega
                    · rw [r1] at HTK
                      have HRB : Hid (R = .error (k + 1, e)) := by show _ = _; rw [HRA.out, HTK.out]; rfl
                      have ger : (e == 0) = false := by rw [beq_eq_false_iff_ne]; exact r2
                      have HE2 := hid_intro r2
                      have ga := World.grownBy_alloc w5 (.cells #[.int .i64 o.k, .int .i64 o.a, .int .i64 o.b, .int .i64 o.c, .slice ka o.key.length kc, .slice va' o.val.length vc', .slice ha o.hi.length hc, .slice fa o.f.length fc] 49) none
                      have U6 := hid_intro (heap_keptS U4.out (grown_trans hg5 ga))
                      have G6 := hid_intro (grown_trans G4.out (grown_trans hg5 ga))
                      clear r1 r2 HTK HRA hg5 ga d1 X5 O5 L5
                      go_upto_region 24 with fail
                      generalize w5.alloc (.cells #[.int .i64 o.k, .int .i64 o.a, .int .i64 o.b, .int .i64 o.c, .slice ka o.key.length kc, .slice va' o.val.length vc', .slice ha o.hi.length hc, .slice fa o.f.length fc] 49) = w6 at *
                      have u0 := cell_heapS (i := 0) U6.out rfl
                      have zu0 := frozen_of_row w6 U 0 _ _ U6.out
                      have u1 := cell_heapS (i := 1) U6.out rfl
                      have zu1 := frozen_of_row w6 U 1 _ _ U6.out
                      go_wp2
                      obtain ⟨y1, y2⟩ := box2_put U6.out (.int .i64 0) (.slice none 0 0)
                      refine bodyPost_ret (results_scr rfl _ _ U _ _ rfl (by first | exact y1 | exact U6.out)) rfl ?_
                      exact ⟨by first | exact grown_new G6.out y2 HUW.out | exact G6.out, .inr ⟨k + 1, e, HRB.out, HE2.out, rfl⟩⟩
                · subst hb hst hl0
                  have HHD := hid_intro (refHead23 T0 lw gw m lc w4 HWS.out HMM.out hm2 (fun x hx => (HTA.out x hx).2))
                  have HTK : Hid (tke none (T0 :: lw) = (tkf (T0 :: lw)).map fun n => (n, [])) := rfl
                  go_wp2_with fail
                  refine HHD.out.mono ?_
                  rintro en w5 ⟨hh, hw5⟩
                  rw [hw5]
                  clear hw5
                  rcases hh with ⟨n', r1, rfl⟩ | ⟨e, r1, r2, rfl⟩
                  · rw [r1] at HTK
                    have HRB : Hid (R = pll (lns (T.drop (t + 1))) (k + 1 + 1) (some (n', []))) := by show _ = _; rw [HRA.out, HTK.out]; rfl
                    have d0 := cell_heapS (i := 0) X5.out rfl
                    have z0 := frozen_of_row w4 (U + 1) 0 _ _ X5.out
                    have hb := heap_setCell_same w4 (U + 1) 0 _ _ (.int .i64 n') X5.out
                    have gc := grown_cellS w4 (U + 1) 0 (.int .i64 n')
                    have RN : Hid (Rdd (w4.setCell ⟨U + 1, 0, none⟩ (.int .i64 n')) w.heap.size (U + 1) true (some (n', []))) := ⟨n', [], v, xs, hb, OpI.own O5.out X5.out (by decide) gc, L5.out.one X5.out (by decide) (by decide) gc, .inl ⟨rfl, rfl, Nat.zero_le _⟩⟩
                    have UN : Hid ((w4.setCell ⟨U + 1, 0, none⟩ (.int .i64 n')).heap[U]? = some (.cells #[.int .i64 0, .slice none 0 0] 25 (0, 0))) := by
                      show _ = _
                      rw [gc.block U (Array.getElem?_eq_some_iff.1 U4.out).1 (by simp)]
                      exact U4.out
                    have GN := hid_intro (grown_new G4.out gc HOW.out)
                    clear r1 HTK HRA hb gc
                    go_wp2
                    go_roundw
                    case rel => exact ⟨true, k + 1, t + 1, _, rfl, by go_num, by go_num, by omega, by omega, GN.out, RN.out, UN.out, HRB.out⟩
                    case measure => simp [intOf]; omega
                  · rw [r1] at HTK
                    have HRB : Hid (R = .error (k + 1, e)) := by show _ = _; rw [HRA.out, HTK.out]; rfl
                    have ger : (e == 0) = false := by rw [beq_eq_false_iff_ne]; exact r2
                    have HE2 := hid_intro r2
                    clear r1 r2 HTK HRA
                    have u0 := cell_heapS (i := 0) U4.out rfl
                    have zu0 := frozen_of_row w4 U 0 _ _ U4.out
                    have u1 := cell_heapS (i := 1) U4.out rfl
                    have zu1 := frozen_of_row w4 U 1 _ _ U4.out
                    go_wp2
                    obtain ⟨y1, y2⟩ := box2_put U4.out (.int .i64 0) (.slice none 0 0)
                    refine bodyPost_ret (results_scr rfl _ _ U _ _ rfl (by first | exact y1 | exact U4.out)) rfl ?_
                    exact ⟨by first | exact grown_new G4.out y2 HUW.out | exact G4.out, .inr ⟨k + 1, e, HRB.out, HE2.out, rfl⟩⟩
      · have e1 : ¬ (f : Int) < (s.size : Int) := by omega
        have HRE : Hid (R = pll [] (k + 1) st) := by show _ = _; rw [HR.out, List.drop_of_length_le (by have := HSZ.out; omega), lns_nil]
        obtain ⟨n, l, v, xs, h1, h2, h3, h4⟩ := HRD.out
        rcases h4 with ⟨hb, hst, _⟩ | ⟨hb, hst, _⟩
        · subst hb hst
          have HRF : Hid (R = .ok (n, l)) := HRE.out
          obtain ⟨va, vc, hv⟩ := own_shape20 h2
          subst hv
          have O2 := hid_intro h2
          have O3 := hid_intro h3
          have X5 := hid_intro h1
          have d0 := cell_heapS (i := 0) X5.out rfl
          have d1 := cell_heapS (i := 1) X5.out rfl
          have u0 := cell_heapS (i := 0) HU.out rfl
          have zu0 := frozen_of_row wr U 0 _ _ HU.out
          have u1 := cell_heapS (i := 1) HU.out rfl
          have zu1 := frozen_of_row wr U 1 _ _ HU.out
          clear h1 h2 h3 HR HRE HRD
          go_wp2
          obtain ⟨y1, y2⟩ := box2_put HU.out (.int .i64 n) (.slice va l.length vc)
          refine bodyPost_ret (results_scr rfl _ _ U _ _ rfl y1) rfl ?_
          exact ⟨grown_new HG.out y2 HUW.out, .inl ⟨n, l, _, xs, HRF.out, rfl, OpI.own O2.out HU.out (by decide) y2, O3.out.one HU.out (by decide) (by decide) y2⟩⟩
        · subst hb hst
          have HRF : Hid (R = .error (0, 230)) := HRE.out
          clear h1 h2 h3 HR HRE HRD
          have u0 := cell_heapS (i := 0) HU.out rfl
          have zu0 := frozen_of_row wr U 0 _ _ HU.out
          have u1 := cell_heapS (i := 1) HU.out rfl
          have zu1 := frozen_of_row wr U 1 _ _ HU.out
          go_wp2
          obtain ⟨y1, y2⟩ := box2_put HU.out (.int .i64 0) (.slice none 0 0)
          refine bodyPost_ret (results_scr rfl _ _ U _ _ rfl (by first | exact y1 | exact HU.out)) rfl ?_
          exact ⟨by first | exact grown_new HG.out y2 HUW.out | exact HG.out, .inr ⟨0, 230, HRF.out, by decide, rfl⟩⟩
end Go.Proofs.YtdoclmmghdaaaaaGreatDoor
