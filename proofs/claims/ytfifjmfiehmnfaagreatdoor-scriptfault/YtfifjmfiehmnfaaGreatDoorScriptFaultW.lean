import Derived.Test.YtfifjmfiehmnfaaGreatDoorSrO
namespace Go.Proofs.YtfifjmfiehmnfaaGreatDoor
open Go.RowKit

theorem byteCells_dz (t : List UInt8) : Lib.byteCells t = (dz t).map (Value.int .u8) := by unfold Lib.byteCells dz; rw [List.map_map]; rfl
/-- A row of bytes as a text. -/
theorem conv_own {w : World} {B n c : Nat} {a : Option Addr} {t : List UInt8} (h : w.ownsRow B 5 1 (.slice a n c) n (Lib.byteCells t)) : (convert 42 9 (.slice a n c)).run Tryz.prog w = .ok (.string (tstr t)) w := by
  rw [byteCells_dz] at h
  have := conv_str (byt_of_ownD h)
  rw [dz_str] at this
  exact this
theorem flt_cnt : ∀ ls : List (List UInt8), ls.length ≤ (flt23 ls).length
  | [] => Nat.zero_le _
  | l :: ls => by have := flt_cnt ls; rw [flt_cons]; simp; omega
set_option maxHeartbeats 32000000 in
set_option maxRecDepth 100000 in
theorem scriptFault_walk (T O : List UInt8) (w : World) (hL : Lv w) : Calls Tryz.prog 6 #[.string (tstr T), .string (tstr O)] w fun en w' => en = .returned (.bool true) ∧ w.grownBy w' none := by
  obtain ⟨i0, hi0, hz0, hz1, hz2⟩ := info_parts info_u8
  have HL : Hid (Lv w) := hL
  have HF := hid_intro (first23_any w hL)
  have hT := tstr_size T
  have hO := tstr_size O
  clear hL
  by_cases h1 : T.length ≤ 60000
  · by_cases h2 : O.length ≤ 60000
    · have t1 : ¬ (60000 : Int) < ((tstr T).size : Int) := by omega
      have t2 : ¬ (60000 : Int) < ((tstr O).size : Int) := by omega
      have HP := hid_intro (fun W hW => parse_any T W hW (by omega))
      have HLN := hid_intro (fun W => lines_any T W h1)
      have HFT : Hid (∀ k e, psc T = .error (k, e) → 1 ≤ k → k ≤ (lns T).length ∧ psc (flt23 ((lns T).take k) ++ O) = .error (k, e) ∧ ((∃ x, psc (flt23 ((lns T).take (k - 1))) = .ok x) ∨ psc (flt23 ((lns T).take (k - 1))) = .error (0, 230)) ∧ (flt23 ((lns T).take k) ++ O).length ≤ 120001 ∧ (flt23 ((lns T).take (k - 1))).length ≤ 60001) := fun k e h hk => psc_fault h h1 h2 hk
      have HFL : Hid ((flt23 (lns T)).length ≤ 60001) := by have := flt_len T; show _ ≤ _; omega
      have HPP := hid_intro (fun (x : List UInt8) (W : World) (hW : Lv W) (hx : x.length ≤ 140737488355328) => parse_any x W hW hx)
      have HOL : Hid (O.length ≤ 60000) := h2
      have HOZ := hid_intro hO
      clear hT hO h1 h2
      generalize tstr T = sT at *
      go_enter Tryz.func6, Tryz.ntmps6
      go_wp2_with fail
      refine HF.out.mono ?_
      rintro en w1 ⟨rfl, hg1⟩
      have G1 := hid_intro hg1
      clear hg1
      go_wp2_with fail
      refine (HP.out _ (HL.out.keptN G1.out)).mono ?_
      rintro en w2 ⟨hg2, hr2⟩
      have G2 := hid_intro (grown_trans G1.out hg2)
      clear hg2
      rcases hr2 with ⟨n, l, v, xs, r1, rfl, ho, _⟩ | ⟨k, e, r1, r2, rfl⟩
      · obtain ⟨a, c, hv⟩ := own_shape20 ho
        obtain ⟨m, hm⟩ : ∃ m, m = l.length := ⟨_, rfl⟩
        rw [← hm] at hv
        subst hv
        have G3 := hid_intro (grown_trans G2.out (World.grownBy_alloc w2 (.cells #[.int .i64 n, .slice a m c] 25) none))
        clear ho hm r1
        go_wp2_with (go_at_call 11; refine (num23_any _ _).mono ?_; rintro en wz ⟨rfl, rfl⟩)
        go_ret
        exact ⟨rfl, G3.out⟩
      · have ge : (e == 0) = false := by rw [beq_eq_false_iff_ne]; exact r2
        have g3 := World.grownBy_alloc w2 (.cells #[.int .i64 0, .slice none 0 0] 25) none
        have G3 := hid_intro (grown_trans G2.out g3)
        clear g3
        by_cases hk : k = 0
        · subst hk
          go_wp2_with (go_at_call 11; refine (num23_any _ _).mono ?_; rintro en wz ⟨rfl, rfl⟩)
          go_ret
          exact ⟨rfl, G3.out⟩
        · have hk1 : ¬ (k : Int) < 1 := by omega
          obtain ⟨q1, q2, q3, q4, q5⟩ := HFT.out k e r1 (by omega)
          have Q2 := hid_intro q2
          have Q3 := hid_intro q3
          have hcnt := flt_cnt (lns T)
          have hM1 := HFL.out
          go_wp2_with (first
            | (go_at_call 11; refine (num23_any _ _).mono ?_; rintro en wz ⟨rfl, rfl⟩)
            | fail)
          refine (HLN.out _).mono ?_
          rintro en w5 ⟨a, c, rfl, ho5, hg5⟩
          have hLne : lns T ≠ [] := fun e => by rw [e] at q1; simp at q1; omega
          obtain ⟨gw, ea, hwl, _, _⟩ := wsl_own ho5 hLne
          subst ea
          have HWS := hid_intro hwl
          have G5 := hid_intro (grown_trans G3.out hg5)
          have L5 := hid_intro (HL.out.keptN G5.out)
          have Q4 := hid_intro q4
          have Q5 := hid_intro q5
          clear hwl ho5 hg5 G3 G2 G1 HF HP HLN HFT r1 hLne q2 q3 q4 q5
          generalize lns T = L at *
          obtain ⟨M, hM⟩ : ∃ M, L.length = M := ⟨_, rfl⟩
          have HML := hid_intro hM
          rw [hM] at q1 hcnt ⊢
          clear hM
          have hMz : (M : Int) ≤ 60001 := by omega
          have hkM : ¬ (M : Int) < (k : Int) := by omega
          have hkMn : ¬ M < k := by omega
          clear hcnt hM1
          go_wp2
          go_loopw [10, 11] (fun sb si wr => ∃ (i n : Nat), i ≤ k ∧ si = .int .i64 (i : Nat) ∧ w5.grownBy wr none ∧ wr.ownsRow w5.heap.size 5 1 sb n (Lib.byteCells (flt23 (L.take i))) ∧ (flt23 (L.take i)).length = n) (fun _ si _ => k - (intOf si).toNat)
          case atStart => exact ⟨0, 0, Nat.zero_le _, rfl, World.grownBy.refl _ _, ⟨rfl, .inl ⟨rfl, rfl⟩⟩, rfl⟩
          case round =>
            obtain ⟨i, n, hi, rfl, hg, ho, hn⟩ := hrel
            have HG := hid_intro hg
            have HO := hid_intro ho
            have HN := hid_intro hn
            obtain ⟨ba, bc, hsb⟩ := own_shape20 ho
            subst hsb
            have hnl : n ≤ 60001 := by
              have h1 := flt_take L i
              have h2 := HFL.out
              omega
            clear hg ho hn
            by_cases hik : i < k
            · have e1 : (i : Int) < (k : Nat) := by omega
              have e2 : (0 : Int) ≤ (i : Int) := by omega
              have e3 : (i : Int) < (M : Nat) := by omega
              obtain ⟨ln, hln⟩ : ∃ ln, L[i]? = some ln := ⟨_, List.getElem?_eq_getElem (by have := HML.out; omega)⟩
              have cl := (HWS.out.keptN HG.out) i ln hln
              rw [Nat.zero_add] at cl
              have htk : L.take (i + 1) = L.take i ++ [ln] := by rw [List.take_add_one, hln]; rfl
              have HTK : Hid (flt23 (L.take (i + 1)) = flt23 (L.take i) ++ (ln ++ [10])) := by show _ = _; rw [htk, flt_snoc]
              have hll : (flt23 (L.take (i + 1))).length ≤ 60001 := by
                have h1 := flt_take L (i + 1)
                have h2 := HFL.out
                omega
              rw [HTK.out, List.length_append, List.length_append, HN.out] at hll
              have hlz : (tstr ln).size ≤ 60001 := by rw [tstr_size]; omega
              have hlz2 := tstr_size ln
              have hwr : IntKind.i64.wrap ((i : Int) + 1) = (i : Int) + 1 := wrap_small _ (by omega) (by omega)
              have hsz := HG.out.size
              clear hln htk
              go_wp2_with (at_builtin; refine Lib.wpList_append_own_string _ rfl _ _ 42 9 rfl w5.heap.size 5 i0 Tryz.underlying42 Tryz.underlying9 hi0 hz0 hz1 hz2 _ _ _ rfl HO.out (tstr ln) rfl ?c3 ?c4 ?c5 ?_)
              case c3 => unfold maxLen; omega
              case c4 => omega
              case c5 => omega
              intro v8 w8 ho8 hg8 _
              have G8 := hid_intro (grown_ofBelow HG.out (below_ownS hg8 HO.out hsz))
              rw [str_cells, ← Lib.byteCells_append] at ho8
              obtain ⟨va, vc, hv8⟩ := own_shape20 ho8
              subst hv8
              have O8 := hid_intro ho8
              have hs8 := G8.out.size
              clear ho8 hg8
              go_wp2_with (at_builtin; refine wpList_append_own _ rfl _ _ 42 rfl w5.heap.size 5 i0 (.int .u8 0) 1 1 Tryz.underlying42 hi0 hz0 hz1 hz2 rfl (by decide) _ _ _ rfl (O8.out.alloc _) ⟨w8.heap.size, 0, none⟩ 1 1 [.int .u8 10] rfl rfl (cell_one20 _ _ _) (by intro u hu; simp at hu; subst hu; rfl) (by unfold maxLen; omega) (by omega) (by simp; omega) ?_)
              intro v9 w9 ho9 hg9 _
              have G9 := hid_intro (grown_app20 G8.out O8.out (Nat.le_refl _) hg9)
              obtain ⟨ua, uc, hv9⟩ := own_shape20 ho9
              subst hv9
              have O9 : Hid (w9.ownsRow w5.heap.size 5 1 (.slice ua (n + (tstr ln).size + 1) uc) (n + (tstr ln).size + 1) (Lib.byteCells (flt23 (L.take (i + 1))))) := by
                have h10 := byte_one (flt23 (L.take i) ++ ln) 10
                rw [HTK.out, ← List.append_assoc, ← h10]
                exact ho9
              have HN9 : Hid ((flt23 (L.take (i + 1))).length = n + (tstr ln).size + 1) := by show _ = _; rw [HTK.out, List.length_append, List.length_append, HN.out, hlz2]; simp; omega
              clear ho9 hg9
              go_wp2
              go_roundw
              case rel => exact ⟨i + 1, n + (tstr ln).size + 1, by omega, by go_num, G9.out, O9.out, HN9.out⟩
              case measure => simp [intOf]; omega
            · obtain rfl : i = k := by omega
              clear hik hi
              have hob := HO.out
              have hoz := HOZ.out
              have hol := HOL.out
              have hsz := HG.out.size
              go_wp2_with (at_builtin; refine Lib.wpList_append_own_string _ rfl _ _ 42 9 rfl w5.heap.size 5 i0 Tryz.underlying42 Tryz.underlying9 hi0 hz0 hz1 hz2 _ _ _ rfl HO.out (tstr O) rfl ?c3 ?c4 ?c5 ?_)
              case c3 => unfold maxLen; omega
              case c4 => omega
              case c5 => omega
              intro v8 w8 ho8 hg8 _
              have G8 := hid_intro (grown_ofBelow HG.out (below_ownS hg8 HO.out hsz))
              rw [str_cells, ← Lib.byteCells_append] at ho8
              obtain ⟨va, vc, hv8⟩ := own_shape20 ho8
              subst hv8
              have hcv := conv_own ho8
              have HPB := hid_intro (HPP.out (flt23 (L.take i) ++ O) w8 (L5.out.keptN G8.out) (by have := Q4.out; omega))
              rw [Q2.out] at HPB
              clear ho8 hg8 hob
              generalize tstr (flt23 (L.take i) ++ O) = sB at *
              generalize tstr O = sO at *
              go_wp2_with fail
              refine HPB.out.mono ?_
              rintro en w9 ⟨hg9, hr9⟩
              rcases hr9 with ⟨_, _, _, _, x1, _⟩ | ⟨k', e', x1, _, rfl⟩
              · cases x1
              · cases x1
                have gA := World.grownBy_alloc w9 (.cells #[.int .i64 0, .slice none 0 0] 25) none
                have GA := hid_intro (grown_trans G8.out (grown_trans hg9 gA))
                have LA := hid_intro (L5.out.keptN GA.out)
                clear hg9 gA HG HO HN G8 HPB hcv Q2
                go_wp2_with (go_at_call 11; refine (num23_any _ _).mono ?_; rintro en wz ⟨rfl, rfl⟩)
                generalize w9.alloc (.cells #[.int .i64 0, .slice none 0 0] 25) = wA at *
                obtain ⟨k1, hk1e⟩ : ∃ k1, k1 + 1 = i := ⟨i - 1, by omega⟩
                have hkM1 : k1 < M := by omega
                have hsub : (i : Int) - 1 = (k1 : Int) := by omega
                have hww : IntKind.i64.wrap ((i : Int) - 1) = (k1 : Int) := by rw [hsub]; exact wrap_small _ (by omega) (by omega)
                have hi1 : i - 1 = k1 := by omega
                rw [hi1] at Q3 Q5
                clear hk1e hi1 hkM q1 hk1 hk
                go_loopw [15, 16] (fun sb si wr => ∃ (i n : Nat), i ≤ k1 ∧ si = .int .i64 (i : Nat) ∧ w5.grownBy wr none ∧ wr.ownsRow w5.heap.size 5 1 sb n (Lib.byteCells (flt23 (L.take i))) ∧ (flt23 (L.take i)).length = n) (fun _ si _ => k1 - (intOf si).toNat)
                case atStart => exact ⟨0, 0, Nat.zero_le _, rfl, GA.out, ⟨rfl, .inl ⟨rfl, rfl⟩⟩, rfl⟩
                case round =>
                  obtain ⟨i, n, hi, rfl, hg, ho, hn⟩ := hrel
                  have HG := hid_intro hg
                  have HO := hid_intro ho
                  have HN := hid_intro hn
                  obtain ⟨ba, bc, hsb⟩ := own_shape20 ho
                  subst hsb
                  have hnl : n ≤ 60001 := by
                    have h1 := flt_take L i
                    have h2 := HFL.out
                    omega
                  clear hg ho hn
                  by_cases hik : i < k1
                  · have e1 : (i : Int) < (k1 : Nat) := by omega
                    have e2 : (0 : Int) ≤ (i : Int) := by omega
                    have e3 : (i : Int) < (M : Nat) := by omega
                    obtain ⟨ln, hln⟩ : ∃ ln, L[i]? = some ln := ⟨_, List.getElem?_eq_getElem (by have := HML.out; omega)⟩
                    have cl := (HWS.out.keptN HG.out) i ln hln
                    rw [Nat.zero_add] at cl
                    have htk : L.take (i + 1) = L.take i ++ [ln] := by rw [List.take_add_one, hln]; rfl
                    have HTK : Hid (flt23 (L.take (i + 1)) = flt23 (L.take i) ++ (ln ++ [10])) := by show _ = _; rw [htk, flt_snoc]
                    have hll : (flt23 (L.take (i + 1))).length ≤ 60001 := by
                      have h1 := flt_take L (i + 1)
                      have h2 := HFL.out
                      omega
                    rw [HTK.out, List.length_append, List.length_append, HN.out] at hll
                    have hlz : (tstr ln).size ≤ 60001 := by rw [tstr_size]; omega
                    have hlz2 := tstr_size ln
                    have hwr : IntKind.i64.wrap ((i : Int) + 1) = (i : Int) + 1 := wrap_small _ (by omega) (by omega)
                    have hsz := HG.out.size
                    clear hln htk
                    go_wp2_with (at_builtin; refine Lib.wpList_append_own_string _ rfl _ _ 42 9 rfl w5.heap.size 5 i0 Tryz.underlying42 Tryz.underlying9 hi0 hz0 hz1 hz2 _ _ _ rfl HO.out (tstr ln) rfl ?c3 ?c4 ?c5 ?_)
                    case c3 => unfold maxLen; omega
                    case c4 => omega
                    case c5 => omega
                    intro v8 w8 ho8 hg8 _
                    have G8 := hid_intro (grown_ofBelow HG.out (below_ownS hg8 HO.out hsz))
                    rw [str_cells, ← Lib.byteCells_append] at ho8
                    obtain ⟨va, vc, hv8⟩ := own_shape20 ho8
                    subst hv8
                    have O8 := hid_intro ho8
                    have hs8 := G8.out.size
                    clear ho8 hg8
                    go_wp2_with (at_builtin; refine wpList_append_own _ rfl _ _ 42 rfl w5.heap.size 5 i0 (.int .u8 0) 1 1 Tryz.underlying42 hi0 hz0 hz1 hz2 rfl (by decide) _ _ _ rfl (O8.out.alloc _) ⟨w8.heap.size, 0, none⟩ 1 1 [.int .u8 10] rfl rfl (cell_one20 _ _ _) (by intro u hu; simp at hu; subst hu; rfl) (by unfold maxLen; omega) (by omega) (by simp; omega) ?_)
                    intro v9 w9 ho9 hg9 _
                    have G9 := hid_intro (grown_app20 G8.out O8.out (Nat.le_refl _) hg9)
                    obtain ⟨ua, uc, hv9⟩ := own_shape20 ho9
                    subst hv9
                    have O9 : Hid (w9.ownsRow w5.heap.size 5 1 (.slice ua (n + (tstr ln).size + 1) uc) (n + (tstr ln).size + 1) (Lib.byteCells (flt23 (L.take (i + 1))))) := by
                      have h10 := byte_one (flt23 (L.take i) ++ ln) 10
                      rw [HTK.out, ← List.append_assoc, ← h10]
                      exact ho9
                    have HN9 : Hid ((flt23 (L.take (i + 1))).length = n + (tstr ln).size + 1) := by show _ = _; rw [HTK.out, List.length_append, List.length_append, HN.out, hlz2]; simp; omega
                    clear ho9 hg9
                    go_wp2
                    go_roundw
                    case rel => exact ⟨i + 1, n + (tstr ln).size + 1, by omega, by go_num, G9.out, O9.out, HN9.out⟩
                    case measure => simp [intOf]; omega
                  · obtain rfl : i = k1 := by omega
                    clear hik hi
                    have hcv := conv_own HO.out
                    have HPC := hid_intro (HPP.out (flt23 (L.take i)) wr (L5.out.keptN HG.out) (by have := Q5.out; omega))
                    have q3 := Q3.out
                    generalize tstr (flt23 (L.take i)) = sC at *
                    go_wp2_with fail
                    refine HPC.out.mono ?_
                    rintro en w9 ⟨hg9, hr9⟩
                    rcases hr9 with ⟨n', l', v', xs', x1, rfl, ho9, _⟩ | ⟨k', e', x1, x2, rfl⟩
                    · obtain ⟨a', c', hv'⟩ := own_shape20 ho9
                      obtain ⟨m', hm'⟩ : ∃ m', m' = l'.length := ⟨_, rfl⟩
                      rw [← hm'] at hv'
                      subst hv'
                      have GZ := hid_intro (grown_trans G5.out (grown_trans HG.out (grown_trans hg9 (World.grownBy_alloc w9 (.cells #[.int .i64 n', .slice a' m' c'] 25) none))))
                      clear hg9 ho9 hm' x1 q3 HPC hcv
                      go_wp2_with (go_at_call 11; refine (num23_any _ _).mono ?_; rintro en wz ⟨rfl, rfl⟩)
                      go_ret
                      exact ⟨rfl, GZ.out⟩
                    · rcases q3 with ⟨x, q3⟩ | q3
                      · rw [q3] at x1; cases x1
                      · rw [q3] at x1
                        cases x1
                        have GZ := hid_intro (grown_trans G5.out (grown_trans HG.out (grown_trans hg9 (World.grownBy_alloc w9 (.cells #[.int .i64 0, .slice none 0 0] 25) none))))
                        clear hg9 q3 HPC hcv
                        go_wp2_with (go_at_call 11; refine (num23_any _ _).mono ?_; rintro en wz ⟨rfl, rfl⟩)
                        go_ret
                        exact ⟨rfl, GZ.out⟩
    · have t1 : ¬ (60000 : Int) < ((tstr T).size : Int) := by omega
      have t2 : (60000 : Int) < ((tstr O).size : Int) := by omega
      clear hT hO h1 h2
      generalize tstr T = sT at *
      generalize tstr O = sO at *
      go_enter Tryz.func6, Tryz.ntmps6
      go_wp2_with fail
      refine HF.out.mono ?_
      rintro en w1 ⟨rfl, hg1⟩
      have G1 := hid_intro hg1
      clear hg1
      go_wp2
      go_ret
      exact ⟨rfl, G1.out⟩
  · have t1 : (60000 : Int) < ((tstr T).size : Int) := by omega
    clear hT hO h1
    generalize tstr T = sT at *
    generalize tstr O = sO at *
    go_enter Tryz.func6, Tryz.ntmps6
    go_wp2_with fail
    refine HF.out.mono ?_
    rintro en w1 ⟨rfl, hg1⟩
    have G1 := hid_intro hg1
    clear hg1
    go_wp2
    go_ret
    exact ⟨rfl, G1.out⟩
theorem scriptFault_walkS (s t : ByteArray) (w : World) (hL : Lv w) : Calls Tryz.prog 6 #[.string s, .string t] w fun en w' => en = .returned (.bool true) ∧ w.grownBy w' none := by
  have h := scriptFault_walk s.data.toList t.data.toList w hL
  rw [tstr_mk, tstr_mk] at h
  exact h
end Go.Proofs.YtfifjmfiehmnfaaGreatDoor
