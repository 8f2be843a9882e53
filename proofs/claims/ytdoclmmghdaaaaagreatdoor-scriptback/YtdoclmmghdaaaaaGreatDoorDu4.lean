import Derived.Test.YtdoclmmghdaaaaaGreatDoorDu3
namespace Go.Proofs.YtdoclmmghdaaaaaGreatDoor
open Go.RowKit

theorem ret20 {k : IntKind} {a b : Int} (h : a = b) : Ending.returned (.int k a) = .returned (.int k b) := by rw [h]
theorem vdg_neg (c : UInt8) (h : ∀ j, j < 16 → dgt j ≠ c) : vdg c = -1 := by
  by_cases hv : 0 ≤ vdg c
  · have h1 := dgt_vdg c hv
    have h2 := vdg_lt c
    exact absurd h1 (h _ (by omega))
  · have := vdg_ge c
    omega
set_option maxHeartbeats 1000000 in
set_option maxRecDepth 100000 in
theorem refDigit_any (c : UInt8) (w : World) : Calls Tryz.prog 88 #[.int .u8 (c.toNat : Nat)] w fun en w' => en = .returned (.int .i64 (vdg c)) ∧ w' = w := by
  go_enter Tryz.func88, Tryz.ntmps88
  go_wp2
  go_loopw [3] (fun si wr => ∃ i : Nat, i ≤ 16 ∧ si = .int .i64 (i : Nat) ∧ wr = w ∧ ∀ j, j < i → dgt j ≠ c) (fun si _ => 16 - (intOf si).toNat)
  case atStart => exact ⟨0, by omega, rfl, rfl, fun j hj => by omega⟩
  case round =>
    obtain ⟨i, hi, rfl, rfl, hno⟩ := hrel
    have HNO := hid_intro hno
    clear hno
    by_cases hlt : i < 16
    · have s3 := digs_get i hlt
      have q2 : (i : Int) < 16 := by omega
      have q3 : (0 : Int) ≤ (i : Int) := by omega
      by_cases he : dgt i = c
      · have HV : Hid (vdg c = (i : Int)) := by rw [← he]; exact vdg_dgt hlt
        rw [he] at s3
        clear he
        go_wp2
        go_ret
        exact ⟨ret20 HV.out.symm, rfl⟩
      · have n1 : (((dgt i).toNat : Int) == (c.toNat : Int)) = false := by
          rw [beq_eq_false_iff_ne]; intro e; exact he (UInt8.toNat_inj.1 (by omega))
        have n2 : ((dgt i).toNat == c.toNat) = false := by
          rw [beq_eq_false_iff_ne]; intro e; exact he (UInt8.toNat_inj.1 e)
        have n3 : ((dgt i) == c) = false := by rw [beq_eq_false_iff_ne]; exact he
        have HN2 : Hid (∀ j, j < i + 1 → dgt j ≠ c) := fun j hj => by
          by_cases e : j < i
          · exact HNO.out j e
          · obtain rfl : j = i := by omega
            exact he
        clear he
        generalize dgt i = q at *
        go_wp2
        go_roundw
        case rel =>
          exact ⟨i + 1, by omega, by go_num, (by first | rfl | trivial), HN2.out⟩
        case measure => simp [intOf]; omega
    · obtain rfl : i = 16 := by omega
      have HV := hid_intro (vdg_neg c HNO.out)
      go_wp2
      go_ret
      exact ⟨ret20 HV.out.symm, rfl⟩
theorem drop_two {T : List UInt8} {i : Nat} (h : i + 1 < T.length) : T.drop i = T.getD i 0 :: T.getD (i + 1) 0 :: T.drop (i + 2) := by
  rw [List.drop_eq_getElem_cons (by omega), List.drop_eq_getElem_cons (i := i + 1) h]
  simp [List.getD, List.getElem?_eq_getElem h, List.getElem?_eq_getElem (show i < T.length by omega)]
theorem cell_one20 (w : World) (e : TypeId) (a : Value) : ∀ j u, [a][j]? = some u → (w.alloc (.cells #[a] e)).cell? ((⟨w.heap.size, 0, none⟩ : Addr).add j) = some u := by
  intro j u hj
  match j, hj with
  | 0, hj => simp at hj; subst hj; simp [Addr.add]
set_option maxHeartbeats 400000 in
set_option maxRecDepth 100000 in
theorem refUnhex_dash (w : World) : Calls Tryz.prog 67 #[.string ⟨#[45]⟩] w fun en w' => en = .returned (.tuple #[.slice none 0 0, .int .i64 0]) ∧ w' = w := by
  go_enter Tryz.func67, Tryz.ntmps67
  go_wp2
  go_ret2
  exact ⟨rfl, rfl⟩
set_option maxHeartbeats 400000 in
set_option maxRecDepth 100000 in
theorem refUnhex_odd (s : ByteArray) (w : World) (h1 : (s.toList == [45]) = false) (h2 : s.size = 0 ∨ s.size % 2 = 1) (hs : s.size ≤ 2000000000) :
    Calls Tryz.prog 67 #[.string s] w fun en w' => en = .returned (.tuple #[.slice none 0 0, .int .i64 201]) ∧ w' = w := by
  by_cases h0 : s.size = 0
  · have g0 : ((s.size : Int) == 0) = true := by rw [h0]; rfl
    clear h2 h0
    go_enter Tryz.func67, Tryz.ntmps67
    go_wp2
    all_goals (go_ret2; exact ⟨rfl, rfl⟩)
  · have g0 : ((s.size : Int) == 0) = false := by rw [beq_eq_false_iff_ne]; omega
    have g1 : (s.size : Int) % 2 = 1 := by omega
    clear h2 h0
    go_enter Tryz.func67, Tryz.ntmps67
    go_wp2
    all_goals (go_ret2; exact ⟨rfl, rfl⟩)
set_option maxHeartbeats 4000000 in
set_option maxRecDepth 100000 in
theorem refUnhex_even (s : ByteArray) (w : World) (h1 : (s.toList == [45]) = false) (h0 : s.size ≠ 0) (h2 : s.size % 2 = 0) (hs : s.size ≤ 2000000000) (hd : s.data.toList ≠ [45]) :
    Calls Tryz.prog 67 #[.string s] w fun en w' => UhP w s.data.toList en w' := by
  obtain ⟨i0, hi, hz0, hz1, hz2⟩ := info_parts info_u8
  have g0 : ((s.size : Int) == 0) = false := by rw [beq_eq_false_iff_ne]; omega
  have g1 : (s.size : Int) % 2 = 0 := by omega
  have hl := size_data s
  have hgd := getD_data s
  have HU : Hid (uh s.data.toList = uhs s.data.toList) := by
    show _ = _
    unfold uh
    rw [if_neg hd, if_neg (fun e => by rw [e] at hl; simp at hl; omega)]
  generalize hT : s.data.toList = T at *
  have HTL := hid_intro hl
  have HGD := hid_intro hgd
  have H2 := hid_intro h2
  clear h0 h2 hl hgd hd hT
  go_enter Tryz.func67, Tryz.ntmps67
  go_wp2
  go_loopw [4, 5, 6, 7] (fun sl si _ _ wr => ∃ (i : Nat) (bs : List Int), i ≤ s.size ∧ i % 2 = 0 ∧ si = .int .i64 (i : Nat) ∧ bs.length ≤ i ∧ wr.ownsRow w.heap.size 5 1 sl bs.length (bs.map (Value.int .u8)) ∧ w.grownBy wr none ∧ uhs T = (uhs (T.drop i)).map (fun l => bs ++ l)) (fun _ si _ _ _ => s.size - (intOf si).toNat)
  case atStart => exact ⟨0, [], Nat.zero_le _, rfl, rfl, Nat.le_refl _, ⟨rfl, .inl ⟨rfl, rfl⟩⟩, World.grownBy.refl _ _, by simp⟩
  case round =>
    obtain ⟨i, bs, hi', hev, rfl, hbl, hown, hg, hu⟩ := hrel
    clear g1
    obtain ⟨so, sc, rfl, hsb⟩ := owns_any hown
    have HO := hid_intro hown
    have HG := hid_intro hg
    have HUS := hid_intro hu
    clear hown hg hsb hu
    have hsz := HTL.out
    have hs2 := H2.out
    by_cases hlt : i < s.size
    · have hi2 : i + 1 < s.size := by omega
      have HX : Hid (uhs (T.drop i) = uhs (s[i]'hlt :: s[i + 1]'hi2 :: T.drop (i + 2))) := by
        show _ = _
        rw [drop_two (by omega), HGD.out i hlt, HGD.out (i + 1) hi2]
      have gi1 : (i : Int) < (s.size : Int) := by omega
      have gi2 : (i : Int) + 1 < (s.size : Int) := by omega
      have gi3 : (0 : Int) ≤ (i : Int) := by omega
      have gi4 : (0 : Int) ≤ (i : Int) + 1 := by omega
      have gi5 : ((i : Int) + 1).toNat = i + 1 := by omega
      generalize hcx : s[i]'hlt = cx at *
      generalize hcy : s[i + 1]'hi2 = cy at *
      go_wp2_with fail
      refine (refDigit_any cx _).mono ?_
      rintro en w2 ⟨rfl, hw2⟩
      subst hw2
      go_wp2_with fail
      refine (refDigit_any cy _).mono ?_
      rintro en w3 ⟨rfl, hw3⟩
      subst hw3
      have a1 := vdg_ge cx
      have a2 := vdg_lt cx
      have b1 := vdg_ge cy
      have b2 := vdg_lt cy
      have HUX : Hid (uhs T = (if vdg cx < 0 ∨ vdg cy < 0 then none else (uhs (T.drop (i + 2))).map fun l => (16 * vdg cx + vdg cy) :: l).map (fun l => bs ++ l)) := by
        show _ = _
        rw [HUS.out, HX.out]; simp only [uhs]
      generalize vdg cx = x at *
      generalize vdg cy = y at *
      clear hcx hcy HX HUS
      by_cases hx : x < 0
      · have HN : Hid (uhs T = none) := by rw [HUX.out, if_pos (.inl hx)]; rfl
        go_wp2
        go_ret2
        exact ⟨HG.out, .inl ⟨HU.out.trans HN.out, rfl⟩⟩
      · by_cases hy : y < 0
        · have HN : Hid (uhs T = none) := by rw [HUX.out, if_pos (.inr hy)]; rfl
          go_wp2
          go_ret2
          exact ⟨HG.out, .inl ⟨HU.out.trans HN.out, rfl⟩⟩
        · have HN : Hid (uhs T = (uhs (T.drop (i + 2))).map (fun l => (bs ++ [16 * x + y]) ++ l)) := by
            show _ = _
            rw [HUX.out, if_neg (by omega), Option.map_map]
            congr 1
            funext l
            simp
          have e1 : IntKind.u8.wrap (16 * x + y) = 16 * x + y := by rw [IntKind.wrap_u8]; omega
          generalize hz : 16 * x + y = z at *
          have hzb : 0 ≤ z ∧ z ≤ 255 := by omega
          go_wp2_with (at_builtin; refine wpList_append_own _ rfl _ _ 42 rfl w.heap.size 5 i0 (.int .u8 0) 1 1 Tryz.underlying42 hi hz0 hz1 hz2 rfl (by decide) _ bs.length _ rfl (HO.out.alloc _) ⟨w3.heap.size, 0, none⟩ 1 1 [.int .u8 z] rfl rfl (cell_one20 _ _ _) (by intro u hu; simp at hu; subst hu; rfl) (by unfold maxLen; omega) (by omega) (by have := HG.out.size; simp; omega) ?_)
          intro v4 w4 ho4 hg4 _
          obtain ⟨va, vc, hv4⟩ := own_shape20 ho4
          subst hv4
          have O4 := hid_intro ho4
          have G4 := hid_intro (grown_app20 HG.out HO.out (Nat.le_refl _) hg4)
          clear ho4 hg4
          go_wp2
          go_roundw
          case rel => exact ⟨i + 2, bs ++ [z], by omega, by omega, by go_num, by simp; omega, by rw [List.length_append, List.map_append]; exact O4.out, G4.out, HN.out⟩
          case measure => simp [intOf]; omega
    · obtain rfl : i = s.size := by omega
      have HF : Hid (uhs T = some bs) := by
        show _ = _
        rw [HUS.out, ← hsz, List.drop_length]
        simp [uhs]
      go_wp2
      go_ret2
      exact ⟨HG.out, .inr ⟨bs, so, sc, HU.out.trans HF.out, rfl, HO.out⟩⟩
theorem refUnhex_any (s : ByteArray) (w : World) (hs : s.size ≤ 2000000000) : Calls Tryz.prog 67 #[.string s] w fun en w' => UhP w s.data.toList en w' := by
  have hl := size_data s
  by_cases hd : s.data.toList = [45]
  · have e : s = ⟨#[45]⟩ := by
      obtain ⟨⟨l⟩⟩ := s
      simp only at hd
      rw [hd]
    rw [hd]
    subst e
    refine (refUnhex_dash w).mono ?_
    rintro en w' ⟨rfl, rfl⟩
    exact ⟨World.grownBy.refl _ _, .inr ⟨[], none, 0, rfl, rfl, rfl, .inl ⟨rfl, rfl⟩⟩⟩
  · have h1 : (s.toList == [45]) = false := by rw [beq_eq_false_iff_ne, ByteArray.toList_eq]; exact hd
    by_cases h2 : s.size = 0 ∨ s.size % 2 = 1
    · refine (refUnhex_odd s w h1 h2 hs).mono ?_
      rintro en w' ⟨rfl, rfl⟩
      exact ⟨World.grownBy.refl _ _, .inl ⟨uh_odd hd (by omega), rfl⟩⟩
    · exact refUnhex_even s w h1 (by omega) (by omega) hs hd
end Go.Proofs.YtdoclmmghdaaaaaGreatDoor
