import Derived.Test.YtioleabkbkmggaaDoorDuA
namespace Go.Proofs.YtioleabkbkmggaaDoor
open Go.RowKit

theorem take_snocU {T : List UInt8} {i : Nat} (h : i < T.length) : T.take (i + 1) = T.take i ++ [T.getD i 0] := by
  rw [List.take_succ_eq_append_getElem h]
  simp [List.getD, List.getElem?_eq_getElem h]
theorem nb_no_dig {T : List UInt8} {i : Nat} (h : i < T.length) (hd : dig (T.getD i 0) = false) : nb T = none := by
  unfold nb
  rw [if_neg]
  rintro ⟨_, _, h3, _⟩
  have := List.all_eq_true.1 h3 (T.getD i 0) (by simp [List.getD, List.getElem?_eq_getElem h])
  rw [hd] at this; cases this
theorem val_app (n : Nat) (a b : List UInt8) : val n (a ++ b) = val (val n a) b := by unfold val; rw [List.foldl_append]
theorem nb_great {T : List UInt8} {i : Nat} (h : 2147483647 < val 0 (T.take i)) : nb T = none := by
  unfold nb
  rw [if_neg]
  rintro ⟨_, _, _, h4⟩
  have h1 : val 0 T = val (val 0 (T.take i)) (T.drop i) := by rw [← val_app, List.take_append_drop]
  have := val_mono (T.drop i) (val 0 (T.take i))
  omega
theorem nb_yes {T : List UInt8} (h0 : T ≠ []) (h1 : T.head? = some 48 → T = [48]) (h2 : T.all dig = true) (h3 : val 0 T ≤ 2147483647) : nb T = some (val 0 T) := by
  unfold nb
  rw [if_pos ⟨h0, h1, h2, h3⟩]
/-- What number and count answer. -/
def NbP (w : World) (r : Option Nat) (en : Ending) (w' : World) : Prop := w.grownBy w' none ∧ ((r = none ∧ en = .returned (.tuple #[.int .i64 0, .bool false])) ∨ ∃ n : Nat, r = some n ∧ en = .returned (.tuple #[.int .i64 (n : Nat), .bool true]))

set_option maxHeartbeats 1000000 in
set_option maxRecDepth 100000 in
theorem number_none (w : World) : Calls Tryd.prog 55 #[.string ⟨#[]⟩] w fun en w' => en = .returned (.tuple #[.int .i64 0, .bool false]) ∧ w' = w := by
  go_enter Tryd.func55, Tryd.ntmps55
  go_wp2
  go_ret2
  exact ⟨rfl, rfl⟩
set_option maxHeartbeats 1000000 in
set_option maxRecDepth 100000 in
theorem number_zero (s : ByteArray) (w : World) (h0 : 0 < s.size) (h1 : (s.toList == []) = false) (h2 : (s.toList == [48]) = false) (h3 : (s[0]'h0).toNat = 48) : Calls Tryd.prog 55 #[.string s] w fun en w' => en = .returned (.tuple #[.int .i64 0, .bool false]) ∧ w' = w := by
  have g1 : (0 : Int) < (s.size : Int) := by omega
  go_enter Tryd.func55, Tryd.ntmps55
  go_wp2
  go_ret2
  exact ⟨rfl, rfl⟩
set_option maxHeartbeats 4000000 in
set_option maxRecDepth 100000 in
theorem number_some (s : ByteArray) (w : World) (h0 : 0 < s.size) (hs : s.size ≤ 2000000000) (h1 : (s.toList == []) = false) (h2 : (s[0]'h0).toNat = 48 → (s.toList == [48]) = true) (hh : s.data.toList.head? = some 48 → s.data.toList = [48]) :
    Calls Tryd.prog 55 #[.string s] w fun en w' => NbP w (nb s.data.toList) en w' := by
  have hl := size_data s
  have hgd := getD_data s
  have hne : s.data.toList ≠ [] := fun e => by rw [e] at hl; simp at hl; omega
  generalize hT : s.data.toList = T at *
  have HTL := hid_intro hl
  have HGD := hid_intro hgd
  have HH := hid_intro hh
  have HNE := hid_intro hne
  clear hl hgd hh hne
  have g1 : (0 : Int) < (s.size : Int) := by omega
  have e10 : (⟨#[48, 49, 50, 51, 52, 53, 54, 55, 56, 57, 97, 98, 99, 100, 101, 102]⟩ : ByteArray).extract 0 10 = decs := by
    apply ByteArray.ext; decide
  have H2 := hid_intro h2
  clear h2 hT
  by_cases h48 : (s[0]'h0).toNat = 48
  all_goals
    first
      | (have k2 := H2.out h48)
      | skip
    have k3 : ∀ b : Bool, (((s[0]'h0).toNat : Int) == 48) = b → (((s[0]'h0).toNat == 48) = b) := fun b hb => by rw [← hb]; rw [Bool.eq_iff_iff]; simp; omega
    have k4 : (((s[0]'h0).toNat : Int) == 48) = decide ((s[0]'h0).toNat = 48) := by rw [Bool.eq_iff_iff]; simp; omega
    first
      | (rw [decide_eq_true h48] at k4)
      | (rw [decide_eq_false h48] at k4)
    clear k3 H2
    go_enter Tryd.func55, Tryd.ntmps55
    go_wp2
    have IT : Hid ((w.iter s 0).heap[w.heap.size]? = some (.stringIter s 0)) := World.iter_heap w s 0
    have G1 : Hid (w.grownBy (w.iter s 0) none) := World.grownBy_alloc w _ none
    generalize w.iter s 0 = w1 at *
    go_loopw [4, 6, 7] (fun sn _ _ wr => ∃ pos : Nat, pos ≤ s.size ∧ w.grownBy wr none ∧ wr.heap[w.heap.size]? = some (.stringIter s pos) ∧ (T.take pos).all dig = true ∧ val 0 (T.take pos) ≤ 2147483647 ∧ sn = .int .i64 (val 0 (T.take pos) : Nat)) (fun _ _ _ wr => s.size - wr.iterPos w.heap.size)
    case atStart => exact ⟨0, Nat.zero_le _, G1.out, IT.out, rfl, (by show 0 ≤ 2147483647; decide), rfl⟩
    case round =>
      obtain ⟨pos, hp', hg, hit, hall, hval, rfl⟩ := hrel
      have HG := hid_intro hg
      have HIT := hid_intro hit
      have HAL := hid_intro hall
      clear G1 IT hg hit hall
      by_cases hp : pos < s.size
      · have hnx : ∀ ty, (Instr.next (.pointer (some ⟨w.heap.size, 0, none⟩)) true ty).run Tryd.prog wr = _ := fun ty => Lib.run_next_any_at wr w.heap.size s pos ty HIT.out hp
        have HTK := hid_intro (take_snocU (T := T) (i := pos) (by have := HTL.out; omega))
        have hgp := HGD.out pos hp
        by_cases hasc : (s[pos]'hp).toNat < 128
        · have hdec := decode_ascii s pos hp hasc
          rw [hdec] at hnx
          have hix := ixr_decs (s[pos]'hp).toNat hasc
          have hu : UInt8.ofNat (s[pos]'hp).toNat = s[pos]'hp := by simp
          rw [hu] at hix
          have GI := hid_intro (grown_iter HG.out (k := w.heap.size) (Nat.le_refl _) s (pos + 1))
          have II := hid_intro (Lib.iterAt_heap wr w.heap.size s pos (pos + 1) HIT.out)
          clear hdec hu
          cases hd : dig (s[pos]'hp) with
          | false =>
            rw [hd, if_neg (by decide)] at hix
            have HIX := hid_intro hix
            have HN := hid_intro (nb_no_dig (T := T) (i := pos) (by have := HTL.out; omega) (by rw [hgp]; exact hd))
            clear hix hd hgp
            go_wp2_with fail
            refine (indexRune_any decs _ _ decs_asc (by decide) (by decide) (by omega)).mono ?_
            rintro en w2 ⟨rfl, hg2⟩
            rw [HIX.out]
            have GE := hid_intro (grown_trans GI.out hg2)
            clear hg2
            go_wp2
            go_ret2
            exact ⟨GE.out, .inl ⟨HN.out, rfl⟩⟩
          | true =>
            rw [hd, if_pos rfl] at hix
            have HIX := hid_intro hix
            have hdg : 48 ≤ (s[pos]'hp).toNat ∧ (s[pos]'hp).toNat ≤ 57 := by simpa [dig] using hd
            have HV : Hid (val 0 (T.take (pos + 1)) = 10 * val 0 (T.take pos) + ((s[pos]'hp).toNat - 48)) := by
              show _ = _
              rw [HTK.out, val_snoc, hgp]
            have HAL2 : Hid ((T.take (pos + 1)).all dig = true) := by
              show _ = _
              rw [HTK.out, List.all_append, HAL.out, hgp]; simp [hd]
            obtain ⟨d, hdd⟩ : ∃ d, (s[pos]'hp).toNat - 48 = d := ⟨_, rfl⟩
            have hd2 : ((s[pos]'hp).toNat : Int) - 48 = (d : Int) := by omega
            rw [hdd] at HV
            rw [hd2] at HIX
            clear hix hd hgp
            obtain ⟨v, hv⟩ : ∃ v, val 0 (T.take pos) = v := ⟨_, rfl⟩
            rw [hv] at HV hval ⊢
            clear hv
            have v1 : 10 * (v : Int) + (d : Int) = ((10 * v + d : Nat) : Int) := by omega
            have v2 : (d : Int) ≤ 9 := by omega
            have v3 : (v : Int) ≤ 2147483647 := by omega
            go_wp2_with fail
            refine (indexRune_any decs _ _ decs_asc (by decide) (by decide) (by omega)).mono ?_
            rintro en w2 ⟨rfl, hg2⟩
            rw [HIX.out]
            have GE := hid_intro (grown_trans GI.out hg2)
            have i2 : w2.heap[w.heap.size]? = some (.stringIter s (pos + 1)) := by rw [hg2.block w.heap.size (Array.getElem?_eq_some_iff.1 II.out).1 (by simp)]; exact II.out
            have I2 := hid_intro i2
            have HMS : Hid (s.size - w2.iterPos w.heap.size < s.size - wr.iterPos w.heap.size) := by
              show _ < _
              simp only [World.iterPos, i2, HIT.out]
              omega
            clear hg2 i2 hnx hdg hdd hd2
            by_cases hgr : 2147483647 < 10 * v + d
            · have g5 : (2147483647 : Int) < 10 * (v : Int) + (d : Int) := by omega
              have HN := hid_intro (nb_great (T := T) (i := pos + 1) (by rw [HV.out]; exact hgr))
              clear v1
              go_wp2
              go_ret2
              exact ⟨GE.out, .inl ⟨HN.out, rfl⟩⟩
            · have g5 : ¬ (2147483647 : Int) < 10 * (v : Int) + (d : Int) := by omega
              clear v1
              go_wp2
              go_roundw
              case rel => exact ⟨pos + 1, by omega, GE.out, I2.out, HAL2.out, by rw [HV.out]; omega, by rw [HV.out]; go_num⟩
              case measure => exact HMS.out
        · obtain ⟨hr1, hr2⟩ := decode_high s pos hp (by omega)
          have HX : Hid (ixr decs ((Utf8.decode s pos).1 : Nat) = -1) := by show _ = _; unfold ixr; rw [if_neg (by omega)]
          have GI := hid_intro (grown_iter HG.out (k := w.heap.size) (Nat.le_refl _) s (pos + (Utf8.decode s pos).2))
          have HN := hid_intro (nb_no_dig (T := T) (i := pos) (by have := HTL.out; omega) (by rw [hgp]; simp [dig]; omega))
          clear hgp
          generalize (Utf8.decode s pos).1 = rn at *
          generalize (Utf8.decode s pos).2 = wd at *
          go_wp2_with fail
          refine (indexRune_any decs _ _ decs_asc (by decide) (by decide) (by omega)).mono ?_
          rintro en w2 ⟨rfl, hg2⟩
          rw [HX.out]
          have GE := hid_intro (grown_trans GI.out hg2)
          clear hg2
          go_wp2
          go_ret2
          exact ⟨GE.out, .inl ⟨HN.out, rfl⟩⟩
      · obtain rfl : pos = s.size := by omega
        have hnx : ∀ ty, (Instr.next (.pointer (some ⟨w.heap.size, 0, none⟩)) true ty).run Tryd.prog wr = _ := fun ty => Lib.run_next_end_at wr w.heap.size s s.size ty HIT.out hp
        have e : T.take s.size = T := by rw [← HTL.out, List.take_length]
        rw [e] at HAL hval ⊢
        have HN := hid_intro (nb_yes HNE.out HH.out HAL.out hval)
        clear e
        generalize val 0 T = v at *
        go_wp2
        go_ret2
        exact ⟨HG.out, .inr ⟨v, HN.out, rfl⟩⟩
/-- number. -/
theorem number_any (t : List UInt8) (w : World) (ht : t.length ≤ 2000000000) : Calls Tryd.prog 55 #[.string (tstr t)] w fun en w' => NbP w (nb t) en w' := by
  have hsz := tstr_size t
  by_cases h0 : t = []
  · subst h0
    refine (number_none w).mono ?_
    rintro en w' ⟨rfl, rfl⟩
    exact ⟨World.grownBy.refl _ _, .inl ⟨rfl, rfl⟩⟩
  · have hp : 0 < (tstr t).size := by rw [hsz]; exact List.length_pos_iff.2 h0
    have htl : (tstr t).toList = t := by rw [ByteArray.toList_eq]; rfl
    have hz := getD_data (tstr t) 0 hp
    rw [tstr_data] at hz
    have hhd : t.head? = some (t.getD 0 0) := by cases t with | nil => exact absurd rfl h0 | cons x r => rfl
    by_cases hb : t.head? = some 48 ∧ t ≠ [48]
    · have h3 : ((tstr t)[0]'hp).toNat = 48 := by
        rw [← hz]
        rw [hhd] at hb
        rw [Option.some.inj hb.1]; rfl
      refine (number_zero (tstr t) w hp (by rw [htl, beq_eq_false_iff_ne]; exact h0) (by rw [htl, beq_eq_false_iff_ne]; exact hb.2) h3).mono ?_
      rintro en w' ⟨rfl, rfl⟩
      refine ⟨World.grownBy.refl _ _, .inl ⟨?_, rfl⟩⟩
      unfold nb
      rw [if_neg]
      rintro ⟨_, h4, _⟩
      exact hb.2 (h4 hb.1)
    · have hh : t.head? = some 48 → t = [48] := fun e => Decidable.byContradiction fun ne => hb ⟨e, ne⟩
      refine number_some (tstr t) w hp (by omega) (by rw [htl, beq_eq_false_iff_ne]; exact h0) (fun h48 => ?_) hh
      rw [htl, beq_iff_eq]
      refine hh ?_
      rw [hhd, hz]
      congr 1
      exact UInt8.toNat_inj.1 h48
set_option maxHeartbeats 1000000 in
set_option maxRecDepth 100000 in
theorem count_any (t : List UInt8) (w : World) (ht : t.length ≤ 2000000000) : Calls Tryd.prog 40 #[.string (tstr t)] w fun en w' => NbP w (cnt t) en w' := by
  have HC := hid_intro (cutPrefix_call (tstr t) ⟨#[99, 111, 112, 112, 105, 99, 101, 32]⟩ w)
  rw [tstr_data] at HC
  have e1 : (⟨#[99, 111, 112, 112, 105, 99, 101, 32]⟩ : ByteArray).data.toList = ttl := rfl
  rw [e1] at HC
  by_cases hp : Lib.hasPrefix t ttl = true
  · have e2 : Lib.trimPrefix t ttl = t.drop 8 := by unfold Lib.trimPrefix; rw [if_pos hp]; rfl
    have e3 : cnt t = nb (t.drop 8) := by unfold cnt; rw [if_pos hp]
    rw [e2, hp] at HC
    rw [e3]
    have HN := hid_intro (fun w => number_any (t.drop 8) w (by simp; omega))
    have e4 : (⟨(t.drop 8).toArray⟩ : ByteArray) = tstr (t.drop 8) := rfl
    rw [e4] at HC
    clear e1 e2 e3 e4 hp
    generalize nb (t.drop 8) = r at *
    generalize tstr (t.drop 8) = s2 at *
    generalize tstr t = s at *
    go_enter Tryd.func40, Tryd.ntmps40
    go_wp2_with fail
    refine HC.out.mono ?_
    rintro en w ⟨rfl, rfl⟩
    go_wp2_with fail
    refine (HN.out _).mono ?_
    rintro en w2 ⟨hg, ⟨hr, rfl⟩ | ⟨n, hr, rfl⟩⟩
    · have HG := hid_intro hg
      have HR := hid_intro hr
      clear hg hr
      go_wp2
      go_ret2
      exact ⟨HG.out, .inl ⟨HR.out, rfl⟩⟩
    · have HG := hid_intro hg
      have HR := hid_intro hr
      clear hg hr
      go_wp2
      go_ret2
      exact ⟨HG.out, .inr ⟨n, HR.out, rfl⟩⟩
  · have hpf : Lib.hasPrefix t ttl = false := by simpa using hp
    have e3 : cnt t = none := by unfold cnt; rw [if_neg hp]
    rw [hpf] at HC
    rw [e3]
    clear e1 e3 hp hpf
    generalize (⟨(Lib.trimPrefix t ttl).toArray⟩ : ByteArray) = s2 at *
    generalize tstr t = s at *
    go_enter Tryd.func40, Tryd.ntmps40
    go_wp2_with fail
    refine HC.out.mono ?_
    rintro en w ⟨rfl, rfl⟩
    go_wp2
    go_ret2
    exact ⟨World.grownBy.refl _ _, .inl ⟨rfl, rfl⟩⟩
end Go.Proofs.YtioleabkbkmggaaDoor
