import Derived.Test.YtioleabkbkmggaaDoorDumpBackW
namespace Go.Proofs.YtioleabkbkmggaaDoor
open Go.RowKit

def nbv (T : List UInt8) : Int := match nb T with | some n => (n : Int) | none => -1
theorem nbv_none {T : List UInt8} (h : nb T = none) : nbv T = -1 := by unfold nbv; rw [h]
theorem nb_long {T : List UInt8} (h : 10 < T.length) : nb T = none := by
  cases hn : nb T with
  | none => rfl
  | some n =>
    obtain ⟨h1, h2⟩ := dec_nb hn
    have := dec_len 9 n (by omega)
    rw [h1] at this
    omega
theorem nb_zero {T : List UInt8} (h : 1 < T.length) (h0 : T.head? = some 48) : nb T = none := by
  unfold nb
  rw [if_neg]
  rintro ⟨_, h2, _⟩
  have := h2 h0
  rw [this] at h
  simp at h
theorem val_lt {T : List UInt8} (hd : T.all dig = true) : val 0 T < 10 ^ T.length := by
  have : ∀ (T : List UInt8) (n : Nat), T.all dig = true → val n T < (n + 1) * 10 ^ T.length := by
    intro T
    induction T with
    | nil => intro n _; simp [val]
    | cons c t ih =>
      intro n h
      rw [List.all_cons, Bool.and_eq_true] at h
      have h1 : 48 ≤ c.toNat ∧ c.toNat ≤ 57 := by simpa [dig] using h.1
      have h2 := ih (10 * n + (c.toNat - 48)) h.2
      have e : val n (c :: t) = val (10 * n + (c.toNat - 48)) t := rfl
      rw [e, List.length_cons, Nat.pow_succ]
      have h3 : (10 * n + (c.toNat - 48) + 1) * 10 ^ t.length ≤ ((n + 1) * 10) * 10 ^ t.length := Nat.mul_le_mul_right _ (by omega)
      have h4 : ((n + 1) * 10) * 10 ^ t.length = (n + 1) * (10 ^ t.length * 10) := by rw [Nat.mul_assoc, Nat.mul_comm 10]
      omega
  have := this T 0 hd
  omega
set_option maxHeartbeats 4000000 in
set_option maxRecDepth 100000 in
theorem refNumber20 (s : ByteArray) (w : World) : Calls Tryd.prog 51 #[.string s] w fun en w' => en = .returned (.int .i64 (nbv s.data.toList)) ∧ w' = w := by
  have hl := size_data s
  have hgd := getD_data s
  have hh : ∀ h : 0 < s.size, s.data.toList.head? = some (s[0]'h) := fun h => by
    have h2 := hgd 0 h
    cases hT : s.data.toList with
    | nil => rw [hT] at hl; simp at hl; omega
    | cons c t => rw [hT] at h2; simp at h2; simp [h2]
  generalize s.data.toList = T at *
  have HTL := hid_intro hl
  have HGD := hid_intro hgd
  have HH := hid_intro hh
  clear hl hgd hh
  by_cases h0 : s.size = 0
  · have g0 : ((s.size : Int) == 0) = true := by rw [h0]; rfl
    have HR : Hid (nbv T = -1) := by
      have : T = [] := List.length_eq_zero_iff.1 (by have := HTL.out; omega)
      show _ = _
      rw [this]; rfl
    clear h0
    go_enter Tryd.func51, Tryd.ntmps51
    go_wp2
    go_ret
    exact ⟨by rw [HR.out]; rfl, rfl⟩
  · have g0 : ((s.size : Int) == 0) = false := by rw [beq_eq_false_iff_ne]; omega
    by_cases h10 : 10 < s.size
    · have g1 : (10 : Int) < (s.size : Int) := by omega
      have HR : Hid (nbv T = -1) := nbv_none (nb_long (by have := HTL.out; omega))
      go_enter Tryd.func51, Tryd.ntmps51
      go_wp2
      go_ret
      exact ⟨by rw [HR.out]; rfl, rfl⟩
    · have g1 : ¬ (10 : Int) < (s.size : Int) := by omega
      have hp : 0 < s.size := by omega
      have gp : (0 : Int) < (s.size : Int) := by omega
      have k4 : (((s[0]'hp).toNat : Int) == 48) = decide ((s[0]'hp).toNat = 48) := by rw [Bool.eq_iff_iff]; simp; omega
      have HZ : Hid ((s[0]'hp).toNat = 48 → T.head? = some 48) := fun h => by
        rw [HH.out hp]
        congr 1
        have : (s[0]'hp) = UInt8.ofNat (s[0]'hp).toNat := by simp
        rw [this, h]; rfl
      by_cases hz : 1 < s.size ∧ (s[0]'hp).toNat = 48
      · obtain ⟨hz1, hz2⟩ := hz
        have g2 : (1 : Int) < (s.size : Int) := by omega
        have HR : Hid (nbv T = -1) := nbv_none (nb_zero (by have := HTL.out; omega) (HZ.out hz2))
        rw [decide_eq_true hz2] at k4
        go_enter Tryd.func51, Tryd.ntmps51
        go_wp2
        go_ret
        exact ⟨by rw [HR.out]; rfl, rfl⟩
      · have HH48 : Hid (T.head? = some 48 → T = [48]) := fun h => by
          by_cases h1 : 1 < s.size
          · exfalso
            apply hz
            refine ⟨h1, ?_⟩
            rw [HH.out hp] at h
            have := Option.some.inj h
            rw [this]; rfl
          · have hl := HTL.out
            match T, h, hl with
            | [c], h, _ => simpa using h
            | [], h, _ => cases h
            | _ :: _ :: _, _, hl => simp at hl; omega
        have HNE : Hid (T ≠ []) := fun e => by have := HTL.out; rw [e] at this; simp at this; omega
        by_cases h1 : 1 < s.size
        · have g2 : (1 : Int) < (s.size : Int) := by omega
          have hz2 : ¬ (s[0]'hp).toNat = 48 := fun e => hz ⟨h1, e⟩
          rw [decide_eq_false hz2] at k4
          clear hz hz2 HZ
          go_enter Tryd.func51, Tryd.ntmps51
          go_wp2
          go_loopw [3, 4] (fun sn si wr => ∃ i : Nat, i ≤ s.size ∧ si = .int .i64 (i : Nat) ∧ sn = .int .i64 (val 0 (T.take i) : Nat) ∧ (T.take i).all dig = true ∧ wr = w) (fun _ si _ => s.size - (intOf si).toNat)
          case atStart => exact ⟨0, Nat.zero_le _, rfl, rfl, rfl, rfl⟩
          case round =>
            obtain ⟨i, hi', rfl, rfl, hall, hwr⟩ := hrel
            subst hwr
            have HAL := hid_intro hall
            have hv1 : val 0 (T.take i) < 10 ^ 10 := Nat.lt_of_lt_of_le (val_lt hall) (Nat.pow_le_pow_right (by omega) (by rw [List.length_take]; have := HTL.out; omega))
            clear hall
            by_cases hlt : i < s.size
            · have HTK := hid_intro (take_snocU (T := T) (i := i) (by have := HTL.out; omega))
              have hgp := HGD.out i hlt
              rw [hgp] at HTK
              have gi1 : (i : Int) < (s.size : Int) := by omega
              have gi3 : (0 : Int) ≤ (i : Int) := by omega
              cases hd : dig (s[i]'hlt) with
              | false =>
                have HR : Hid (nbv T = -1) := nbv_none (nb_no_dig (T := T) (i := i) (by have := HTL.out; omega) (by rw [hgp]; exact hd))
                have hdg : ¬ (48 ≤ (s[i]'hlt).toNat ∧ (s[i]'hlt).toNat ≤ 57) := by simpa [dig] using hd
                clear hd hgp
                generalize hc : (s[i]'hlt).toNat = cn at *
                by_cases hc1 : cn < 48
                · have e1 : (cn : Int) < 48 := by omega
                  go_wp2
                  go_ret
                  exact ⟨by rw [HR.out]; rfl, rfl⟩
                · have e1 : ¬ (cn : Int) < 48 := by omega
                  have e2 : (57 : Int) < (cn : Int) := by omega
                  go_wp2
                  go_ret
                  exact ⟨by rw [HR.out]; rfl, rfl⟩
              | true =>
                have hdg : 48 ≤ (s[i]'hlt).toNat ∧ (s[i]'hlt).toNat ≤ 57 := by simpa [dig] using hd
                have HV : Hid (val 0 (T.take (i + 1)) = 10 * val 0 (T.take i) + ((s[i]'hlt).toNat - 48)) := by show _ = _; rw [HTK.out, val_snoc]
                have HAL2 : Hid ((T.take (i + 1)).all dig = true) := by
                  show _ = _
                  rw [HTK.out, List.all_append, HAL.out]
                  simp [hd]
                clear hd hgp HTK
                generalize hc : (s[i]'hlt).toNat = cn at *
                generalize hvv : val 0 (T.take i) = vn at *
                have e1 : ¬ (cn : Int) < 48 := by omega
                have e2 : ¬ (57 : Int) < (cn : Int) := by omega
                have e3 : IntKind.u8.wrap ((cn : Int) - 48) = (cn : Int) - 48 := by rw [IntKind.wrap_u8]; omega
                have e4 : IntKind.i64.wrap ((cn : Int) - 48) = (cn : Int) - 48 := wrap_small _ (by omega) (by omega)
                have e5 : IntKind.i64.wrap (10 * (vn : Int)) = 10 * (vn : Int) := wrap_small _ (by omega) (by omega)
                have e6 : IntKind.i64.wrap (10 * (vn : Int) + ((cn : Int) - 48)) = 10 * (vn : Int) + ((cn : Int) - 48) := wrap_small _ (by omega) (by omega)
                go_wp2
                go_roundw
                case rel => exact ⟨i + 1, by omega, by go_num, by rw [HV.out]; congr 1; omega, HAL2.out, trivial⟩
                case measure => simp [intOf]; omega
            · obtain rfl : i = s.size := by omega
              have e : T.take s.size = T := by rw [← HTL.out, List.take_length]
              rw [e] at HAL hv1
              rw [e]
              clear e
              by_cases hbig : 2147483647 < val 0 T
              · have HR : Hid (nbv T = -1) := nbv_none (nb_great (i := T.length) (by rw [List.take_length]; exact hbig))
                have e1 : (2147483647 : Int) < (val 0 T : Int) := by omega
                go_wp2
                go_ret
                exact ⟨by rw [HR.out]; rfl, rfl⟩
              · have HR : Hid (nbv T = (val 0 T : Int)) := by
                  show _ = _
                  unfold nbv
                  rw [nb_yes HNE.out HH48.out HAL.out (by omega)]
                have e1 : ¬ (2147483647 : Int) < (val 0 T : Int) := by omega
                go_wp2
                go_ret
                exact ⟨by rw [HR.out]; rfl, rfl⟩
        · have g2 : ¬ (1 : Int) < (s.size : Int) := by omega
          clear hz HZ k4
          go_enter Tryd.func51, Tryd.ntmps51
          go_wp2
          go_loopw [3, 4] (fun sn si wr => ∃ i : Nat, i ≤ s.size ∧ si = .int .i64 (i : Nat) ∧ sn = .int .i64 (val 0 (T.take i) : Nat) ∧ (T.take i).all dig = true ∧ wr = w) (fun _ si _ => s.size - (intOf si).toNat)
          case atStart => exact ⟨0, Nat.zero_le _, rfl, rfl, rfl, rfl⟩
          case round =>
            obtain ⟨i, hi', rfl, rfl, hall, hwr⟩ := hrel
            subst hwr
            have HAL := hid_intro hall
            have hv1 : val 0 (T.take i) < 10 ^ 10 := Nat.lt_of_lt_of_le (val_lt hall) (Nat.pow_le_pow_right (by omega) (by rw [List.length_take]; have := HTL.out; omega))
            clear hall
            by_cases hlt : i < s.size
            · have HTK := hid_intro (take_snocU (T := T) (i := i) (by have := HTL.out; omega))
              have hgp := HGD.out i hlt
              rw [hgp] at HTK
              have gi1 : (i : Int) < (s.size : Int) := by omega
              have gi3 : (0 : Int) ≤ (i : Int) := by omega
              cases hd : dig (s[i]'hlt) with
              | false =>
                have HR : Hid (nbv T = -1) := nbv_none (nb_no_dig (T := T) (i := i) (by have := HTL.out; omega) (by rw [hgp]; exact hd))
                have hdg : ¬ (48 ≤ (s[i]'hlt).toNat ∧ (s[i]'hlt).toNat ≤ 57) := by simpa [dig] using hd
                clear hd hgp
                generalize hc : (s[i]'hlt).toNat = cn at *
                by_cases hc1 : cn < 48
                · have e1 : (cn : Int) < 48 := by omega
                  go_wp2
                  go_ret
                  exact ⟨by rw [HR.out]; rfl, rfl⟩
                · have e1 : ¬ (cn : Int) < 48 := by omega
                  have e2 : (57 : Int) < (cn : Int) := by omega
                  go_wp2
                  go_ret
                  exact ⟨by rw [HR.out]; rfl, rfl⟩
              | true =>
                have hdg : 48 ≤ (s[i]'hlt).toNat ∧ (s[i]'hlt).toNat ≤ 57 := by simpa [dig] using hd
                have HV : Hid (val 0 (T.take (i + 1)) = 10 * val 0 (T.take i) + ((s[i]'hlt).toNat - 48)) := by show _ = _; rw [HTK.out, val_snoc]
                have HAL2 : Hid ((T.take (i + 1)).all dig = true) := by
                  show _ = _
                  rw [HTK.out, List.all_append, HAL.out]
                  simp [hd]
                clear hd hgp HTK
                generalize hc : (s[i]'hlt).toNat = cn at *
                generalize hvv : val 0 (T.take i) = vn at *
                have e1 : ¬ (cn : Int) < 48 := by omega
                have e2 : ¬ (57 : Int) < (cn : Int) := by omega
                have e3 : IntKind.u8.wrap ((cn : Int) - 48) = (cn : Int) - 48 := by rw [IntKind.wrap_u8]; omega
                have e4 : IntKind.i64.wrap ((cn : Int) - 48) = (cn : Int) - 48 := wrap_small _ (by omega) (by omega)
                have e5 : IntKind.i64.wrap (10 * (vn : Int)) = 10 * (vn : Int) := wrap_small _ (by omega) (by omega)
                have e6 : IntKind.i64.wrap (10 * (vn : Int) + ((cn : Int) - 48)) = 10 * (vn : Int) + ((cn : Int) - 48) := wrap_small _ (by omega) (by omega)
                go_wp2
                go_roundw
                case rel => exact ⟨i + 1, by omega, by go_num, by rw [HV.out]; congr 1; omega, HAL2.out, trivial⟩
                case measure => simp [intOf]; omega
            · obtain rfl : i = s.size := by omega
              have e : T.take s.size = T := by rw [← HTL.out, List.take_length]
              rw [e] at HAL hv1
              rw [e]
              clear e
              by_cases hbig : 2147483647 < val 0 T
              · have HR : Hid (nbv T = -1) := nbv_none (nb_great (i := T.length) (by rw [List.take_length]; exact hbig))
                have e1 : (2147483647 : Int) < (val 0 T : Int) := by omega
                go_wp2
                go_ret
                exact ⟨by rw [HR.out]; rfl, rfl⟩
              · have HR : Hid (nbv T = (val 0 T : Int)) := by
                  show _ = _
                  unfold nbv
                  rw [nb_yes HNE.out HH48.out HAL.out (by omega)]
                have e1 : ¬ (2147483647 : Int) < (val 0 T : Int) := by omega
                go_wp2
                go_ret
                exact ⟨by rw [HR.out]; rfl, rfl⟩
/-- Where the one space stands. -/
def spc (T : List UInt8) : Int := match cutC 32 T with | none => -1 | some p => if 32 ∈ p.2 then -1 else (p.1.length : Int)
theorem cut_at {T : List UInt8} {x : UInt8} {i : Nat} (h : T[i]? = some x) (hn : x ∉ T.take i) : cutC x T = some (T.take i, T.drop (i + 1)) := by
  obtain ⟨hi, e⟩ := List.getElem?_eq_some_iff.1 h
  have : T = T.take i ++ x :: T.drop (i + 1) := by
    conv => lhs; rw [← List.take_append_drop i T]
    rw [List.drop_eq_getElem_cons hi, e]
  conv => lhs; rw [this]
  exact cutC_app hn
/-- What holds at a round of space. -/
def SpI (T : List UInt8) (i : Nat) (z : Int) : Prop := (z = -1 ∧ (32 : UInt8) ∉ T.take i) ∨ ∃ a b, cutC 32 T = some (a, b) ∧ z = (a.length : Int) ∧ a.length < i ∧ (32 : UInt8) ∉ b.take (i - a.length - 1)
theorem spI_other {T : List UInt8} {i : Nat} {z : Int} {c : UInt8} (h : SpI T i z) (hc : T[i]? = some c) (hne : c ≠ 32) : SpI T (i + 1) z := by
  obtain ⟨hi, e⟩ := List.getElem?_eq_some_iff.1 hc
  rcases h with ⟨h1, h2⟩ | ⟨a, b, h1, h2, h3, h4⟩
  · refine .inl ⟨h1, ?_⟩
    rw [List.take_succ_eq_append_getElem hi, e, List.mem_append]
    rintro (h | h)
    · exact h2 h
    · simp at h; exact hne h.symm
  · refine .inr ⟨a, b, h1, h2, by omega, ?_⟩
    have ht := (cutC_some h1).1
    have hb : b[i - a.length - 1]? = some c := by
      rw [ht, List.getElem?_append_right (by omega)] at hc
      obtain ⟨m, hm⟩ : ∃ m, i - a.length = m + 1 := ⟨i - a.length - 1, by omega⟩
      rw [hm, List.getElem?_cons_succ] at hc
      rw [hm]; exact hc
    obtain ⟨hj, ej⟩ := List.getElem?_eq_some_iff.1 hb
    have e2 : i + 1 - a.length - 1 = (i - a.length - 1) + 1 := by omega
    rw [e2, List.take_succ_eq_append_getElem hj, ej, List.mem_append]
    rintro (h | h)
    · exact h4 h
    · simp at h; exact hne h.symm
theorem spI_first {T : List UInt8} {i : Nat} (h : SpI T i (-1)) (hc : T[i]? = some 32) : SpI T (i + 1) (i : Int) := by
  rcases h with ⟨_, h2⟩ | ⟨a, b, h1, h2, _⟩
  · have hi := (List.getElem?_eq_some_iff.1 hc).1
    have hl : (T.take i).length = i := by rw [List.length_take]; omega
    exact .inr ⟨_, _, cut_at hc h2, by rw [hl], by omega, by rw [hl]; simp⟩
  · omega
theorem spI_second {T : List UInt8} {i : Nat} {z : Int} (h : SpI T i z) (hz : 0 ≤ z) (hc : T[i]? = some 32) : spc T = -1 := by
  rcases h with ⟨h1, _⟩ | ⟨a, b, h1, h2, h3, h4⟩
  · omega
  · have ht := (cutC_some h1).1
    have hb : (32 : UInt8) ∈ b := by
      rw [ht, List.getElem?_append_right (by omega)] at hc
      obtain ⟨m, hm⟩ : ∃ m, i - a.length = m + 1 := ⟨i - a.length - 1, by omega⟩
      rw [hm, List.getElem?_cons_succ] at hc
      exact List.mem_of_getElem? hc
    unfold spc
    rw [h1]
    simp only
    rw [if_pos hb]
theorem spI_end {T : List UInt8} {i : Nat} {z : Int} (h : SpI T i z) (hi : T.length = i) : spc T = z := by
  subst hi
  unfold spc
  rcases h with ⟨h1, h2⟩ | ⟨a, b, h1, h2, h3, h4⟩
  · rw [List.take_length] at h2
    rw [cutC_none.2 h2, h1]
  · have ht := (cutC_some h1).1
    have hl : T.length = a.length + (b.length + 1) := by have h9 := congrArg List.length ht; simpa using h9
    have e : T.length - a.length - 1 = b.length := by omega
    rw [e, List.take_length] at h4
    rw [h1]
    simp only
    rw [if_neg h4, h2]
theorem spI_lo {T : List UInt8} {i : Nat} {z : Int} (h : SpI T i z) : -1 ≤ z ∧ (z < 0 → z = -1) := by
  rcases h with ⟨h1, _⟩ | ⟨a, b, h1, h2, _⟩ <;> omega
set_option maxHeartbeats 4000000 in
set_option maxRecDepth 100000 in
theorem refSpace20 (s : ByteArray) (w : World) (hs : s.size ≤ 2000000000) : Calls Tryd.prog 62 #[.string s] w fun en w' => en = .returned (.int .i64 (spc s.data.toList)) ∧ w' = w := by
  have hl := size_data s
  have hgd : ∀ (i : Nat) (h : i < s.size), s.data.toList[i]? = some (s[i]'h) := fun i h => by
    rw [← getD_data s i h]
    have h2 : i < s.data.toList.length := by omega
    simp [List.getD, List.getElem?_eq_getElem h2]
  generalize s.data.toList = T at *
  have HTL := hid_intro hl
  have HGD := hid_intro hgd
  clear hl hgd
  go_enter Tryd.func62, Tryd.ntmps62
  go_wp2
  go_loopw [3, 4] (fun sz si wr => ∃ (i : Nat) (z : Int), i ≤ s.size ∧ si = .int .i64 (i : Nat) ∧ sz = .int .i64 z ∧ SpI T i z ∧ wr = w) (fun _ si _ => s.size - (intOf si).toNat)
  case atStart => exact ⟨0, -1, Nat.zero_le _, rfl, rfl, .inl ⟨rfl, by simp⟩, rfl⟩
  case round =>
    obtain ⟨i, z, hi', rfl, rfl, hsp, hwr⟩ := hrel
    subst hwr
    have HSP := hid_intro hsp
    have hlo := spI_lo hsp
    clear hsp
    by_cases hlt : i < s.size
    · have HC := hid_intro (HGD.out i hlt)
      have gi1 : (i : Int) < (s.size : Int) := by omega
      have gi3 : (0 : Int) ≤ (i : Int) := by omega
      by_cases hc : s[i]'hlt = 32
      · rw [hc] at HC
        have k1 : (((s[i]'hlt).toNat : Int) == 32) = true := by rw [hc]; rfl
        clear hc
        by_cases hz : 0 ≤ z
        · have HR := hid_intro (spI_second HSP.out hz HC.out)
          go_wp2
          go_ret
          exact ⟨by rw [HR.out]; rfl, rfl⟩
        · have hz1 : z = -1 := hlo.2 (by omega)
          subst hz1
          have HS2 := hid_intro (spI_first HSP.out HC.out)
          clear hz hlo
          go_wp2
          go_roundw
          case rel => exact ⟨i + 1, i, by omega, by go_num, rfl, HS2.out, trivial⟩
          case measure => simp [intOf]; omega
      · have k0 : ¬ (s[i]'hlt).toNat = 32 := fun e => hc (UInt8.toNat_inj.1 e)
        have k1 : (((s[i]'hlt).toNat : Int) == 32) = false := by rw [beq_eq_false_iff_ne]; omega
        have HS2 := hid_intro (spI_other HSP.out HC.out hc)
        clear hc hlo
        go_wp2
        go_roundw
        case rel => exact ⟨i + 1, z, by omega, by go_num, rfl, HS2.out, trivial⟩
        case measure => simp [intOf]; omega
    · obtain rfl : i = s.size := by omega
      have HR := hid_intro (spI_end HSP.out HTL.out)
      clear hlo
      go_wp2
      go_ret
      exact ⟨by rw [HR.out]; rfl, rfl⟩
end Go.Proofs.YtioleabkbkmggaaDoor
