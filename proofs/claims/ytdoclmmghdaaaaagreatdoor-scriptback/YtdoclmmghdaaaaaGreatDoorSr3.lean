import Derived.Test.YtdoclmmghdaaaaaGreatDoorSr2
namespace Go.Proofs.YtdoclmmghdaaaaaGreatDoor
open Go.RowKit

/-- The table of steps in its variable. -/
def Sts (w : World) : Prop := ∀ i p, stT[i]? = some p → w.cell? ⟨0, i * 2, none⟩ = some (.string (tstr p.1)) ∧ w.cell? ⟨0, i * 2 + 1, none⟩ = some (.string (tstr p.2))
/-- What is laid. -/
structure Lv (w : World) : Prop where
  pow : Tzd w
  syn : ∃ tp p, w.var? Tryz.prog "strconv.ErrSyntax" = some #[.iface tp p]
  rng : ∃ tp p, w.var? Tryz.prog "strconv.ErrRange" = some #[.iface tp p]
  stp : Sts w
theorem cell_keptS {w w' : World} {g i : Nat} {v : Value} (h : w.cell? ⟨g, i, none⟩ = some v) (hg : w.grownBy w' none) : w'.cell? ⟨g, i, none⟩ = some v := hg.cell h (by simp)
theorem var_keptS {w w' : World} {n : String} {g : Nat} {vs : Array Value} (hn : Tryz.prog.globalNamed n = some g) (h : w.var? Tryz.prog n = some vs) (hg : w.grownBy w' none) : w'.var? Tryz.prog n = some vs := by
  unfold World.var? at h ⊢
  rw [hn] at h ⊢
  simp only [Option.bind_some] at h ⊢
  have hl : g < w.heap.size := by
    rcases Nat.lt_or_ge g w.heap.size with h' | h'
    · exact h'
    · simp [Array.getElem?_eq_none h'] at h
  rw [hg.block g hl (by simp)]
  exact h
theorem syn_named : Tryz.prog.globalNamed "strconv.ErrSyntax" = some 5 := by kernel_rfl
theorem rng_named : Tryz.prog.globalNamed "strconv.ErrRange" = some 6 := by kernel_rfl
theorem Lv.keptN {w w' : World} (h : Lv w) (hg : w.grownBy w' none) : Lv w' :=
  ⟨h.pow.keptN hg, by obtain ⟨tp, p, e⟩ := h.syn; exact ⟨tp, p, var_keptS syn_named e hg⟩, by obtain ⟨tp, p, e⟩ := h.rng; exact ⟨tp, p, var_keptS rng_named e hg⟩, fun i p hp => ⟨cell_keptS (h.stp i p hp).1 hg, cell_keptS (h.stp i p hp).2 hg⟩⟩

set_option maxHeartbeats 400000 in
set_option maxRecDepth 100000 in
theorem isNumber_any (n : Int) (w : World) : Calls Tryz.prog 43 #[.int .i64 n] w fun en w' => en = .returned (.bool (smn n)) ∧ w' = w := by
  unfold smn
  by_cases h : -2147483647 ≤ n
  · rw [show decide (-2147483647 ≤ n) = true from decide_eq_true h, Bool.true_and]
    go_enter Tryz.func43, Tryz.ntmps43
    go_wp2
    go_ret
    exact ⟨rfl, rfl⟩
  · rw [show decide (-2147483647 ≤ n) = false from decide_eq_false h, Bool.false_and]
    go_enter Tryz.func43, Tryz.ntmps43
    go_wp2
    go_ret
    exact ⟨rfl, rfl⟩
theorem smn_le {n : Int} (h : smn n = true) : -2147483647 ≤ n ∧ n ≤ 2147483647 := by
  unfold smn at h
  simpa using h
theorem itoa_any (n : Int) (h0 : -9223372036854775808 ≤ n) (h1 : n ≤ 9223372036854775807) (w : World) (ht : Tzd w) : Calls Tryz.prog 26 #[.int .i64 n] w fun en w' => en = .returned (.string (tstr (Lib.itoa n))) ∧ w.grownBy w' none := by
  refine (itoa_call n h0 h1 w ht).mono ?_
  rintro en w' ⟨rfl, k, os, rfl⟩
  exact ⟨rfl, sort_grownD _ _ _⟩
theorem tstr_toList (T : List UInt8) : (tstr T).toList = T := by rw [ByteArray.toList_eq]; rfl
/-- What readNumber answers. -/
def nmV (T : List UInt8) : Int := (nmb T).getD 0
def nmR (T : List UInt8) : Int := if (nmb T).isSome = true then 0 else 232
set_option maxHeartbeats 2000000 in
set_option maxRecDepth 100000 in
theorem readNumber_any (T : List UInt8) (w : World) (hL : Lv w) (hT : T.length ≤ 2000000000) : Calls Tryz.prog 63 #[.string (tstr T)] w fun en w' => en = .returned (.tuple #[.int .i64 (nmV T), .int .i64 (nmR T)]) ∧ w.grownBy w' none := by
  have hz := tstr_size T
  rcases ha : Lib.atoiAll T with v | _ | _
  · have HA := hid_intro (atoi_ok_call (tstr T) (by omega) v (by rw [tstr_data]; exact ha) w)
    by_cases hs : smn v = true
    · obtain ⟨h0, h1⟩ := smn_le hs
      have HI := hid_intro (fun W hW => itoa_any v (by omega) (by omega) W hW)
      by_cases he : Lib.itoa v = T
      · have HV : Hid (nmV T = v ∧ nmR T = 0) := by
          have : nmb T = some v := by unfold nmb; rw [ha]; exact if_pos ⟨hs, he⟩
          show _ ∧ _
          unfold nmV nmR; rw [this]; exact ⟨rfl, rfl⟩
        rw [he] at HI
        clear ha he hz hT
        generalize nmV T = V at *
        generalize nmR T = R at *
        obtain ⟨rfl, rfl⟩ := HV.out
        generalize tstr T = s at *
        go_enter Tryz.func63, Tryz.ntmps63
        go_wp2_with fail
        refine HA.out.mono ?_
        rintro en w1 ⟨rfl, hw1⟩
        have G1 : Hid (w.grownBy w1 none) := by
          rcases hw1 with rfl | ⟨t, rfl⟩
          · exact World.grownBy.refl _ _
          · exact grown_below (Lib.bytesWorld_below _ _ _) (Nat.le_refl _)
        clear hw1
        go_wp2_with fail
        refine (isNumber_any _ _).mono ?_
        rintro en w2 ⟨rfl, rfl⟩
        rw [hs]
        go_wp2_with fail
        refine (HI.out _ (hL.pow.keptN G1.out)).mono ?_
        rintro en w2 ⟨rfl, hg2⟩
        have G2 := hid_intro (grown_trans G1.out hg2)
        clear hg2
        go_wp2
        go_ret2
        exact ⟨rfl, G2.out⟩
      · have HV : Hid (nmV T = 0 ∧ nmR T = 232) := by
          have : nmb T = none := by unfold nmb; rw [ha]; exact if_neg (fun h => he h.2)
          show _ ∧ _
          unfold nmV nmR; rw [this]; exact ⟨rfl, rfl⟩
        have hne : ((tstr (Lib.itoa v)).toList == (tstr T).toList) = false := by rw [tstr_toList, tstr_toList, beq_eq_false_iff_ne]; exact he
        clear ha he hz hT
        generalize nmV T = V at *
        generalize nmR T = R at *
        obtain ⟨rfl, rfl⟩ := HV.out
        generalize tstr T = s at *
        generalize tstr (Lib.itoa v) = si at *
        go_enter Tryz.func63, Tryz.ntmps63
        go_wp2_with fail
        refine HA.out.mono ?_
        rintro en w1 ⟨rfl, hw1⟩
        have G1 : Hid (w.grownBy w1 none) := by
          rcases hw1 with rfl | ⟨t, rfl⟩
          · exact World.grownBy.refl _ _
          · exact grown_below (Lib.bytesWorld_below _ _ _) (Nat.le_refl _)
        clear hw1
        go_wp2_with fail
        refine (isNumber_any _ _).mono ?_
        rintro en w2 ⟨rfl, rfl⟩
        rw [hs]
        go_wp2_with fail
        refine (HI.out _ (hL.pow.keptN G1.out)).mono ?_
        rintro en w2 ⟨rfl, hg2⟩
        have G2 := hid_intro (grown_trans G1.out hg2)
        clear hg2
        go_wp2
        go_ret2
        exact ⟨rfl, G2.out⟩
    · have HV : Hid (nmV T = 0 ∧ nmR T = 232) := by
        have : nmb T = none := by unfold nmb; rw [ha]; exact if_neg (fun h => hs h.1)
        show _ ∧ _
        unfold nmV nmR; rw [this]; exact ⟨rfl, rfl⟩
      have hs2 : smn v = false := by simpa using hs
      clear ha hz hT hs
      generalize nmV T = V at *
      generalize nmR T = R at *
      obtain ⟨rfl, rfl⟩ := HV.out
      generalize tstr T = s at *
      go_enter Tryz.func63, Tryz.ntmps63
      go_wp2_with fail
      refine HA.out.mono ?_
      rintro en w1 ⟨rfl, hw1⟩
      have G1 : Hid (w.grownBy w1 none) := by
        rcases hw1 with rfl | ⟨t, rfl⟩
        · exact World.grownBy.refl _ _
        · exact grown_below (Lib.bytesWorld_below _ _ _) (Nat.le_refl _)
      clear hw1
      go_wp2_with fail
      refine (isNumber_any _ _).mono ?_
      rintro en w2 ⟨rfl, rfl⟩
      rw [hs2]
      go_wp2
      go_ret2
      exact ⟨rfl, G1.out⟩
  · obtain ⟨tp, p, hv⟩ := hL.syn
    have HA := hid_intro (atoi_syn_call (tstr T) (by omega) (fun v h => by rw [tstr_data, ha] at h; cases h) (fun h => by rw [tstr_data, ha] at h; cases h) tp p w hv)
    have HV : Hid (nmV T = 0 ∧ nmR T = 232) := by
      have : nmb T = none := by unfold nmb; rw [ha]
      show _ ∧ _
      unfold nmV nmR; rw [this]; exact ⟨rfl, rfl⟩
    clear ha hz hT hv
    generalize nmV T = V at *
    generalize nmR T = R at *
    obtain ⟨rfl, rfl⟩ := HV.out
    generalize tstr T = s at *
    go_enter Tryz.func63, Tryz.ntmps63
    go_wp2_with fail
    refine HA.out.mono ?_
    rintro en w1 ⟨N, rfl, hN, hb⟩
    have G1 : Hid (w.grownBy w1 none) := grown_below hb (Nat.le_refl _)
    clear hb
    go_wp2
    go_ret2
    exact ⟨rfl, G1.out⟩
  · obtain ⟨tp, p, hv⟩ := hL.rng
    have HA := hid_intro (atoi_rng_call (tstr T) (by omega) (by rw [tstr_data]; exact ha) tp p w hv)
    have HV : Hid (nmV T = 0 ∧ nmR T = 232) := by
      have : nmb T = none := by unfold nmb; rw [ha]
      show _ ∧ _
      unfold nmV nmR; rw [this]; exact ⟨rfl, rfl⟩
    clear ha hz hT hv
    generalize nmV T = V at *
    generalize nmR T = R at *
    obtain ⟨rfl, rfl⟩ := HV.out
    generalize Lib.atoiSat (tstr T).data.toList = sat at *
    generalize tstr T = s at *
    go_enter Tryz.func63, Tryz.ntmps63
    go_wp2_with fail
    refine HA.out.mono ?_
    rintro en w1 ⟨N, rfl, hN, hb⟩
    have G1 : Hid (w.grownBy w1 none) := grown_below hb (Nat.le_refl _)
    clear hb
    go_wp2
    go_ret2
    exact ⟨rfl, G1.out⟩
/-- What readNumber answers, as one. -/
theorem nm_cases (T : List UInt8) : (∃ n, nmb T = some n ∧ nmE T = .ok n ∧ nmV T = n ∧ nmR T = 0 ∧ smn n = true) ∨ (nmb T = none ∧ nmE T = .error 232 ∧ nmV T = 0 ∧ nmR T = 232) := by
  unfold nmE nmV nmR
  cases h : nmb T with
  | none => right; exact ⟨rfl, rfl, rfl, rfl⟩
  | some n =>
    left
    refine ⟨n, rfl, rfl, rfl, rfl, ?_⟩
    unfold nmb at h
    split at h
    · split at h
      · rename_i hh; cases h; exact hh.1
      · cases h
    · cases h

/-- A number's place in a step. -/
def nAt (b : Nat) (c : Int) : Option Addr := if c = 65 then some ⟨b, 1, none⟩ else if c = 66 then some ⟨b, 2, none⟩ else if c = 67 then some ⟨b, 3, none⟩ else none
def bAt (b : Nat) (c : Int) : Option Addr := if c = 75 then some ⟨b, 4, none⟩ else if c = 86 then some ⟨b, 5, none⟩ else if c = 72 then some ⟨b, 6, none⟩ else none
set_option maxHeartbeats 1000000 in
set_option maxRecDepth 100000 in
theorem numberAt_any (b : Nat) (c : Int) (w : World) : Calls Tryz.prog 49 #[.pointer (some ⟨b, 0, none⟩), .int .i32 c] w fun en w' => en = .returned (.pointer (nAt b c)) ∧ w' = w := by
  unfold nAt
  by_cases h1 : c = 65
  · subst h1
    go_enter Tryz.func49, Tryz.ntmps49
    go_wp2
    go_ret
    exact ⟨rfl, rfl⟩
  · have g1 : (c == 65) = false := by rw [beq_eq_false_iff_ne]; exact h1
    rw [if_neg h1]
    by_cases h2 : c = 66
    · subst h2
      go_enter Tryz.func49, Tryz.ntmps49
      go_wp2
      go_ret
      exact ⟨rfl, rfl⟩
    · have g2 : (c == 66) = false := by rw [beq_eq_false_iff_ne]; exact h2
      rw [if_neg h2]
      by_cases h3 : c = 67
      · subst h3
        go_enter Tryz.func49, Tryz.ntmps49
        go_wp2
        go_ret
        exact ⟨rfl, rfl⟩
      · have g3 : (c == 67) = false := by rw [beq_eq_false_iff_ne]; exact h3
        rw [if_neg h3]
        go_enter Tryz.func49, Tryz.ntmps49
        go_wp2
        go_ret
        exact ⟨rfl, rfl⟩
set_option maxHeartbeats 1000000 in
set_option maxRecDepth 100000 in
theorem bytesAt_any (b : Nat) (c : Int) (w : World) : Calls Tryz.prog 50 #[.pointer (some ⟨b, 0, none⟩), .int .i32 c] w fun en w' => en = .returned (.pointer (bAt b c)) ∧ w' = w := by
  unfold bAt
  by_cases h1 : c = 75
  · subst h1
    go_enter Tryz.func50, Tryz.ntmps50
    go_wp2
    go_ret
    exact ⟨rfl, rfl⟩
  · have g1 : (c == 75) = false := by rw [beq_eq_false_iff_ne]; exact h1
    rw [if_neg h1]
    by_cases h2 : c = 86
    · subst h2
      go_enter Tryz.func50, Tryz.ntmps50
      go_wp2
      go_ret
      exact ⟨rfl, rfl⟩
    · have g2 : (c == 86) = false := by rw [beq_eq_false_iff_ne]; exact h2
      rw [if_neg h2]
      by_cases h3 : c = 72
      · subst h3
        go_enter Tryz.func50, Tryz.ntmps50
        go_wp2
        go_ret
        exact ⟨rfl, rfl⟩
      · have g3 : (c == 72) = false := by rw [beq_eq_false_iff_ne]; exact h3
        rw [if_neg h3]
        go_enter Tryz.func50, Tryz.ntmps50
        go_wp2
        go_ret
        exact ⟨rfl, rfl⟩
theorem kix_step (T : List UInt8) (i : Nat) (p : List UInt8 × List UInt8) (h : stT[i]? = some p) : kix T i (stT.drop i) = if p.1 = T then i else kix T (i + 1) (stT.drop (i + 1)) := by
  obtain ⟨hl, e⟩ := List.getElem?_eq_some_iff.1 h
  rw [List.drop_eq_getElem_cons hl, e]
  rfl
theorem stT_len : stT.length = 23 := rfl
set_option maxHeartbeats 2000000 in
set_option maxRecDepth 100000 in
theorem kindOf_any (T : List UInt8) (w : World) (hL : Sts w) : Calls Tryz.prog 64 #[.string (tstr T)] w fun en w' => en = .returned (.int .i64 (kdw T : Nat)) ∧ w' = w := by
  have HS : Hid (Sts w) := hL
  have HK : Hid (kdw T = kix T 0 (stT.drop 0)) := rfl
  have HT := hid_intro (tstr_toList T)
  generalize hs : tstr T = s at *
  clear hL hs
  go_enter Tryz.func64, Tryz.ntmps64
  go_wp2
  go_loopw [3, 4] (fun _ b wr => ∃ i : Nat, i ≤ 23 ∧ b = .int .i64 (i : Nat) ∧ wr = w ∧ kdw T = kix T i (stT.drop i)) (fun _ b _ => match b with | .int _ z => 23 - z.toNat | _ => 0)
  case atStart => exact ⟨0, by omega, rfl, rfl, HK.out⟩
  case round =>
    obtain ⟨i, hi, rfl, rfl, hk⟩ := hrel
    have HK2 := hid_intro hk
    clear HK hk
    by_cases h : i < 23
    · have hiz : (i : Int) < 23 := by omega
      have hi0 : (0 : Int) ≤ (i : Int) := by omega
      obtain ⟨p, hp⟩ : ∃ p, stT[i]? = some p := ⟨_, List.getElem?_eq_getElem (by rw [stT_len]; exact h)⟩
      have c1 := (HS.out i p hp).1
      have hst := kix_step T i p hp
      have HST := hid_intro hst
      clear hst hp
      have hwr : IntKind.i64.wrap ((i : Int) + 1) = (i : Int) + 1 := wrap_small _ (by omega) (by omega)
      by_cases he : p.1 = T
      · have hb : ((tstr p.1).toList == s.toList) = true := by rw [tstr_toList, HT.out, he]; simp
        have HF : Hid (kdw T = i) := by show _ = _; rw [HK2.out, HST.out, if_pos he]
        generalize tstr p.1 = sp at *
        go_wp2
        go_ret
        exact ⟨by rw [HF.out]; rfl, rfl⟩
      · have hb : ((tstr p.1).toList == s.toList) = false := by rw [tstr_toList, HT.out, beq_eq_false_iff_ne]; exact he
        have HF : Hid (kdw T = kix T (i + 1) (stT.drop (i + 1))) := by show _ = _; rw [HK2.out, HST.out, if_neg he]
        generalize tstr p.1 = sp at *
        go_wp2
        go_roundw
        case rel => exact ⟨i + 1, by omega, by simp, by first | rfl | trivial, HF.out⟩
        case measure => simp; omega
    · obtain rfl : i = 23 := by omega
      have HF : Hid (kdw T = 0) := HK2.out
      go_wp2
      go_ret
      exact ⟨by rw [HF.out]; rfl, rfl⟩
end Go.Proofs.YtdoclmmghdaaaaaGreatDoor
