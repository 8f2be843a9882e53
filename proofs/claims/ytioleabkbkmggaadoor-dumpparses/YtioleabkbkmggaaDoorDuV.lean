import Derived.Test.YtioleabkbkmggaaDoorDuU
namespace Go.Proofs.YtioleabkbkmggaaDoor
open Go.RowKit

set_option maxHeartbeats 4000000 in
set_option maxRecDepth 100000 in
theorem parses20 (T : List UInt8) (w : World) (ht : T.length ≤ 2000000000) : Calls Tryd.prog 23 #[.string (tstr T)] w fun en w' => en = .returned (.bool true) ∧ w.grownBy w' none := by
  have HP := hid_intro (fun W => parse_any T W ht)
  have HR := hid_intro (fun W => refParse20 T W ht)
  have HLN : Hid (∀ l, prs T = .ok l → l.length ≤ 2000000000) := fun l h => by
    have h1 := tx_many (tx_prs h).2.2.1
    rw [(tx_prs h).1] at h1
    omega
  generalize prs T = R at *
  generalize tstr T = s at *
  go_enter Tryd.func23, Tryd.ntmps23
  go_wp2_with fail
  refine (HP.out _).mono ?_
  rintro en w1 ⟨hg1, ⟨k, e, hr, rfl⟩ | ⟨l, a, c, xs, hr, rfl, ho, hpw⟩⟩
  · subst hr
    have G1 := hid_intro hg1
    clear hg1
    go_wp2_with fail
    refine (HR.out _).mono ?_
    rintro en w2 ⟨hg2, ⟨k', e', hr, rfl⟩ | ⟨_, _, _, _, hr, _⟩⟩
    case inr => cases hr
    simp only [Except.error.injEq, Prod.mk.injEq] at hr
    obtain ⟨rfl, rfl⟩ := hr
    have G2 := hid_intro (grown_trans G1.out hg2)
    have HS := hid_intro (samePairs20 none none 0 0 0 0 [] [] w2 (Pm.nil _ _) (Pm.nil _ _) rfl rfl (by omega) (by omega))
    rw [decide_eq_true (rfl : ([] : List Pq) = [])] at HS
    clear hg2 G1
    go_wp2_with (first
      | (go_at_call 27; refine HS.out.mono ?_; rintro en w3 ⟨rfl, hg3⟩; have G3 := hid_intro (grown_trans G2.out hg3); clear hg3)
      | (go_at_call 15; refine (num20 _ _).mono ?_; rintro en wB ⟨rfl, hwB⟩; subst hwB))
    go_ret
    exact ⟨rfl, G3.out⟩
  · subst hr
    have G1 := hid_intro hg1
    have P1 := hid_intro (hpw.pm ho).1
    have hln := HLN.out l rfl
    clear hg1 ho hpw
    go_wp2_with fail
    refine (HR.out _).mono ?_
    rintro en w2 ⟨hg2, ⟨_, _, hr, _⟩ | ⟨m, b, d, ys, hr, rfl, ho, hpw⟩⟩
    case inl => cases hr
    simp only [Except.ok.injEq] at hr
    subst hr
    have G2 := hid_intro (grown_trans G1.out hg2)
    have P2 := hid_intro (P1.out.keptN hg2)
    have Q2 := hid_intro (hpw.pm ho).1
    have HS := hid_intro (samePairs20 a b l.length l.length c d l l w2 P2.out Q2.out rfl rfl (by omega) (by omega))
    rw [decide_eq_true (rfl : l = l)] at HS
    clear hg2 G1 ho hpw P1
    generalize l.length = n at *
    go_wp2_with (first
      | (go_at_call 27; refine HS.out.mono ?_; rintro en w3 ⟨rfl, hg3⟩; have G3 := hid_intro (grown_trans G2.out hg3); clear hg3)
      | (go_at_call 15; refine (num20 _ _).mono ?_; rintro en wB ⟨rfl, hwB⟩; subst hwB))
    go_ret
    exact ⟨rfl, G3.out⟩
/-- A list of edits in memory. -/
structure Edm (w : World) (a : Option Addr) (l : List (Int × Int × ByteArray)) : Prop where
  el : ∀ i e, l[i]? = some e → ∃ b off, a = some ⟨b, off, none⟩ ∧ w.cell? ⟨b, off + i * 3, none⟩ = some (.int .i64 e.1) ∧ w.cell? ⟨b, off + i * 3 + 1, none⟩ = some (.int .i64 e.2.1) ∧ w.cell? ⟨b, off + i * 3 + 2, none⟩ = some (.string e.2.2)
theorem Edm.keptN {w w' : World} {a : Option Addr} {l : List (Int × Int × ByteArray)} (h : Edm w a l) (hg : w.grownBy w' none) : Edm w' a l :=
  ⟨fun i e he => by
    obtain ⟨b, off, h1, h2, h3, h4⟩ := h.el i e he
    exact ⟨b, off, h1, hg.cell h2 (by simp), hg.cell h3 (by simp), hg.cell h4 (by simp)⟩⟩
/-- What edited answers. -/
def EdP (w : World) (n : Nat) (en : Ending) (w' : World) : Prop := ∃ T' : List UInt8, en = .returned (.string (tstr T')) ∧ T'.length ≤ n + 1000 ∧ w.grownBy w' none
set_option maxHeartbeats 4000000 in
set_option maxRecDepth 100000 in
theorem edited20 (T : List UInt8) (a : Option Addr) (n c : Nat) (l : List (Int × Int × ByteArray)) (w : World) (h : Edm w a l) (hn : l.length = n) (ht : T.length ≤ 1900000000) :
    Calls Tryd.prog 24 #[.string (tstr T), .slice a n c] w fun en w' => EdP w T.length en w' := by
  have HE := hid_intro h
  have HL := hid_intro hn
  have HT := hid_intro ht
  clear h hn ht
  go_enter Tryd.func24, Tryd.ntmps24
  go_wp2
  go_loopw [0, 5, 6, 7, 8] (fun st si _ _ _ wr => ∃ (i : Nat) (T' : List UInt8), i ≤ n ∧ i ≤ 10 ∧ si = .int .i64 (i : Nat) ∧ st = .string (tstr T') ∧ T'.length ≤ T.length + 100 * i ∧ w.grownBy wr none) (fun _ si _ _ _ _ => n - (intOf si).toNat)
  case atStart => exact ⟨0, T, Nat.zero_le _, Nat.zero_le _, rfl, rfl, by omega, World.grownBy.refl _ _⟩
  case round =>
    obtain ⟨i, T', hi', hi10, rfl, rfl, hlen, hg⟩ := hrel
    have HG := hid_intro hg
    clear hg
    by_cases hlt : i < n
    · by_cases h10 : i < 10
      · have j0 : (0 : Int) ≤ (i : Int) := by omega
        have j1 : (i : Int) < (n : Int) := by omega
        have j2 : (i : Int) < 10 := by omega
        obtain ⟨e, he⟩ : ∃ e, l[i]? = some e := ⟨_, List.getElem?_eq_getElem (by have := HL.out; omega)⟩
        obtain ⟨b, off, rfl, q1, q2, q3⟩ := HE.out.el i e he
        obtain ⟨ea, ec, es⟩ := e
        simp only at q1 q2 q3
        have c0 := HG.out.cell q1 (by simp)
        have c1 := HG.out.cell q2 (by simp)
        have c2 := HG.out.cell q3 (by simp)
        clear q1 q2 q3 he
        by_cases hbig : 100 < es.size
        · have g1 : (100 : Int) < (es.size : Int) := by omega
          generalize hs' : tstr T' = s' at *
          go_wp2
          go_roundw
          case rel => exact ⟨i + 1, T', by omega, by omega, by go_num, by rw [hs'], by omega, HG.out⟩
          case measure => simp [intOf]; omega
        · have g1 : ¬ (100 : Int) < (es.size : Int) := by omega
          have hts := tstr_size T'
          have hht := HT.out
          obtain ⟨k, y, hk, hy, hy1, hy2, hk2⟩ := placeD ea ((tstr T').size + 1) (by omega)
          have hyc : Int.tmod ea (((tstr T').size : Int) + 1) = y := by rw [← hy]; rfl
          have hkc : Int.tmod (y + (((tstr T').size : Int) + 1)) (((tstr T').size : Int) + 1) = (k : Int) := by rw [← hk2]; rfl
          have hkd : (y + (((tstr T').size : Int) + 1)) % (((tstr T').size : Int) + 1) = (k : Int) := by rw [← hkc, Int.tmod_eq_emod_of_nonneg (by omega)]
          have w1 : IntKind.i64.wrap (((tstr T').size : Int) + 1) = ((tstr T').size : Int) + 1 := wrap_small _ (by omega) (by omega)
          have w2 : IntKind.i64.wrap (y + (((tstr T').size : Int) + 1)) = y + (((tstr T').size : Int) + 1) := wrap_small _ (by omega) (by omega)
          have n0 : ¬ ((tstr T').size : Int) + 1 = 0 := by omega
          have n1 : (0 : Int) < ((tstr T').size : Int) + 1 := by omega
          have n2 : (((tstr T').size : Int) + 1 == 0) = false := by rw [beq_eq_false_iff_ne]; exact n0
          have y0 : (0 : Int) ≤ y + (((tstr T').size : Int) + 1) := by omega
          have HTS := hid_intro hts
          have hsl : (tstr T').size ≤ 2000000000 := by omega
          clear hts hy hk2 hy1 hy2
          generalize hs' : tstr T' = s' at *
          go_upto_region 8 with fail
          obtain ⟨t, htt, htk, hts⟩ : ∃ t : Nat, min (s'.size : Int) ((k : Int) + max 0 (min ec 100)) = (t : Int) ∧ k ≤ t ∧ t ≤ s'.size := ⟨(min (s'.size : Int) ((k : Int) + max 0 (min ec 100))).toNat, by omega, by omega, by omega⟩
          have x1 := ext_take T' k
          have x2 := ext_drop T' t
          rw [hs'] at x1 x2
          have z1 := tstr_size (T'.take k)
          have z2 := tstr_size (T'.drop t)
          have z3 : (tstr (T'.take k)).size + (tstr (T'.drop t)).size ≤ T'.length := by
            rw [z1, z2, List.length_take, List.length_drop]
            have := HTS.out
            omega
          have HNEW : Hid (tstr (T'.take k) ++ es ++ tstr (T'.drop t) = tstr (T'.take k ++ es.data.toList ++ T'.drop t)) := by
            show _ = _
            rw [← tstr_app, ← tstr_app, tstr_mk]
          have HNL : Hid ((T'.take k ++ es.data.toList ++ T'.drop t).length ≤ T.length + 100 * (i + 1)) := by
            show _ ≤ _
            rw [List.length_append, List.length_append, size_data, ← z1, ← z2]
            omega
          clear z1 z2
          generalize tstr (T'.take k) = p1 at *
          generalize tstr (T'.drop t) = p2 at *
          have z4 : ¬ (9223372036854775807 < p1.size + es.size) := by omega
          have z5 : ¬ (9223372036854775807 < p1.size + es.size + p2.size) := by omega
          have k1 : (0 : Int) ≤ (k : Int) := by omega
          have k2 : (k : Int) ≤ (s'.size : Int) := by omega
          have k3 : (0 : Int) ≤ (t : Int) := by omega
          have k4 : (t : Int) ≤ (s'.size : Int) := by omega
          rw [htt]
          clear htt
          go_quiet (fail)
          go_wp2
          go_roundw
          case rel => exact ⟨i + 1, _, by omega, by omega, by go_num, by rw [HNEW.out], HNL.out, grown_trans HG.out ((Qt.drewN _ _).grown none)⟩
          case measure => simp [intOf]; omega
      · have j1 : (i : Int) < (n : Int) := by omega
        have j2 : ¬ (i : Int) < 10 := by omega
        go_wp2
        go_ret
        exact ⟨T', rfl, by omega, HG.out⟩
    · obtain rfl : i = n := by omega
      go_wp2
      go_ret
      exact ⟨T', rfl, by omega, HG.out⟩
end Go.Proofs.YtioleabkbkmggaaDoor
