import Derived.Test.YtioleabkbkmggaaDoorDumpBackW
namespace Go.Proofs.YtioleabkbkmggaaDoor
open Go.RowKit

theorem xor_neD {z x : Int} (hz : 0 ≤ z ∧ z ≤ 255) (hx : 0 ≤ x ∧ x ≤ 255) (h0 : x ≠ 0) : bits .xor .u8 z x ≠ z := by
  have e := u8_xor z x hz.1 (by omega) hx.1 (by omega)
  rw [e]
  intro h
  have h1 : z.toNat ^^^ x.toNat = z.toNat := by omega
  have h2 : z.toNat ^^^ (z.toNat ^^^ x.toNat) = x.toNat := by rw [← Nat.xor_assoc, Nat.xor_self, Nat.zero_xor]
  rw [h1, Nat.xor_self] at h2
  omega
def put20 (t : List UInt8) (k : Nat) (z : Int) : List UInt8 := t.set k (UInt8.ofNat z.toNat)
theorem put20_dz (t : List UInt8) (k : Nat) {z : Int} (hz : 0 ≤ z ∧ z ≤ 255) : dz (put20 t k z) = (dz t).set k z := by
  unfold put20 dz
  rw [List.map_set]
  congr 1
  simp only [UInt8.toNat_ofNat']
  omega
theorem put20_ne {t : List UInt8} {k : Nat} (hk : k < t.length) {z : Int} (hz : 0 ≤ z ∧ z ≤ 255) (hne : z ≠ (t.getD k 0).toNat) : put20 t k z ≠ t := by
  intro h
  have h1 : (put20 t k z)[k]? = t[k]? := by rw [h]
  unfold put20 at h1
  rw [List.getElem?_set_self hk, List.getElem?_eq_getElem hk, Option.some.injEq] at h1
  apply hne
  rw [List.getD, List.getElem?_eq_getElem hk, Option.getD_some, ← h1, UInt8.toNat_ofNat']
  omega
theorem put20_len (t : List UInt8) (k : Nat) (z : Int) : (put20 t k z).length = t.length := by unfold put20; exact List.length_set
theorem bytesW_cells (w : World) (t : List UInt8) {k : Nat} (hk : k < t.length) : (Lib.bytesCells w 5 (tstr t))[k]? = some (.int .u8 (t.getD k 0).toNat) := by
  unfold Lib.bytesCells
  rw [Array.getElem?_append_left (by simpa [tstr] using hk)]
  simp [tstr, List.getD, List.getElem?_eq_getElem hk]
theorem bytesW_turn (w : World) (t : List UInt8) {k : Nat} (hk : k < t.length) (c : Nat) :
    (Lib.bytesWorld w 5 (tstr t)).cell? ⟨w.heap.size, k, none⟩ = some (.int .u8 (t.getD k 0).toNat) ∧ (Lib.bytesWorld w 5 (tstr t)).frozen? ⟨w.heap.size, k, none⟩ = false ∧
    ∀ z, 0 ≤ z ∧ z ≤ 255 → Byt ((Lib.bytesWorld w 5 (tstr t)).setCell ⟨w.heap.size, k, none⟩ (.int .u8 z)) (some ⟨w.heap.size, 0, none⟩) t.length c (dz (put20 t k z)) := by
  have hn := Lib.bytesWorld_at_new w 5 (tstr t)
  have hsz : t.length ≤ (Lib.bytesCells w 5 (tstr t)).size := by unfold Lib.bytesCells; simp [tstr]
  refine ⟨?_, ?_, fun z hz => ?_⟩
  · rw [cell_of_row _ _ _ _ _ _ hn, bytesW_cells w t hk]
  · simp only [World.frozen?, hn, Bool.and_eq_false_iff, decide_eq_false_iff_not]
    left; omega
  · have hs := setCell_eq_setRow _ w.heap.size k _ _ _ (.int .u8 z) hn
    have hh := setRow_heap _ w.heap.size _ ((Lib.bytesCells w 5 (tstr t)).setIfInBounds k (.int .u8 z)) _ _ hn
    rw [← hs] at hh
    refine Byt.of_cells (by rw [dz_len, put20_len]) fun i hi => ?_
    rw [Nat.zero_add, cell_of_row _ _ _ _ _ _ hh, put20_dz t k hz]
    by_cases hik : k = i
    · subst hik
      rw [Array.getElem?_setIfInBounds_self_of_lt (by omega)]
      simp [List.getD, dz_len, hk]
    · rw [Array.getElem?_setIfInBounds_ne hik, bytesW_cells w t hi]
      simp only [List.getD, List.getElem?_set_ne hik]
      unfold dz
      simp [List.getElem?_eq_getElem hi]
theorem prs_put {l : List Pq} {t : List UInt8} (hne : t ≠ tx l) {q : List Pq} (h : prs t = .ok q) : q ≠ l := by
  intro e
  subst e
  exact hne (tx_prs h).1.symm
set_option maxHeartbeats 16000000 in
set_option maxRecDepth 100000 in
theorem dumpShort_walk (a : Option Addr) (n c : Nat) (l : List Pq) (cut at' x : Int) (w : World) (hl : Pm w a l) (hn : l.length = n) (ht : Tzd w) (hx : 0 ≤ x ∧ x ≤ 255) :
    Calls Tryd.prog 8 #[.slice a n c, .int .i64 cut, .int .i64 at', .int .u8 x] w fun en w' => en = .returned (.bool true) ∧ w.grownBy w' none := by
  have HF := hid_intro (first20 w ht)
  have HL := hid_intro hl
  have HN := hid_intro hn
  have HT := hid_intro ht
  have HX := hid_intro hx
  have HBL := hid_intro hl.bt
  clear hl hn ht hx
  go_enter Tryd.func8, Tryd.ntmps8
  go_wp2_with fail
  refine HF.out.mono ?_
  rintro en w1 ⟨rfl, hg1⟩
  have G1 := hid_intro hg1
  clear hg1 HF
  go_wp2_with fail
  refine (few20 a n c l w1 (HL.out.keptN G1.out) HN.out).mono ?_
  rintro en w2 ⟨f1, rfl, hq2, hf1⟩
  have G2 := hid_intro (grown_trans G1.out (hq2.grown none))
  have F1 := hid_intro hf1
  clear hq2 hf1 G1
  cases f1 with
  | false =>
    go_wp2
    go_ret
    exact ⟨rfl, G2.out⟩
  | true =>
    have hn2 := (F1.out rfl).1
    clear F1
    have HY1 := hid_intro (may20 a n c l w2 (HL.out.keptN G2.out) HN.out (by omega))
    by_cases hj : jdg [] l = 0
    · rw [decide_eq_true hj] at HY1
      have HJ := hid_intro hj
      clear hj
      go_wp2_with fail
      refine HY1.out.mono ?_
      rintro en w3 ⟨rfl, hq3⟩
      have G3 := hid_intro (grown_trans G2.out (hq3.grown none))
      clear hq3 G2 HY1
      go_wp2_with fail
      refine (text_any a n c l w3 (HL.out.keptN G3.out) HN.out (by omega) (HT.out.keptN G3.out)).mono ?_
      rintro en w4 ⟨rfl, hg4⟩
      have G4 := hid_intro (grown_trans G3.out hg4)
      clear hg4 G3
      rw [HJ.out, txt_ok HJ.out]
      have hlen := tx_len20 (by have := HN.out; omega) HJ.out
      have hpos : 0 < (tx l).length := by have := tx_many HBL.out; omega
      have hts := tstr_size (tx l)
      have HSH := hid_intro (fun i hi => tx_short HBL.out (i := i) hi)
      have HNE := hid_intro (fun t hne q (h : prs t = .ok q) => prs_put (l := l) (t := t) hne (q := q) h)
      generalize htx : tx l = T at *
      clear htx
      obtain ⟨k1, y1, hk1, hy1, hy1a, hy1b, hk1b⟩ := placeD cut (tstr T).size (by omega)
      obtain ⟨k2, y2, hk2, hy2, hy2a, hy2b, hk2b⟩ := placeD at' (tstr T).size (by omega)
      have hk3 : (y1 + ((tstr T).size : Int)) % ((tstr T).size : Int) = (k1 : Int) := by rw [← hk1b, Int.tmod_eq_emod_of_nonneg (by omega)]
      have hk4 : (y2 + ((tstr T).size : Int)) % ((tstr T).size : Int) = (k2 : Int) := by rw [← hk2b, Int.tmod_eq_emod_of_nonneg (by omega)]
      have hw1 : IntKind.i64.wrap (y1 + ((tstr T).size : Int)) = y1 + ((tstr T).size : Int) := wrap_small _ (by omega) (by omega)
      have hw2 : IntKind.i64.wrap (y2 + ((tstr T).size : Int)) = y2 + ((tstr T).size : Int) := wrap_small _ (by omega) (by omega)
      have y10 : (0 : Int) ≤ y1 + ((tstr T).size : Int) := by omega
      have y20 : (0 : Int) ≤ y2 + ((tstr T).size : Int) := by omega
      have j10 : (0 : Int) ≤ (k1 : Int) := by omega
      have j20 : (0 : Int) ≤ (k2 : Int) := by omega
      have j11 : (k1 : Int) ≤ ((tstr T).size : Int) := by omega
      have j21 : (k2 : Int) < ((tstr T).size : Int) := by omega
      have n0 : ¬ ((tstr T).size : Int) = 0 := by omega
      have n0' : (((tstr T).size : Int) == 0) = false := by rw [beq_eq_false_iff_ne]; exact n0
      have n1 : (0 : Int) < ((tstr T).size : Int) := by omega
      have hext := ext_take T k1
      obtain ⟨kk, ee, hr1⟩ := HSH.out k1 (by omega)
      have hbd := prs_bad hr1
      have HP1 := hid_intro (fun W => parse_any (T.take k1) W (by rw [List.length_take]; omega))
      rw [hr1] at HP1
      have y7 : (ee == 0) = false := by rw [beq_eq_false_iff_ne]; exact hbd.2
      have y8 : ¬ ((kk : Int) < 1) := by omega
      have HK2 : Hid (k2 < T.length) := by show k2 < T.length; omega
      have HTL := hid_intro hlen
      have HTN := hid_intro (fun W : World => bytesW_turn W T HK2.out)
      have HTS := hid_intro hts
      have HZB : Hid ((0 : Int) ≤ ((T.getD k2 0).toNat : Int) ∧ ((T.getD k2 0).toNat : Int) ≤ 255) := by
        have := (T.getD k2 0).toNat_lt
        show _ ∧ _
        omega
      clear hr1 hbd HSH hk1b hk2b hy1a hy1b hy2a hy2b hk2 hlen hts hpos
      rw [← HTS.out] at HTN
      generalize tstr (T.take k1) = sh at *
      generalize tstr T = S at *
      generalize hzk : ((T.getD k2 0).toNat : Int) = zk at *
      have HZK := hid_intro hzk
      clear hzk
      go_wp2_with (go_at_call 15; refine (num20 _ _).mono ?_; rintro en wB ⟨rfl, hwB⟩; subst hwB)
      refine (HP1.out _).mono ?_
      rintro en w5 ⟨hg5, ⟨k', e', hr, rfl⟩ | ⟨_, _, _, _, hr, _⟩⟩
      case inr => cases hr
      simp only [Except.error.injEq, Prod.mk.injEq] at hr
      obtain ⟨rfl, rfl⟩ := hr
      have G5 := hid_intro (grown_trans G4.out hg5)
      clear hg5 HP1
      by_cases hx0 : x = 0
      · have x0 : (x == 0) = true := by rw [hx0]; rfl
        clear hx0
        go_wp2_with (go_at_call 15; refine (num20 _ _).mono ?_; rintro en wB ⟨rfl, hwB⟩; subst hwB)
        go_ret
        exact ⟨rfl, G5.out⟩
      · have x0 : (x == 0) = false := by rw [beq_eq_false_iff_ne]; exact hx0
        have hxy := xor_byteD HZB.out HX.out
        have hxn := xor_neD HZB.out HX.out hx0
        clear hx0
        have hcv := Lib.run_convert_string_bytes (P := Tryd.prog) w5 9 22 5 S (u := .string) Tryd.underlying9 Tryd.underlying22 Tryd.underlying5
        obtain ⟨ck, fk, hB⟩ := HTN.out w5 (grownCap w5 S.size 0 5)
        have G6 := hid_intro (fun v => grown_setd (grown_trans G5.out (bytesW_grownD w5 5 S)) G5.out.size k2 v)
        generalize hyy : bits .xor .u8 zk x = zx at *
        have BS := hid_intro (hB zx hxy)
        have hPT := HNE.out (put20 T k2 zx) (put20_ne HK2.out hxy (by rw [HZK.out]; exact hxn))
        have HPT := hid_intro hPT
        have HPP := hid_intro (fun W => parse_any (put20 T k2 zx) W (by rw [put20_len]; exact HTL.out))
        have hc := conv_str BS.out
        rw [dz_str] at hc
        have G7 := hid_intro (G6.out (.int .u8 zx))
        clear hB BS hPT hxy hxn HTN G6 HNE
        generalize tstr (put20 T k2 zx) = S2 at *
        generalize Lib.bytesWorld w5 5 S = w6 at *
        generalize grownCap w5 S.size 0 5 = cp at *
        generalize w5.heap.size = B at *
        go_wp2_with (go_at_call 15; refine (num20 _ _).mono ?_; rintro en wB ⟨rfl, hwB⟩; subst hwB)
        generalize w6.setCell ⟨B, k2, none⟩ (.int .u8 zx) = w8 at *
        refine (HPP.out _).mono ?_
        rintro en w9 ⟨hg9, ⟨k', e', hr, rfl⟩ | ⟨q, qa, qc, xs, hr, rfl, ho9, hpw9⟩⟩
        · have G9 := hid_intro (grown_trans G7.out hg9)
          have z1 : (e' == 0) = false := by rw [beq_eq_false_iff_ne]; exact (prs_bad hr).2
          have z2 : (e' != 0) = true := by simp only [bne, z1]; rfl
          clear hg9 hr
          have HS9 := hid_intro (samePairs20 none a 0 n 0 c [] l w9 (Pm.nil _ _) (HL.out.keptN G9.out) rfl HN.out (by omega) (by omega))
          generalize decide ([] = l) = f9 at *
          go_wp2_with fail
          refine HS9.out.mono ?_
          rintro en wA ⟨rfl, hgA⟩
          have GA := hid_intro (grown_trans G9.out hgA)
          clear hgA
          go_wp2_with (go_at_call 15; refine (num20 _ _).mono ?_; rintro en wB ⟨rfl, hwB⟩; subst hwB)
          go_ret
          exact ⟨rfl, GA.out⟩
        · have G9 := hid_intro (grown_trans G7.out hg9)
          have P9 := hid_intro (hpw9.pm ho9).1
          have hql : q.length ≤ 2000000000 := by
            have h1 := tx_many (tx_prs hr).2.2.1
            rw [(tx_prs hr).1, put20_len] at h1
            have := HTL.out
            omega
          have HS9 := hid_intro (samePairs20 qa a q.length n qc c q l w9 P9.out (HL.out.keptN G9.out) rfl HN.out hql (by omega))
          rw [decide_eq_false (HPT.out q hr)] at HS9
          clear hg9 hr ho9 hpw9 P9
          generalize q.length = nq at *
          go_wp2_with fail
          refine HS9.out.mono ?_
          rintro en wA ⟨rfl, hgA⟩
          have GA := hid_intro (grown_trans G9.out hgA)
          clear hgA
          go_wp2_with (go_at_call 15; refine (num20 _ _).mono ?_; rintro en wB ⟨rfl, hwB⟩; subst hwB)
          go_ret
          exact ⟨rfl, GA.out⟩
    · rw [decide_eq_false hj] at HY1
      go_wp2_with fail
      refine HY1.out.mono ?_
      rintro en w3 ⟨rfl, hq3⟩
      have G3 := hid_intro (grown_trans G2.out (hq3.grown none))
      clear hq3
      go_wp2
      go_ret
      exact ⟨rfl, G3.out⟩
end Go.Proofs.YtioleabkbkmggaaDoor
