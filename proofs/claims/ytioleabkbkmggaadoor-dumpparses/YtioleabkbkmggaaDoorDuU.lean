import Derived.Test.YtioleabkbkmggaaDoorDuT
namespace Go.Proofs.YtioleabkbkmggaaDoor
open Go.RowKit

/-- What holds at a line's begin of the document's Parse: the text, where the line begins, its number less one, the count, what is read. -/
def PsI (T : List UInt8) (f k : Nat) (c : Int) (l : List Pq) : Prop := (k = 0 ∧ f = 0 ∧ c = -1 ∧ l = []) ∨ ∃ n : Nat, c = (n : Int) ∧ n ≤ 2147483647 ∧ l.length ≤ n ∧ k = l.length + 1 ∧ prs T = (pls (n - l.length) (ahd l l.length) (T.drop f) (l.length + 2)).pre l
theorem psI_end {T : List UInt8} {f k : Nat} {c : Int} {l : List Pq} (h : PsI T f k c l) (hc : cutC 10 (T.drop f) = none) (hf : f ≤ T.length) : prs T = if f = T.length ∧ c = (l.length : Int) then .ok l else .error (k + 1, 200) := by
  rcases h with ⟨rfl, rfl, rfl, rfl⟩ | ⟨n, rfl, hn, hl, rfl, hp⟩
  · rw [if_neg (by rintro ⟨_, h⟩; simp at h)]
    rw [List.drop_zero] at hc
    unfold prs
    rw [hc]
  · rw [hp]
    by_cases h1 : n - l.length = 0
    · rw [h1]
      simp only [pls]
      by_cases h2 : f = T.length
      · rw [if_pos (show List.drop f T = [] by rw [h2, List.drop_length]), if_pos ⟨h2, by omega⟩]
        simp [Pa.pre]
      · rw [if_neg (show ¬ List.drop f T = [] from fun e => by
          have := congrArg List.length e
          simp at this
          omega), if_neg (fun h => h2 h.1)]
        rfl
    · obtain ⟨m, hm⟩ : ∃ m, n - l.length = m + 1 := ⟨n - l.length - 1, by omega⟩
      rw [hm]
      simp only [pls]
      rw [hc, if_neg (by rintro ⟨_, h⟩; omega)]
      rfl
theorem psI_over {T : List UInt8} {f k : Nat} {l : List Pq} {line rest : List UInt8} (h : PsI T f k (l.length : Int) l) (hc : cutC 10 (T.drop f) = some (line, rest)) : prs T = .error (k + 1, 200) := by
  rcases h with ⟨rfl, rfl, h1, rfl⟩ | ⟨n, h1, hn, hl, rfl, hp⟩
  · simp at h1
  · rw [hp]
    have : n - l.length = 0 := by omega
    rw [this]
    simp only [pls]
    rw [if_neg]
    · rfl
    · intro e; rw [e] at hc; cases hc
theorem psI_bad {T : List UInt8} {f k : Nat} {c : Int} {l : List Pq} {line rest : List UInt8} (h : PsI T f k c l) (h1 : 1 ≤ k) (hcl : c ≠ (l.length : Int)) (hc : cutC 10 (T.drop f) = some (line, rest)) {e : Int} (hp : pp (ahd l l.length) line = .error e) : prs T = .error (k + 1, e) := by
  rcases h with ⟨rfl, _⟩ | ⟨n, rfl, hn, hl, rfl, hpr⟩
  · omega
  · obtain ⟨m, hm⟩ : ∃ m, n - l.length = m + 1 := ⟨n - l.length - 1, by omega⟩
    rw [hpr, hm]
    simp only [pls]
    rw [hc]
    simp only
    rw [hp]
    rfl
theorem psI_next {T : List UInt8} {f k g : Nat} {c : Int} {l : List Pq} {line : List UInt8} (h : PsI T f k c l) (h1 : 1 ≤ k) (hcl : c ≠ (l.length : Int)) (hc : cutC 10 (T.drop f) = some (line, T.drop g)) {p : Pq} (hp : pp (ahd l l.length) line = .ok p) : PsI T g (k + 1) c (l ++ [p]) := by
  rcases h with ⟨rfl, _⟩ | ⟨n, rfl, hn, hl, rfl, hpr⟩
  · omega
  · obtain ⟨m, hm⟩ : ∃ m, n - l.length = m + 1 := ⟨n - l.length - 1, by omega⟩
    refine .inr ⟨n, rfl, hn, by rw [List.length_append]; simp; omega, by rw [List.length_append]; simp, ?_⟩
    rw [hpr, hm]
    simp only [pls]
    rw [hc]
    simp only
    rw [hp]
    simp only
    rw [Pa.pre_cons]
    have e1 : n - (l ++ [p]).length = m := by rw [List.length_append]; simp; omega
    have e2 : ahd (l ++ [p]) (l ++ [p]).length = p.1 := by rw [List.length_append]; simp [ahd]
    rw [e1, e2, List.length_append]
    rfl
theorem psI_head {T : List UInt8} {g : Nat} {line : List UInt8} (hc : cutC 10 T = some (line, T.drop g)) {n : Nat} (hn : cnt line = some n) : PsI T g 1 (n : Int) [] := by
  refine .inr ⟨n, rfl, cnt_le hn, Nat.zero_le _, rfl, ?_⟩
  unfold prs
  rw [hc]
  simp only
  rw [hn]
  simp only
  rw [Pa.pre_nil]
  rfl
theorem prs_head {T : List UInt8} {line rest : List UInt8} (hc : cutC 10 T = some (line, rest)) (hn : cnt line = none) : prs T = .error (1, 200) := by
  unfold prs
  rw [hc]
  simp only
  rw [hn]
theorem cnt_short {line : List UInt8} (h : line.length < 8) : cnt line = none := by
  unfold cnt
  rw [if_neg]
  intro hp
  have := congrArg List.length (ttl_of hp)
  simp [ttl] at this
  omega
theorem pref_take (line : List UInt8) : Lib.hasPrefix line ttl = decide (line.take 8 = ttl) := by
  rw [Bool.eq_iff_iff, decide_eq_true_eq]
  constructor
  · intro hp
    have e := ttl_of hp
    rw [e]
    exact List.take_left' rfl
  · intro e
    have e2 : line = ttl ++ line.drop 8 := by rw [← e, List.take_append_drop]
    rw [e2]
    exact pref_ttl _
theorem cut_nl {T : List UInt8} {f t : Nat} (hf : f ≤ t) (h : T[t]? = some 10) (hn : (10 : UInt8) ∉ (T.drop f).take (t - f)) : cutC 10 (T.drop f) = some ((T.drop f).take (t - f), T.drop (t + 1)) := by
  have h1 : (T.drop f)[t - f]? = some 10 := by rw [List.getElem?_drop]; rw [show f + (t - f) = t by omega]; exact h
  rw [cut_at h1 hn, List.drop_drop]
  congr 3
  omega
theorem cut_no {T : List UInt8} {f : Nat} (hn : (10 : UInt8) ∉ (T.drop f).take (T.length - f)) : cutC 10 (T.drop f) = none := by
  rw [cutC_none]
  rw [List.take_of_length_le (by simp)] at hn
  exact hn
theorem scan_next {T : List UInt8} {f t : Nat} {c : UInt8} (hf : f ≤ t) (h : T[t]? = some c) (hne : c ≠ 10) (hn : (10 : UInt8) ∉ (T.drop f).take (t - f)) : (10 : UInt8) ∉ (T.drop f).take (t + 1 - f) := by
  have h1 : (T.drop f)[t - f]? = some c := by rw [List.getElem?_drop]; rw [show f + (t - f) = t by omega]; exact h
  obtain ⟨hj, ej⟩ := List.getElem?_eq_some_iff.1 h1
  rw [show t + 1 - f = (t - f) + 1 by omega, List.take_succ_eq_append_getElem hj, ej, List.mem_append]
  rintro (h | h)
  · exact hn h
  · simp at h; exact hne h.symm
theorem str_ttl (t : List UInt8) : ((tstr t).toList == [99, 111, 112, 112, 105, 99, 101, 32]) = decide (t = ttl) := by
  have : (tstr t).toList = t := by rw [ByteArray.toList_eq]; rfl
  rw [this, Bool.eq_iff_iff, decide_eq_true_eq, beq_iff_eq]; rfl
set_option maxHeartbeats 16000000 in
set_option maxRecDepth 100000 in
theorem refParse20 (T : List UInt8) (w : World) (ht : T.length ≤ 2000000000) : Calls Tryd.prog 37 #[.string (tstr T)] w fun en w' => PaP w (prs T) en w' := by
  obtain ⟨ip, hip, hp0, hp1, hp2⟩ := info_parts info_pairD
  have hts := tstr_size T
  have hgd : ∀ (i : Nat) (h : i < (tstr T).size), T[i]? = some ((tstr T)[i]'h) := fun i h => by
    rw [← getD_data (tstr T) i h, tstr_data]
    have h2 : i < T.length := by omega
    simp [List.getD, List.getElem?_eq_getElem h2]
  have HEX := hid_intro (fun f t : Nat => ext_mid T f t)
  have HGD := hid_intro hgd
  have HTS := hid_intro hts
  have hsl : (tstr T).size ≤ 2000000000 := by omega
  have HTL := hid_intro ht
  clear hgd hts ht
  generalize tstr T = s at *
  go_enter Tryd.func37, Tryd.ntmps37
  go_wp2
  go_loopw [5, 6, 7, 8, 9, 10, 11, 12] (fun sl sc sn sf _ _ _ _ wr => ∃ (f k : Nat) (c : Int) (l : List Pq) (so : Option Addr) (lc : Nat) (xs : List Value), f ≤ s.size ∧ k ≤ 2147483648 ∧ sf = .int .i64 (f : Nat) ∧ sn = .int .i64 (k : Nat) ∧ sc = .int .i64 c ∧ sl = .slice so l.length lc ∧ l.length ≤ 2147483647 ∧ wr.ownsRow w.heap.size 44 2 (.slice so l.length lc) l.length xs ∧ Pw wr xs l ∧ w.grownBy wr none ∧ PsI T f k c l) (fun _ _ _ sf _ _ _ _ _ => s.size - (intOf sf).toNat)
  case atStart => exact ⟨0, 0, -1, [], none, 0, [], Nat.zero_le _, by omega, rfl, rfl, rfl, rfl, Nat.zero_le _, ⟨rfl, .inl ⟨rfl, rfl⟩⟩, Pw.nil _, World.grownBy.refl _ _, .inl ⟨rfl, rfl, rfl, rfl⟩⟩
  case round =>
    obtain ⟨f, k, c, l, so, lc, xs, hf, hk, rfl, rfl, rfl, rfl, hll, ho, hpw, hg, hps⟩ := hrel
    have HO := hid_intro ho
    have HPW := hid_intro hpw
    have HG := hid_intro hg
    have HPS := hid_intro hps
    clear ho hpw hg hps
    have kw : IntKind.i64.wrap ((k : Int) + 1) = (k : Int) + 1 := wrap_small _ (by omega) (by omega)
    go_wp2
    go_loopw [9] (fun st wr' => ∃ t : Nat, f ≤ t ∧ t ≤ s.size ∧ st = .int .i64 (t : Nat) ∧ (10 : UInt8) ∉ (T.drop f).take (t - f) ∧ wr' = wr) (fun st _ => s.size - (intOf st).toNat)
    case atStart => exact ⟨f, Nat.le_refl _, hf, rfl, by simp, rfl⟩
    case round =>
      obtain ⟨t, hft, hts, rfl, hno, hwr⟩ := hrel
      subst hwr
      have HNO := hid_intro hno
      clear hno
      by_cases hlt : t < s.size
      · have HC := hid_intro (HGD.out t hlt)
        have gi1 : (t : Int) < (s.size : Int) := by omega
        have gi3 : (0 : Int) ≤ (t : Int) := by omega
        by_cases hc : s[t]'hlt = 10
        · rw [hc] at HC
          have k1 : (((s[t]'hlt).toNat : Int) == 10) = true := by rw [hc]; rfl
          have k2 : (((s[t]'hlt).toNat : Int) != 10) = false := by simp only [bne, k1]; rfl
          have HCU := hid_intro (cut_nl hft HC.out HNO.out)
          clear hc
          have e1 : ((t : Int) == (s.size : Int)) = false := by rw [beq_eq_false_iff_ne]; omega
          have e2 : (f : Int) ≤ (t : Int) := by omega
          have e3 : (t : Int) ≤ (s.size : Int) := by omega
          have e4 : (0 : Int) ≤ (f : Int) := by omega
          have e5 : IntKind.i64.wrap ((t : Int) + 1) = (t : Int) + 1 := wrap_small _ (by omega) (by omega)
          have hex := HEX.out f t
          have HLL : Hid (((T.drop f).take (t - f)).length ≤ 2000000000) := by
            show _ ≤ _
            have := HTL.out
            simp; omega
          generalize (T.drop f).take (t - f) = Ln at *
          have hsz1 := tstr_size Ln
          by_cases hk0 : k = 0
          · obtain ⟨rfl, rfl, rfl⟩ : f = 0 ∧ c = -1 ∧ l = [] := by
              rcases HPS.out with ⟨_, h1, h2, h3⟩ | ⟨_, _, _, _, h1, _⟩
              · exact ⟨h1, h2, h3⟩
              · omega
            subst hk0
            rw [List.drop_zero] at HCU
            by_cases h8 : Ln.length < 8
            · have g8 : ((tstr Ln).size : Int) < 8 := by omega
              have HR := hid_intro (prs_head HCU.out (cnt_short h8))
              clear hsz1 h8
              generalize tstr Ln = sL at *
              go_wp2
              go_ret3
              exact ⟨HG.out, .inl ⟨1, 200, HR.out, rfl⟩⟩
            · have g8 : ¬ ((tstr Ln).size : Int) < 8 := by omega
              have g8' : (8 : Int) ≤ ((tstr Ln).size : Int) := by omega
              have x8 := ext_take Ln 8
              have y8 := str_ttl (Ln.take 8)
              have z8 := ext_drop Ln 8
              have HPT := hid_intro (pref_take Ln)
              have HNB := hid_intro (fun W => refNumber20 (tstr (Ln.drop 8)) W)
              rw [tstr_data] at HNB
              have HCT : Hid (cnt Ln = if Lib.hasPrefix Ln ttl = true then nb (Ln.drop 8) else none) := rfl
              generalize Lib.hasPrefix Ln ttl = fp at *
              have hpt := HPT.out
              rw [← hpt] at y8
              clear hpt HPT hsz1
              generalize tstr Ln = sL at *
              generalize tstr (Ln.take 8) = s8 at *
              cases fp with
              | false =>
                have y9 : (s8.toList != [99, 111, 112, 112, 105, 99, 101, 32]) = true := by simp only [bne, y8]; rfl
                have HR := hid_intro (prs_head HCU.out (by rw [HCT.out, if_neg (by decide)]))
                go_wp2
                go_ret3
                exact ⟨HG.out, .inl ⟨1, 200, HR.out, rfl⟩⟩
              | true =>
                have y9 : (s8.toList != [99, 111, 112, 112, 105, 99, 101, 32]) = false := by simp only [bne, y8]; rfl
                rw [if_pos rfl] at HCT
                generalize tstr (Ln.drop 8) = s9 at *
                unfold nbv at HNB
                cases hnb : nb (Ln.drop 8) with
                | none =>
                  have HR := hid_intro (prs_head HCU.out (by rw [HCT.out, hnb]))
                  rw [hnb] at HNB
                  simp only at HNB
                  clear hnb
                  go_wp2_with fail
                  refine (HNB.out _).mono ?_
                  rintro en w2 ⟨rfl, hw2⟩
                  subst hw2
                  go_wp2
                  go_ret3
                  exact ⟨HG.out, .inl ⟨1, 200, HR.out, rfl⟩⟩
                | some n =>
                  have HP2 := hid_intro (psI_head HCU.out (n := n) (by rw [HCT.out, hnb]))
                  rw [hnb] at HNB
                  simp only at HNB
                  have m0 : ¬ (n : Int) < 0 := by omega
                  clear hnb
                  go_wp2_with fail
                  refine (HNB.out _).mono ?_
                  rintro en w2 ⟨rfl, hw2⟩
                  subst hw2
                  go_wp2
                  go_roundw
                  case rel => exact ⟨t + 1, 1, n, [], so, lc, xs, by omega, by omega, by go_num, by go_num, rfl, rfl, Nat.zero_le _, HO.out, HPW.out, HG.out, HP2.out⟩
                  case measure => simp [intOf]; omega
          · have m0 : (((k : Int) + 1) == 1) = false := by rw [beq_eq_false_iff_ne]; omega
            have hk1 : 1 ≤ k := by omega
            clear hsz1
            by_cases hcl : c = (l.length : Int)
            · subst hcl
              have HR := hid_intro (psI_over HPS.out HCU.out)
              generalize tstr Ln = sL at *
              go_wp2
              go_ret3
              exact ⟨HG.out, .inl ⟨k + 1, 200, HR.out, by congr 3⟩⟩
            · have m1 : (((l.length : Int)) == c) = false := by rw [beq_eq_false_iff_ne]; omega
              have HLN := hid_intro (fun W => refLine20 Ln W HLL.out)
              have HPQ := hid_intro (pp_pq (ahd l l.length) Ln)
              have HOK : Hid (∀ k' v', pq Ln = .ok (k', v') → 1 ≤ k'.length) := fun k' v' h => pq_ok h
              have HBD := hid_intro (fun e he => psI_bad HPS.out hk1 hcl HCU.out (e := e) he)
              have HNX := hid_intro (fun p hp => psI_next HPS.out hk1 hcl HCU.out (p := p) hp)
              generalize pp (ahd l l.length) Ln = PP at *
              generalize pq Ln = PQ at *
              generalize tstr Ln = sL at *
              clear hcl
              go_wp2_with fail
              refine (HLN.out _).mono ?_
              rintro en w4 ⟨hg4, ⟨e, hr, he, rfl⟩ | ⟨ky, vl, ko, kc, vo, vc, hr, rfl, hbk, hbv, hok, hov⟩⟩
              · have HR := hid_intro (HBD.out e (by rw [HPQ.out, hr]))
                have G4 := hid_intro (grown_trans (grown_trans HG.out hg4) (World.grownBy_alloc w4 (.cells #[.slice none 0 0, .slice none 0 0] 44) none))
                have j1 : (e == 0) = false := by rw [beq_eq_false_iff_ne]; exact he
                have j2 : (e != 0) = true := by simp only [bne, j1]; rfl
                clear hr he hg4
                go_wp2
                go_ret3
                exact ⟨G4.out, .inl ⟨k + 1, e, HR.out, by congr 3⟩⟩
              · have hkl := HOK.out ky vl hr
                rw [hr] at HPQ
                simp only at HPQ
                have gx := World.grownBy_alloc w4 (.cells #[.slice ko ky.length kc, .slice vo vl.length vc] 44) none
                have O5 := hid_intro (own_keptD (own_keptD HO.out hg4) gx)
                have P5 := hid_intro ((HPW.out.keptN hg4).keptN gx)
                have OK5 := hid_intro (own_low (own_keptD hok gx) (Nat.zero_le _))
                have OV5 := hid_intro (own_low (own_keptD hov gx) (Nat.zero_le _))
                have G5 := hid_intro (grown_trans (grown_trans HG.out hg4) gx)
                have hxb : (w4.alloc (.cells #[.slice ko ky.length kc, .slice vo vl.length vc] 44)).heap[w4.heap.size]? = some (.cells #[.slice ko ky.length kc, .slice vo vl.length vc] 44 (0, 0)) := heap_alloc_new w4 _
                have x0 : (w4.alloc (.cells #[.slice ko ky.length kc, .slice vo vl.length vc] 44)).cell? ⟨w4.heap.size, 0, none⟩ = some (.slice ko ky.length kc) := by rw [Lib.cell_of_heap hxb]; rfl
                have x1 : (w4.alloc (.cells #[.slice ko ky.length kc, .slice vo vl.length vc] 44)).cell? ⟨w4.heap.size, 1, none⟩ = some (.slice vo vl.length vc) := by rw [Lib.cell_of_heap hxb]; rfl
                have BK := hid_intro hbk
                have BV := hid_intro hbv
                have hs5 := G5.out.size
                obtain ⟨nk, hnk⟩ : ∃ nk, ky.length = nk := ⟨_, rfl⟩
                obtain ⟨nv, hnv⟩ : ∃ nv, vl.length = nv := ⟨_, rfl⟩
                have HNK := hid_intro hnk
                have HNV := hid_intro hnv
                rw [hnk, hnv] at x0 x1 O5 P5 OK5 OV5 G5 hs5 ⊢
                rw [hnk] at hkl
                clear gx hxb hnk hnv HO HPW hbk hbv hok hov hr hg4 HG
                go_upto_region 26 with fail
                generalize w4.alloc (.cells #[.slice ko nk kc, .slice vo nv vc] 44) = w5 at *
                generalize w4.heap.size = X at *
                generalize hlen : l.length = i at *
                have HLEN := hid_intro hlen
                clear hlen
                by_cases hl0 : i = 0
                · have HR : Hid (PP = .ok (ky, vl)) := by
                    have e0 : ahd l i = [] := by rw [hl0]; rfl
                    show _ = _
                    rw [HPQ.out, e0, if_neg (cmp_gt_nil (by rw [HNK.out]; exact hkl))]
                  have r0 : ¬ (0 : Int) < (i : Int) := by omega
                  have r1 : decide ((0 : Int) < (i : Int)) = false := decide_eq_false r0
                  have r2 : ¬ 0 < i := by omega
                  have r3 : decide (0 < i) = false := decide_eq_false r2
                  go_quiet (fail)
                  generalize hw6 : w5.drewN _ = w6
                  have hq6 : Qt w5 w6 := by rw [← hw6]; exact Qt.drewN _ _
                  clear hw6 hl0
                  have Q6 : Hid (Qt w5 w6) := hq6
                  have y0 := (Q6.out.cell _).trans x0
                  have y1 := (Q6.out.cell _).trans x1
                  have O6 := hid_intro (own_heapD O5.out Q6.out.heap)
                  have P6 := hid_intro (P5.out.keptN (Q6.out.grown none))
                  have OK6 := hid_intro (own_heapD OK5.out Q6.out.heap)
                  have OV6 := hid_intro (own_heapD OV5.out Q6.out.heap)
                  have G6 := hid_intro (grown_trans G5.out (Q6.out.grown none))
                  have hs6 := G6.out.size
                  clear x0 x1 O5 P5 OK5 OV5 G5 hs5 hq6
                  have HAP : Hid (∀ W : World, W.heap = w6.heap → (W.alloc (.cells #[.slice ko nk kc, .slice vo nv vc] 44)).ownsRow w.heap.size 44 2 (.slice so i lc) i xs) := fun W hW => (own_same20 O6.out hW).alloc _
                  go_wp2_with (at_builtin; refine wpList_append_own _ rfl _ _ 35 rfl w.heap.size 44 ip (.agg #[.slice none 0 0, .slice none 0 0]) 2 48 Tryd.underlying35 hip hp0 hp1 hp2 rfl (by decide) _ i xs rfl (HAP.out _ rfl) ⟨w6.heap.size, 0, none⟩ 1 1 [.slice ko nk kc, .slice vo nv vc] rfl rfl (cell_two_new _ _ _ _) (by intro u hu; simp at hu; rcases hu with rfl | rfl <;> rfl) (by unfold maxLen; omega) (by omega) (by simp; omega) ?_)
                  intro v8 w8 ho8 hg8 _
                  obtain ⟨va, vd, hv8⟩ := own_shape20 ho8
                  subst hv8
                  have O8 := hid_intro ho8
                  have G8 := hid_intro hg8
                  clear ho8 hg8
                  go_wp2
                  go_roundw
                  case rel =>
                    have gb := World.grownBy_alloc w6 (.cells #[.slice ko nk kc, .slice vo nv vc] 44) none
                    have oa := own_keptD O6.out gb
                    have ok8 := (own_keptD OK6.out gb).kept G8.out (own_neD (own_keptD OK6.out gb) oa (by decide))
                    have ov8 := (own_keptD OV6.out gb).kept G8.out (own_neD (own_keptD OV6.out gb) oa (by decide))
                    have p8 := (P6.out.keptN gb).app oa G8.out
                    have ps := p8.snoc (p := (ky, vl)) (by rw [HNK.out]; exact ok8) (by rw [HNV.out]; exact ov8) ⟨BK.out, BV.out⟩
                    simp only [HNK.out, HNV.out] at ps
                    have gg := grown_app20 G6.out O6.out (Nat.le_refl _) G8.out
                    have hp9 := HNX.out (ky, vl) HR.out
                    have hl9 : (l ++ [(ky, vl)]).length = i + 1 := by rw [List.length_append, HLEN.out]; rfl
                    have hb9 : i + 1 ≤ 2147483647 ∧ k + 1 ≤ 2147483648 := by
                      rcases hp9 with ⟨h, _⟩ | ⟨n, _, h2, h3, h4, _⟩
                      · omega
                      · rw [hl9] at h3 h4; omega
                    exact ⟨t + 1, k + 1, c, l ++ [(ky, vl)], va, vd, _, by omega, by omega, by go_num, by go_num, rfl, by rw [hl9], by rw [hl9]; omega, by rw [hl9]; exact O8.out, ps, gg, hp9⟩
                  case measure => simp [intOf]; omega
                · obtain ⟨j, hj⟩ : ∃ j, i = j + 1 := ⟨i - 1, by omega⟩
                  obtain ⟨p', hp'⟩ : ∃ p', l[j]? = some p' := ⟨_, List.getElem?_eq_getElem (by have := HLEN.out; omega)⟩
                  obtain ⟨kk, vv⟩ := p'
                  have ha : ahd l i = kk := by rw [hj]; simp [ahd, hp']
                  obtain ⟨hPM, _⟩ := P5.out.pm O5.out
                  obtain ⟨b', off', ao', c', bo', d', hso, r1, r2, r3, r4, r5, r6⟩ := hPM.el j (kk, vv) hp'
                  subst hso
                  simp only at r1 r3 r4
                  rw [ha] at HPQ
                  obtain ⟨n3, hn3⟩ : ∃ n3, kk.length = n3 := ⟨_, rfl⟩
                  rw [hn3] at r1 r3
                  have hkb := byt_of_ownD OK5.out
                  have HC : Hid (∀ W : World, W.heap = w5.heap → Calls Tryd.prog 38 #[.slice ao' n3 c', .slice ko nk kc] W fun en w' => en = .returned (.bool (decide (cmpZ kk ky < 0))) ∧ w' = W) := fun W hW => lessD ao' ko n3 nk c' kc kk ky W (r3.heap hW) (hkb.heap hW) r4 BK.out
                  have HAN := hid_intro (cmp_anti kk ky)
                  have q4 : (0 : Int) < (i : Int) := by omega
                  have q5 : 0 < i := by omega
                  have q6 : decide (0 < (i : Int)) = true := decide_eq_true q4
                  have q7 : decide (0 < i) = true := decide_eq_true q5
                  have q8 : (i : Int) - 1 = (j : Int) := by omega
                  have q9 : (j : Int) < (i : Int) := by omega
                  have q10 : (0 : Int) ≤ (j : Int) := by omega
                  have q11 : IntKind.i64.wrap (j : Int) = (j : Int) := wrap_small _ (by omega) (by omega)
                  clear r2 r3 r4 r5 r6 hp' hn3 ha hPM hkb hl0 hj
                  by_cases hc : cmpZ kk ky < 0
                  · rw [decide_eq_true hc] at HC
                    have HR : Hid (PP = .ok (ky, vl)) := by show _ = _; rw [HPQ.out, if_neg (by have := HAN.out; omega)]
                    go_quiet ((go_at_call 38; exact Calls.quiet_of_same (HC.out _ rfl)))
                    generalize hw6 : w5.drewN _ = w6
                    have hq6 : Qt w5 w6 := by rw [← hw6]; exact Qt.drewN _ _
                    clear hw6 r1
                    have Q6 : Hid (Qt w5 w6) := hq6
                    have y0 := (Q6.out.cell _).trans x0
                    have y1 := (Q6.out.cell _).trans x1
                    have O6 := hid_intro (own_heapD O5.out Q6.out.heap)
                    have P6 := hid_intro (P5.out.keptN (Q6.out.grown none))
                    have OK6 := hid_intro (own_heapD OK5.out Q6.out.heap)
                    have OV6 := hid_intro (own_heapD OV5.out Q6.out.heap)
                    have G6 := hid_intro (grown_trans G5.out (Q6.out.grown none))
                    have hs6 := G6.out.size
                    clear x0 x1 O5 P5 OK5 OV5 G5 hs5 hq6
                    have HAP : Hid (∀ W : World, W.heap = w6.heap → (W.alloc (.cells #[.slice ko nk kc, .slice vo nv vc] 44)).ownsRow w.heap.size 44 2 (.slice (some ⟨b', off', none⟩) i lc) i xs) := fun W hW => (own_same20 O6.out hW).alloc _
                    go_wp2_with (at_builtin; refine wpList_append_own _ rfl _ _ 35 rfl w.heap.size 44 ip (.agg #[.slice none 0 0, .slice none 0 0]) 2 48 Tryd.underlying35 hip hp0 hp1 hp2 rfl (by decide) _ i xs rfl (HAP.out _ rfl) ⟨w6.heap.size, 0, none⟩ 1 1 [.slice ko nk kc, .slice vo nv vc] rfl rfl (cell_two_new _ _ _ _) (by intro u hu; simp at hu; rcases hu with rfl | rfl <;> rfl) (by unfold maxLen; omega) (by omega) (by simp; omega) ?_)
                    intro v8 w8 ho8 hg8 _
                    obtain ⟨va, vd, hv8⟩ := own_shape20 ho8
                    subst hv8
                    have O8 := hid_intro ho8
                    have G8 := hid_intro hg8
                    clear ho8 hg8
                    go_wp2
                    go_roundw
                    case rel =>
                      have gb := World.grownBy_alloc w6 (.cells #[.slice ko nk kc, .slice vo nv vc] 44) none
                      have oa := own_keptD O6.out gb
                      have ok8 := (own_keptD OK6.out gb).kept G8.out (own_neD (own_keptD OK6.out gb) oa (by decide))
                      have ov8 := (own_keptD OV6.out gb).kept G8.out (own_neD (own_keptD OV6.out gb) oa (by decide))
                      have p8 := (P6.out.keptN gb).app oa G8.out
                      have ps := p8.snoc (p := (ky, vl)) (by rw [HNK.out]; exact ok8) (by rw [HNV.out]; exact ov8) ⟨BK.out, BV.out⟩
                      simp only [HNK.out, HNV.out] at ps
                      have gg := grown_app20 G6.out O6.out (Nat.le_refl _) G8.out
                      have hp9 := HNX.out (ky, vl) HR.out
                      have hl9 : (l ++ [(ky, vl)]).length = i + 1 := by rw [List.length_append, HLEN.out]; rfl
                      have hb9 : i + 1 ≤ 2147483647 ∧ k + 1 ≤ 2147483648 := by
                        rcases hp9 with ⟨h, _⟩ | ⟨n, _, h2, h3, h4, _⟩
                        · omega
                        · rw [hl9] at h3 h4; omega
                      exact ⟨t + 1, k + 1, c, l ++ [(ky, vl)], va, vd, _, by omega, by omega, by go_num, by go_num, rfl, by rw [hl9], by rw [hl9]; omega, by rw [hl9]; exact O8.out, ps, gg, hp9⟩
                    case measure => simp [intOf]; omega
                  · rw [decide_eq_false hc] at HC
                    have HR := hid_intro (HBD.out 30 (by rw [HPQ.out, if_pos (by have := HAN.out; omega)]))
                    go_quiet ((go_at_call 38; exact Calls.quiet_of_same (HC.out _ rfl)))
                    go_wp2
                    go_ret3
                    exact ⟨grown_trans G5.out ((Qt.drewN _ _).grown none), .inl ⟨k + 1, 30, HR.out, by congr 3⟩⟩
        · have k0 : ¬ (s[t]'hlt).toNat = 10 := fun e => hc (UInt8.toNat_inj.1 e)
          have k1 : (((s[t]'hlt).toNat : Int) == 10) = false := by rw [beq_eq_false_iff_ne]; omega
          have k2 : (((s[t]'hlt).toNat : Int) != 10) = true := by simp only [bne, k1]; rfl
          have HN2 := hid_intro (scan_next hft HC.out hc HNO.out)
          clear hc
          go_wp2
          go_roundw
          case rel => exact ⟨t + 1, by omega, by omega, by go_num, HN2.out, trivial⟩
          case measure => simp [intOf]; omega
      · obtain rfl : t = s.size := by omega
        have HCU : Hid (cutC 10 (T.drop f) = none) := cut_no (by rw [← HTS.out]; exact HNO.out)
        have HR := hid_intro (psI_end HPS.out HCU.out (by have := HTS.out; omega))
        rw [← HTS.out] at HR
        by_cases h1 : f = s.size ∧ c = (l.length : Int)
        · rw [if_pos h1] at HR
          obtain ⟨rfl, rfl⟩ := h1
          go_wp2
          go_ret3
          exact ⟨HG.out, .inr ⟨l, so, lc, xs, HR.out, rfl, HO.out, HPW.out⟩⟩
        · rw [if_neg h1] at HR
          by_cases h2 : f = s.size
          · have h3 : ¬ c = (l.length : Int) := fun e => h1 ⟨h2, e⟩
            have m1 : (c == (l.length : Int)) = false := by rw [beq_eq_false_iff_ne]; exact h3
            subst h2
            clear h1 h3
            go_wp2
            go_ret3
            exact ⟨HG.out, .inl ⟨k + 1, 200, HR.out, by congr 3⟩⟩
          · have m2 : ((f : Int) == (s.size : Int)) = false := by rw [beq_eq_false_iff_ne]; omega
            clear h1
            go_wp2
            go_ret3
            exact ⟨HG.out, .inl ⟨k + 1, 200, HR.out, by congr 3⟩⟩
end Go.Proofs.YtioleabkbkmggaaDoor
