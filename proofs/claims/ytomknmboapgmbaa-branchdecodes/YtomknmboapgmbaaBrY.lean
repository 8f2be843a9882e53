import Derived.Test.YtomknmboapgmbaaBrIn
namespace Go.Proofs.Ytomknmboapgmbaa
open Go.RowKit

theorem less_nums : ∀ {a b : List Int}, Bt a → Bt b → Op.bytesLess (a.map fun n => UInt8.ofNat n.toNat) (b.map fun n => UInt8.ofNat n.toNat) = decide (cmpZ a b < 0)
  | [], [], _, _ => by simp [Op.bytesLess, cmpZ]
  | _ :: _, [], _, _ => by simp [Op.bytesLess, cmpZ]
  | [], _ :: _, _, _ => by simp [Op.bytesLess, cmpZ]
  | a :: xs, b :: ys, ha, hb => by
    have h1 := ha a (List.mem_cons_self ..)
    have h2 := hb b (List.mem_cons_self ..)
    have ih := less_nums (a := xs) (b := ys) (fun z hz => ha z (List.mem_cons_of_mem _ hz)) (fun z hz => hb z (List.mem_cons_of_mem _ hz))
    have e1 : (UInt8.ofNat a.toNat < UInt8.ofNat b.toNat) ↔ a < b := by
      rw [UInt8.lt_iff_toNat_lt]; simp; omega
    have e2 : (UInt8.ofNat a.toNat = UInt8.ofNat b.toNat) ↔ a = b := by
      rw [← UInt8.toNat_inj]; simp; omega
    rw [List.map_cons, List.map_cons, Op.bytesLess, ih, cmp_cons]
    by_cases h3 : a < b
    · simp [e1, h3]
    · by_cases h4 : b < a
      · have h5 : ¬ a = b := by omega
        simp [e1, e2, h3, h4, h5]
      · have h5 : a = b := by omega
        subst h5
        simp

set_option maxHeartbeats 400000 in
set_option maxRecDepth 100000 in
theorem less_any (ao bo : Option Addr) (n m c d : Nat) (za zb : List Int) (w : World) (ha : Byt w ao n c za) (hb : Byt w bo m d zb) (ba : Bt za) (bb : Bt zb) :
    Calls Try.prog 40 #[.slice ao n c, .slice bo m d] w fun en w' => en = .returned (.bool (decide (cmpZ za zb < 0))) ∧ w' = w := by
  have h1 := conv_str ha
  have h2 := conv_str hb
  have HE : Hid (Op.bytesLess (strOfNums za).toList (strOfNums zb).toList = decide (cmpZ za zb < 0)) := by
    show _ = _
    rw [ByteArray.toList_eq, ByteArray.toList_eq, strOfNums_data, strOfNums_data]
    exact less_nums ba bb
  clear ha hb
  go_enter Try.func40, Try.ntmps40
  go_wp2
  go_ret
  exact ⟨by rw [← HE.out]; rfl, rfl⟩


theorem kids_all {P : Kd → Prop} {K : List Kd} (h : ∀ j, j < K.length → P (K.getD j kd0)) : ∀ k ∈ K, P k := by
  intro k hk
  obtain ⟨j, hj, rfl⟩ := List.getElem_of_mem hk
  have := h j hj
  simpa [List.getD, List.getElem?_eq_getElem hj] using this
theorem seps_all {P : List Int → Prop} {K : List (List Int)} (h : ∀ j, j < K.length → P (K.getD j [])) : ∀ k ∈ K, P k := by
  intro k hk
  obtain ⟨j, hj, rfl⟩ := List.getElem_of_mem hk
  have := h j hj
  simpa [List.getD, List.getElem?_eq_getElem hj] using this

set_option maxHeartbeats 4000000 in
set_option maxRecDepth 100000 in
theorem may_any (lv : Int) (a : Option Addr) (n cap : Nat) (L : List (List Int)) (b : Option Addr) (m cap2 : Nat) (K : List Kd) (w : World) (hl : Lz w a L) (hb : Lb L) (hn : L.length = n) (hm : n ≤ 5000) (hc : n ≤ cap) (hcap : cap ≤ 9223372036854775807) (hk : Kl w b K) (hkn : K.length = m) (hkm : m ≤ 5000) :
    Calls Try.prog 25 #[.int .i64 lv, .slice a n cap, .slice b m cap2] w fun en w' => en = .returned (.bool (decide (bwrong lv L K = 0))) ∧ w.grownBy w' none := by
  obtain ⟨r, hr⟩ : ∃ r, decide (bwrong lv L K = 0) = r := ⟨_, rfl⟩
  have HN : Hid (¬ Fit lv L K → r = false) := fun h => by rw [← hr]; exact decide_eq_false (fun e => h (bwrong_fit.1 e))
  have HY : Hid (Fit lv L K → r = true) := fun h => by rw [← hr]; exact decide_eq_true (bwrong_fit.2 h)
  rw [hr]
  clear hr
  have HL := hid_intro hl
  have HK := hid_intro hk
  have HB := hid_intro hb
  clear hl hk hb
  by_cases h1 : lv < 1
  · obtain rfl := HN.out (fun h => by have := h.l1; omega)
    go_enter Try.func25, Try.ntmps25
    go_wp2
    go_ret
    exact ⟨rfl, World.grownBy.refl _ _⟩
  · by_cases h2 : 15 < lv
    · obtain rfl := HN.out (fun h => by have := h.l2; omega)
      go_enter Try.func25, Try.ntmps25
      go_wp2
      go_ret
      exact ⟨rfl, World.grownBy.refl _ _⟩
    · by_cases h3 : m = n + 1
      · subst h3
        have g9 : ¬ ((n : Int) + 1 < 1) := by omega
        go_enter Try.func25, Try.ntmps25
        go_wp2
        go_loopw [7] (fun si wr => ∃ i : Nat, i ≤ n + 1 ∧ si = .int .i64 i ∧ (∀ j, j < i → wk (K.getD j kd0) = false) ∧ Qt w wr) (fun si _ => n + 1 - (intOf si).toNat)
        case atStart => exact ⟨0, Nat.zero_le _, rfl, fun j hj => by omega, Qt.refl _⟩
        case round =>
          obtain ⟨i, hi, rfl, ha, hq0⟩ := hrel
          have HA := hid_intro ha
          have HQ0 := hid_intro hq0
          clear ha hq0
          by_cases hlt : i < n + 1
          · obtain ⟨b1, off, rfl, q2, q3⟩ := HK.out.row i (by omega)
            have c8 := (HQ0.out.cell _).trans q2
            have c9 := (HQ0.out.cell _).trans q3
            clear q2 q3
            have HX : Hid (wk (K.getD i kd0) = false → ∀ j, j < i + 1 → wk (K.getD j kd0) = false) := by
              intro h j hj
              by_cases e : j = i
              · subst e; exact h
              · exact HA.out j (by omega)
            have HM : Hid (wk (K.getD i kd0) = true → r = false) := fun h => HN.out (fun hf => by have := hf.kid _ (kget_mem (show i < K.length by omega)); rw [h] at this; cases this)
            have HE : Hid (wk (K.getD i kd0) = (decide ((K.getD i kd0).no < 2) || decide (524287 ≤ (K.getD i kd0).no) || decide ((K.getD i kd0).keys < 1) || decide (4294967295 < (K.getD i kd0).keys))) := rfl
            rw [HE.out] at HX HM
            clear HE HA
            generalize (K.getD i kd0).no = no at *
            generalize (K.getD i kd0).keys = ks at *
            have g1 : (i : Int) < (n : Int) + 1 := by omega
            by_cases e1 : no < 2
            · have hrf := HM.out (by simp [e1])
              subst hrf
              clear HX HM HN HY
              go_wp2
              go_ret
              exact ⟨rfl, HQ0.out.grown _⟩
            · by_cases e2 : (524286 : Int) < no
              · have hrf := HM.out (by simp; omega)
                subst hrf
                clear HX HM HN HY
                go_wp2
                go_ret
                exact ⟨rfl, HQ0.out.grown _⟩
              · by_cases e3 : ks < 1
                · have hrf := HM.out (by simp [e3])
                  subst hrf
                  clear HX HM HN HY
                  go_wp2
                  go_ret
                  exact ⟨rfl, HQ0.out.grown _⟩
                · by_cases e4 : (4294967295 : Int) < ks
                  · have hrf := HM.out (by simp [e4])
                    subst hrf
                    clear HX HM HN HY
                    go_wp2
                    go_ret
                    exact ⟨rfl, HQ0.out.grown _⟩
                  · have HX1 := hid_intro (HX.out (by simp; omega))
                    clear HX HM
                    go_wp2
                    go_roundw
                    case rel => exact ⟨i + 1, by omega, by go_num, HX1.out, HQ0.out⟩
                    case measure => simp [intOf]; omega
          · have hin : i = n + 1 := by omega
            subst hin
            have HKA : Hid (∀ k ∈ K, wk k = false) := kids_all (fun j hj => HA.out j (by omega))
            clear HA
            go_wp2
            go_loopw [8] (fun si wr' => ∃ i : Nat, i ≤ n ∧ si = .int .i64 i ∧ (∀ j, j < i → wsep (L.getD j []) = false) ∧ (∀ j, j + 1 < i → cmpZ (L.getD j []) (L.getD (j + 1) []) < 0) ∧ Qt w wr') (fun si _ => n - (intOf si).toNat)
            case atStart => exact ⟨0, Nat.zero_le _, rfl, fun j hj => by omega, fun j hj => by omega, HQ0.out⟩
            case round =>
              obtain ⟨i, hi, rfl, ha, hc1, hq⟩ := hrel
              have HA := hid_intro ha
              have HC1 := hid_intro hc1
              have HQ := hid_intro hq
              clear ha hc1 hq
              by_cases hlt : i < n
              · obtain ⟨b1, off, ao, k, c, rfl, q2, q3, q4, q5⟩ := HL.out.row i (by omega)
                have hk := q3.len
                have c0 := (HQ.out.cell _).trans q2
                have HM : Hid (wsep (L.getD i []) = true → r = false) := fun h => HN.out (fun hf => by have := hf.sep _ (lget_mem (show i < L.length by omega)); rw [h] at this; cases this)
                have HX : Hid (wsep (L.getD i []) = false → ∀ j, j < i + 1 → wsep (L.getD j []) = false) := by
                  intro h j hj
                  by_cases e : j = i
                  · subst e; exact h
                  · exact HA.out j (by omega)
                have HE : Hid (wsep (L.getD i []) = !(decide (1 ≤ k) && decide (k ≤ 255))) := by show _ = _; unfold wsep; rw [hk]
                rw [HE.out] at HM HX
                have g1 : (i : Int) < (n : Int) := by omega
                have g0 : (0 : Int) ≤ (i : Int) := by omega
                clear HE hk
                by_cases e1 : k < 1
                · have hrf := HM.out (by simp; omega)
                  subst hrf
                  have hd1 : decide ((k : Int) < 1) = true := decide_eq_true (by omega)
                  clear HX HM HN HY q2 q3
                  go_wp2
                  go_quiet (fail)
                  go_wp2
                  go_ret
                  exact ⟨rfl, (HQ.out.trans (Qt.drewN _ _)).grown _⟩
                · have hd1 : decide ((k : Int) < 1) = false := decide_eq_false (by omega)
                  by_cases e2 : 255 < k
                  · have hrf := HM.out (by simp; omega)
                    subst hrf
                    have hd2 : decide ((255 : Int) < (k : Int)) = true := decide_eq_true (by omega)
                    clear HX HM HN HY q2 q3
                    go_wp2
                    go_quiet (fail)
                    go_wp2
                    go_ret
                    exact ⟨rfl, (HQ.out.trans (Qt.drewN _ _)).grown _⟩
                  · have hd2 : decide ((255 : Int) < (k : Int)) = false := decide_eq_false (by omega)
                    have HX1 := hid_intro (HX.out (by simp; omega))
                    clear HX HM
                    by_cases e3 : i = 0
                    · have hd3 : decide ((0 : Int) < (i : Int)) = false := decide_eq_false (by omega)
                      have hd4 : decide (0 < i) = false := decide_eq_false (by omega)
                      have HC2 : Hid (∀ j, j + 1 < i + 1 → cmpZ (L.getD j []) (L.getD (j + 1) []) < 0) := fun j hj => by omega
                      clear q2 q3 e3
                      go_wp2
                      go_quiet (fail)
                      go_wp2
                      go_roundw
                      case rel => exact ⟨i + 1, by omega, by go_num, HX1.out, HC2.out, HQ.out.trans (Qt.drewN _ _)⟩
                      case measure => simp [intOf]; omega
                    · obtain ⟨p, hp⟩ : ∃ p, i = p + 1 := ⟨i - 1, by omega⟩
                      have hd3 : decide ((0 : Int) < (i : Int)) = true := decide_eq_true (by omega)
                      have hd4 : decide (0 < i) = true := decide_eq_true (by omega)
                      obtain ⟨b2, off2, ao2, k2, c2, e9, r2, r3, r4, r5⟩ := HL.out.row p (by omega)
                      simp only [Option.some.injEq, Addr.mk.injEq] at e9
                      obtain ⟨rfl, rfl, _⟩ := e9
                      have c1 := (HQ.out.cell _).trans r2
                      have HC := hid_intro (fun (W : World) (hW : W.heap = wr.heap) => less_any ao2 ao k2 k c2 c _ _ W (r3.heap (hW.trans HQ.out.heap)) (q3.heap (hW.trans HQ.out.heap)) (HB.out _ (lget_mem (show p < L.length by omega))) (HB.out _ (lget_mem (show i < L.length by omega))))
                      have HD : Hid (cmpZ (L.getD p []) (L.getD i []) < 0 → ∀ j, j + 1 < i + 1 → cmpZ (L.getD j []) (L.getD (j + 1) []) < 0) := by
                        intro h j hj
                        by_cases e : j = p
                        · subst e; rw [← hp]; exact h
                        · exact HC1.out j (by omega)
                      have HE : Hid (¬ cmpZ (L.getD p []) (L.getD i []) < 0 → r = false) := fun h => HN.out (fun hf => h (by have := hf.up p (by omega); rw [← hp] at this; exact this))
                      have g2 : (i : Int) - 1 = (p : Int) := by omega
                      have g3 : (p : Int) < (n : Int) := by omega
                      have g4 : (0 : Int) ≤ (p : Int) := by omega
                      clear q2 q3 r2 r3 hp
                      generalize cmpZ (L.getD p []) (L.getD i []) = z at *
                      by_cases hz : z < 0
                      · have hz' : decide (z < 0) = true := decide_eq_true hz
                        have HD1 := hid_intro (HD.out hz)
                        rw [hz'] at HC
                        clear HD HE
                        go_wp2
                        go_quiet ((go_at_call 40; exact Calls.quiet_of_same (HC.out _ rfl)))
                        go_wp2
                        go_roundw
                        case rel => exact ⟨i + 1, by omega, by go_num, HX1.out, HD1.out, HQ.out.trans (Qt.drewN _ _)⟩
                        case measure => simp [intOf]; omega
                      · have hz' : decide (z < 0) = false := decide_eq_false hz
                        have hrf := HE.out hz
                        subst hrf
                        rw [hz'] at HC
                        clear HD HE HN HY
                        go_wp2
                        go_quiet ((go_at_call 40; exact Calls.quiet_of_same (HC.out _ rfl)))
                        go_wp2
                        go_ret
                        exact ⟨rfl, (HQ.out.trans (Qt.drewN _ _)).grown _⟩
              · have hin : i = n := by omega
                subst hin
                have HSA : Hid (∀ s ∈ L, wsep s = false) := seps_all (fun j hj => HA.out j (by omega))
                have HUP : Hid (bUp L) := fun j hj => HC1.out j (by omega)
                have HR : Hid (r = decide (bsize L ≤ 4092)) := by
                  by_cases hs : bsize L ≤ 4092
                  · exact (HY.out ⟨by omega, by omega, by omega, HKA.out, HSA.out, HUP.out, hs⟩).trans (decide_eq_true hs).symm
                  · exact (HN.out (fun hf => hs hf.size)).trans (decide_eq_false hs).symm
                go_wp2_with fail
                refine (bsize_any a i cap L _ (HL.out.heap HQ.out.heap) hn hm hc hcap (fun x hx => by have := (wsep_parts (HSA.out x hx)).2; omega)).mono ?_
                rintro en w9 ⟨rfl, hg9⟩
                have G9 := hid_intro (grown_trans (HQ.out.grown none) hg9)
                clear hg9
                generalize bsize L = sz at *
                by_cases hs : sz ≤ 4092
                · have hs1 : (sz : Int) ≤ 4092 := by omega
                  obtain rfl : r = true := HR.out.trans (decide_eq_true hs)
                  clear HR HN HY
                  go_wp2
                  go_ret
                  exact ⟨rfl, G9.out⟩
                · have hs1 : ¬ (sz : Int) ≤ 4092 := by omega
                  obtain rfl : r = false := HR.out.trans (decide_eq_false hs)
                  have HD9 : Hid (decide ((sz : Int) ≤ 4092) = false) := decide_eq_false hs1
                  clear HR HN HY
                  go_wp2
                  go_ret
                  exact ⟨by show Ending.returned (Value.bool (decide ((sz : Int) ≤ 4092))) = _; rw [HD9.out], G9.out⟩
      · obtain rfl := HN.out (fun h => h3 (by have := h.len; omega))
        have h3' : ¬ (m : Int) = (n : Int) + 1 := by omega
        have h5' : ((m : Int) != (n : Int) + 1) = true := bne_iff_ne.2 h3'
        by_cases h4 : m < 1
        · go_enter Try.func25, Try.ntmps25
          go_wp2
          go_ret
          exact ⟨rfl, World.grownBy.refl _ _⟩
        · go_enter Try.func25, Try.ntmps25
          go_wp2
          go_ret
          exact ⟨rfl, World.grownBy.refl _ _⟩
end Go.Proofs.Ytomknmboapgmbaa
