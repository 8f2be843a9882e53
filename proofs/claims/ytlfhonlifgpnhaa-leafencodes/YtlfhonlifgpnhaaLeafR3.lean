import Derived.Test.YtlfhonlifgpnhaaLeafF
namespace Go.Proofs.Ytlfhonlifgpnhaa
open Go.RowKit

theorem less_nums : ∀ {a b : List Int}, Bt a → Bt b → Op.bytesLess (a.map fun n => UInt8.ofNat n.toNat) (b.map fun n => UInt8.ofNat n.toNat) = decide (cmpZ a b < 0)
  | [], [], _, _ => by simp [Op.bytesLess, cmpZ]
  | _ :: _, [], _, _ => by simp [Op.bytesLess, cmpZ]
  | [], _ :: _, _, _ => by simp [Op.bytesLess, cmpZ]
  | a :: xs, b :: ys, ha, hb => by
    have h1 := ha a (List.mem_cons_self ..)
    have h2 := hb b (List.mem_cons_self ..)
    have ih := less_nums (a := xs) (b := ys) (fun z hz => ha z (List.mem_cons_of_mem _ hz)) (fun z hz => hb z (List.mem_cons_of_mem _ hz))
    have e1 : (UInt8.ofNat a.toNat < UInt8.ofNat b.toNat) ↔ a < b := by
      rw [UInt8.lt_iff_toNat_lt]; simp; omega
    have e2 : (UInt8.ofNat a.toNat = UInt8.ofNat b.toNat) ↔ a = b := by
      rw [← UInt8.toNat_inj]; simp; omega
    rw [List.map_cons, List.map_cons, Op.bytesLess, ih, cmp_cons]
    by_cases h3 : a < b
    · simp [e1, h3]
    · by_cases h4 : b < a
      · have h5 : ¬ a = b := by omega
        simp [e1, e2, h3, h4, h5]
      · have h5 : a = b := by omega
        subst h5
        simp

set_option maxHeartbeats 400000 in
set_option maxRecDepth 100000 in
theorem less_any (ao bo : Option Addr) (n m c d : Nat) (za zb : List Int) (w : World) (ha : Byt w ao n c za) (hb : Byt w bo m d zb) (ba : Bt za) (bb : Bt zb) :
    Calls Try.prog 75 #[.slice ao n c, .slice bo m d] w fun en w' => en = .returned (.bool (decide (cmpZ za zb < 0))) ∧ w' = w := by
  have h1 := conv_str ha
  have h2 := conv_str hb
  have HE : Hid (Op.bytesLess (strOfNums za).toList (strOfNums zb).toList = decide (cmpZ za zb < 0)) := by
    show _ = _
    rw [ByteArray.toList_eq, ByteArray.toList_eq, strOfNums_data, strOfNums_data]
    exact less_nums ba bb
  clear ha hb
  go_enter Try.func75, Try.ntmps75
  go_wp2
  go_ret
  exact ⟨by rw [← HE.out]; rfl, rfl⟩

set_option maxHeartbeats 1000000 in
set_option maxRecDepth 100000 in
theorem holds_any (ao : Option Addr) (n c : Nat) (bo : Option Addr) (m d : Nat) (s f : Int) (w : World) (x : It) (hv : x.val.length = m) (hs : x.size = s) (hf : x.first = f) :
    Calls Try.prog 74 #[.agg #[.slice ao n c, .slice bo m d, .int .i64 s, .int .i64 f]] w fun en w' => en = .returned (.bool (!wv x)) ∧ w.grownBy w' none := by
  have HW : Hid (wv x = if 512 < s then decide (m ≠ 0) || decide (f < 2) || decide (524287 ≤ f) else decide ((m : Int) ≠ s) || decide (f ≠ 0)) := by show _ = _; unfold wv; rw [hv, hs, hf]
  have G1 := hid_intro (World.grownBy_alloc w (.cells #[.slice ao n c, .slice bo m d, .int .i64 s, .int .i64 f] 48) none)
  by_cases h5 : 512 < s
  · rw [if_pos h5] at HW
    by_cases h0 : m = 0
    · subst h0
      by_cases h2 : f < 2
      · go_enter Try.func74, Try.ntmps74
        go_wp2
        go_ret
        exact ⟨by rw [HW.out]; simp [h2], G1.out⟩
      · go_enter Try.func74, Try.ntmps74
        go_wp2
        go_ret
        refine ⟨?_, G1.out⟩
        rw [HW.out]
        have h4 : decide (f < 2) = false := decide_eq_false (by omega)
        rw [h4]
        by_cases h3 : 524287 ≤ f
        · have h5 : ¬ f < 524287 := by omega
          simp [h3, h5]
        · have h5 : f < 524287 := by omega
          simp [h3, h5]
    · go_enter Try.func74, Try.ntmps74
      go_wp2
      go_ret
      exact ⟨by rw [HW.out]; simp [h0], G1.out⟩
  · rw [if_neg h5] at HW
    by_cases h0 : (m : Int) = s
    · go_enter Try.func74, Try.ntmps74
      go_wp2
      go_ret
      refine ⟨?_, G1.out⟩
      rw [HW.out]
      by_cases hz : f = 0 <;> simp [h0, hz]
    · go_enter Try.func74, Try.ntmps74
      go_wp2
      go_ret
      exact ⟨by rw [HW.out]; simp [h0], G1.out⟩

/-- None of the first i is so. -/
def NoW (P : It → Bool) (L : List It) (i : Nat) : Prop := (L.take i).any P = false
theorem NoW.zero (P : It → Bool) (L : List It) : NoW P L 0 := by unfold NoW; simp
/-- The first k keys rise. -/
def Rise (L : List It) (n k : Nat) : Prop := ∀ j, j < k → j + 1 < n → cmpZ (L.getD j it0).key (L.getD (j + 1) it0).key < 0

set_option maxHeartbeats 4000000 in
set_option maxRecDepth 100000 in
/-- coppiceref4.Wrong. -/
theorem refWrong_any (a : Option Addr) (n cap : Nat) (L : List It) (w : World) (hl : Il w a L) (hb : Ib L) (hn : L.length = n) (hm : n ≤ 5000) :
    Calls Try.prog 47 #[.slice a n cap] w fun en w' => en = .returned (.int .i64 (wrong L)) ∧ w.grownBy w' none := by
  have HW : Hid (wrong L = if n = 0 then 40 else if L.any ws then 41 else if L.any wv then 40 else if ups L then 0 else 30) := by show _ = _; unfold wrong; rw [hn]
  have HL := hid_intro hl
  have HB := hid_intro hb
  clear hl hb
  by_cases h0 : n = 0
  · rw [if_pos h0] at HW
    go_enter Try.func47, Try.ntmps47
    go_wp2
    go_ret
    exact ⟨by rw [HW.out]; rfl, World.grownBy.refl _ _⟩
  · rw [if_neg h0] at HW
    have hn0 : ((n : Int) == 0) = false := by
      rw [beq_eq_false_iff_ne]
      omega
    go_enter Try.func47, Try.ntmps47
    go_wp2
    go_loopw [3, 4] (fun si _ wr => ∃ i : Nat, i ≤ n ∧ si = .int .i64 i ∧ NoW ws L i ∧ w.grownBy wr none) (fun si _ _ => n - (intOf si).toNat)
    case atStart => exact ⟨0, Nat.zero_le _, rfl, NoW.zero _ _, World.grownBy.refl _ _⟩
    case round =>
      obtain ⟨i, hi, rfl, ha, hg⟩ := hrel
      have HG1 := hid_intro hg
      have HA := hid_intro ha
      clear hg ha
      by_cases hlt : i < n
      · obtain ⟨b, off, ao, m, c, bo, m2, d2, rfl, q2, q3, q4, q5, q6, q7, q8, q9, q10, q11⟩ := HL.out.row i (by omega)
        have c0 := HG1.out.cell q2 (by simp)
        have c1 := HG1.out.cell q3 (by simp)
        have c2 := HG1.out.cell q4 (by simp)
        have c3 := HG1.out.cell q5 (by simp)
        have HX : Hid (ws (L.getD i it0) = false → NoW ws L (i + 1)) := fun e => any_take (by omega) HA.out e
        have HY : Hid (ws (L.getD i it0) = true → L.any ws = true) := fun e => any_yes (by omega) e
        have HWS : Hid (ws (L.getD i it0) = (!(decide (1 ≤ m) && decide (m ≤ 255)) || decide ((L.getD i it0).size < 0) || decide (262144 < (L.getD i it0).size))) := by show _ = _; unfold ws; rw [q6.len]
        clear q2 q3 q4 q5 q6 q9
        generalize (L.getD i it0).size = sz at *
        generalize (L.getD i it0).first = fs at *
        generalize ws (L.getD i it0) = bb at *
        have G2 := hid_intro (grown_trans HG1.out (World.grownBy_alloc wr (.cells #[.slice ao m c, .slice bo m2 d2, .int .i64 sz, .int .i64 fs] 48) none))
        by_cases k1 : m < 1
        · have HY1 := hid_intro (HY.out (by rw [HWS.out]; simp; omega))
          clear HX HY HWS
          go_wp2
          go_ret
          exact ⟨by rw [HW.out, HY1.out]; rfl, G2.out⟩
        · by_cases k2 : 255 < m
          · have HY1 := hid_intro (HY.out (by rw [HWS.out]; simp; omega))
            clear HX HY HWS
            go_wp2
            go_ret
            exact ⟨by rw [HW.out, HY1.out]; rfl, G2.out⟩
          · by_cases k3 : sz < 0
            · have HY1 := hid_intro (HY.out (by rw [HWS.out]; simp [k3]))
              clear HX HY HWS
              go_wp2
              go_ret
              exact ⟨by rw [HW.out, HY1.out]; rfl, G2.out⟩
            · by_cases k4 : 262144 < sz
              · have HY1 := hid_intro (HY.out (by rw [HWS.out]; simp [k4]))
                clear HX HY HWS
                go_wp2
                go_ret
                exact ⟨by rw [HW.out, HY1.out]; rfl, G2.out⟩
              · have HX1 := hid_intro (HX.out (by rw [HWS.out]; simp [k3, k4]; omega))
                clear HX HY HWS
                go_wp2
                go_roundw
                case rel => exact ⟨i + 1, by omega, by go_num, HX1.out, G2.out⟩
                case measure => simp [intOf]; omega
      · have hin : n = i := by omega
        subst hin
        have HA1 : Hid (L.any ws = false) := by
          have := HA.out
          unfold NoW at this
          rwa [← hn, List.take_length] at this
        rw [HA1.out, if_neg (by simp)] at HW
        clear HA HA1
        go_wp2
        go_loopw [2, 5, 6] (fun _ si _ wr => ∃ i : Nat, i ≤ n ∧ si = .int .i64 i ∧ NoW wv L i ∧ w.grownBy wr none) (fun _ si _ _ => n - (intOf si).toNat)
        case atStart => exact ⟨0, Nat.zero_le _, rfl, NoW.zero _ _, HG1.out⟩
        case round =>
          obtain ⟨j, hj, rfl, ha, hg⟩ := hrel
          have HG2 := hid_intro hg
          have HA := hid_intro ha
          clear hg ha HG1
          by_cases hlt2 : j < n
          · obtain ⟨b, off, ao, m, c, bo, m2, d2, rfl, q2, q3, q4, q5, q6, q7, q8, q9, q10, q11⟩ := HL.out.row j (by omega)
            have c0 := HG2.out.cell q2 (by simp)
            have c1 := HG2.out.cell q3 (by simp)
            have c2 := HG2.out.cell q4 (by simp)
            have c3 := HG2.out.cell q5 (by simp)
            have HX : Hid (wv (L.getD j it0) = false → NoW wv L (j + 1)) := fun e => any_take (by omega) HA.out e
            have HY : Hid (wv (L.getD j it0) = true → L.any wv = true) := fun e => any_yes (by omega) e
            have HC := hid_intro (fun (W : World) => holds_any ao m c bo m2 d2 (L.getD j it0).size (L.getD j it0).first W (L.getD j it0) q9.len rfl rfl)
            clear q2 q3 q4 q5 q6 q9
            generalize (L.getD j it0).size = sz at *
            generalize (L.getD j it0).first = fs at *
            generalize wv (L.getD j it0) = bb at *
            go_wp2_with fail
            refine (HC.out _).mono ?_
            rintro en w2 ⟨rfl, hg2⟩
            have HG3 := hid_intro (grown_trans HG2.out hg2)
            clear hg2
            cases bb with
            | true =>
              have HY1 := hid_intro (HY.out rfl)
              clear HX HY
              go_wp2
              go_ret
              exact ⟨by rw [HW.out, HY1.out]; rfl, HG3.out⟩
            | false =>
              have HX1 := hid_intro (HX.out rfl)
              clear HX HY
              go_wp2
              go_roundw
              case rel => exact ⟨j + 1, by omega, by go_num, HX1.out, HG3.out⟩
              case measure => simp [intOf]; omega
          · have hjn : n = j := by omega
            subst hjn
            have HA1 : Hid (L.any wv = false) := by
              have := HA.out
              unfold NoW at this
              rwa [← hn, List.take_length] at this
            rw [HA1.out, if_neg (by simp)] at HW
            clear HA HA1
            go_wp2
            go_loopw [2, 7, 8] (fun _ si _ wr => ∃ k : Nat, k ≤ n ∧ si = .int .i64 ((k + 1 : Nat) : Int) ∧ Rise L n k ∧ w.grownBy wr none) (fun _ si _ _ => n + 1 - (intOf si).toNat)
            case atStart => exact ⟨0, Nat.zero_le _, rfl, fun j hj => by omega, HG2.out⟩
            case round =>
              obtain ⟨k, hk, rfl, ha, hg⟩ := hrel
              have HG := hid_intro hg
              have HA := hid_intro ha
              clear hg ha HG2
              by_cases hlt3 : k + 1 < n
              · obtain ⟨b, off, ao, m, c, bo, m2, d2, rfl, q2, q3, q4, q5, q6, q7, q8, q9, q10, q11⟩ := HL.out.row k (by omega)
                obtain ⟨b', off', ao', m', c', bo', m2', d2', e1, r2, r3, r4, r5, r6, r7, r8, r9, r10, r11⟩ := HL.out.row (k + 1) (by omega)
                simp only [Option.some.injEq, Addr.mk.injEq] at e1
                obtain ⟨rfl, rfl, _⟩ := e1
                have c0 := HG.out.cell q2 (by simp)
                have c1 := HG.out.cell r2 (by simp)
                have HC := hid_intro (fun (W : World) (hW : W.heap = wr.heap) => less_any ao ao' m m' c c' _ _ W ((q6.keptN HG.out).heap hW) ((r6.keptN HG.out).heap hW) (HB.out.at (by omega)).key (HB.out.at (by omega)).key)
                have HD : Hid (cmpZ (L.getD k it0).key (L.getD (k + 1) it0).key < 0 → Rise L n (k + 1)) := by
                  intro h j hj hj2
                  by_cases e : j = k
                  · subst e; exact h
                  · exact HA.out j (by omega) hj2
                have HE : Hid (¬ cmpZ (L.getD k it0).key (L.getD (k + 1) it0).key < 0 → ups L = false) := by
                  intro h
                  cases hu : ups L with
                  | false => rfl
                  | true => exact absurd ((ups_iff L).1 hu k (by omega)) h
                clear q2 q3 q4 q5 q6 q9 r2 r3 r4 r5 r6 r9
                generalize cmpZ (L.getD k it0).key (L.getD (k + 1) it0).key = z at *
                have g1 : ((k + 1 : Nat) : Int) < (n : Int) := by omega
                have g0 : (0 : Int) ≤ ((k + 1 : Nat) : Int) := by omega
                have g2 : ((k + 1 : Nat) : Int) - 1 = (k : Int) := by omega
                have g3 : (k : Int) < (n : Int) := by omega
                have g4 : (0 : Int) ≤ (k : Int) := by omega
                obtain ⟨q, hq⟩ : ∃ q, k + 1 = q := ⟨_, rfl⟩
                rw [hq] at g1 g0 g2 c1 ⊢
                have HJ := hid_intro hq
                clear hq
                by_cases hz : z < 0
                · have hz' : decide (z < 0) = true := decide_eq_true hz
                  rw [hz'] at HC
                  go_wp2
                  go_quiet ((go_at_call 75; exact Calls.quiet_of_same (HC.out _ rfl)))
                  go_wp2
                  go_roundw
                  case rel => exact ⟨k + 1, by omega, by have := HJ.out; go_num, HD.out hz, grown_trans HG.out ((Qt.drewN _ _).grown _)⟩
                  case measure => have := HJ.out; simp [intOf]; omega
                · have hz' : decide (z < 0) = false := decide_eq_false hz
                  rw [hz'] at HC
                  go_wp2
                  go_quiet ((go_at_call 75; exact Calls.quiet_of_same (HC.out _ rfl)))
                  go_wp2
                  go_ret
                  exact ⟨by rw [HW.out, HE.out hz]; rfl, grown_trans HG.out ((Qt.drewN _ _).grown _)⟩
              · have g1 : ¬ ((k + 1 : Nat) : Int) < (n : Int) := by omega
                obtain ⟨q, hq⟩ : ∃ q, k + 1 = q := ⟨_, rfl⟩
                rw [hq] at g1 ⊢
                have HU : Hid (ups L = true) := (ups_iff L).2 (fun r hr => HA.out r (by omega) (by omega))
                go_wp2
                go_ret
                exact ⟨by rw [HW.out, HU.out]; rfl, HG.out⟩
end Go.Proofs.Ytlfhonlifgpnhaa
