import Derived.Test.YtjipibblmccjhaaGreatDoorKeys2
namespace Go.Proofs.YtjipibblmccjhaaGreatDoor
open Go.RowKit

theorem grown_dr {a b c : World} {row : Option Nat} (h : Dr a b) (k : b.grownBy c row) : a.grownBy c row := grown_trans (h.qt.grown row) k

set_option maxHeartbeats 400000 in
set_option maxRecDepth 100000 in
theorem num3_any (n : Int) (w : World) : Calls Tryz.prog 12 #[.int .i64 n] w fun en w' => en = .returned (.int .i64 n) ∧ w' = w := by
  go_enter Tryz.func12, Tryz.ntmps12
  go_wp2
  go_ret
  exact ⟨rfl, rfl⟩

set_option maxHeartbeats 400000 in
set_option maxRecDepth 100000 in
/-- bytes.Clone of at least one byte: new memory. -/
theorem clone_any (ad : Addr) (n c : Nat) (zs : List Int) (w : World) (hb : Byt w (some ad) n c zs) (h0 : 0 < n) (hn : n ≤ 140737488355328) :
    Calls Tryz.prog 20 #[.slice (some ad) n c] w fun en w' => ∃ g cap, en = .returned (.slice (some ⟨g, 0, none⟩) n cap) ∧ w'.ownsRow w.heap.size 5 1 (.slice (some ⟨g, 0, none⟩) n cap) n (zs.map (Value.int .u8)) ∧ w.grownBy w' none := by
  obtain ⟨i0, hi, hz0, hz1, hz2⟩ := info_parts info_u8
  have HB := hid_intro hb
  clear hb
  have q22 : ∀ (w : World) (a : Option Addr) (n c n' c' : Nat), (binOp .eql 40 (.slice a n c) (.slice none n' c')).run Tryz.prog w = .ok (.bool a.isNone) w := fun w a n c n' c' => Lib.run_eql_slice_nil w _ _ a n c n' c' Tryz.underlying40
  go_enter Tryz.func20, Tryz.ntmps20
  go_wp2_with (at_builtin; refine wpList_append_own _ rfl _ _ 40 rfl w.heap.size 5 i0 (.int .u8 0) 1 1 Tryz.underlying40 hi hz0 hz1 hz2 rfl (by decide) _ _ _ rfl (World.ownsRow_made w #[] 0 (Nat.le_refl _) (Nat.zero_le _) rfl) ad n c (zs.map (Value.int .u8)) rfl ?qc1 ?qc2 ?qc3 ?qc4 ?qc5 ?qc6 ?_)
  case qc1 => rw [List.length_map, HB.out.len, Nat.mul_one]
  case qc2 => exact (HB.out.keptN (World.grownBy_alloc w _ none)).cells ad rfl
  case qc3 => exact ints_oneCell _ _
  case qc4 => unfold maxLen; omega
  case qc5 => omega
  case qc6 => simp
  intro v' w1 hown hgrow hnil
  have hown' : w1.ownsRow w.heap.size 5 1 v' n (zs.map (Value.int .u8)) := by simpa using hown
  obtain ⟨g, cap, rfl, hg1, _, _⟩ := owns_shape hown' h0
  have HO := hid_intro hown'
  have HG : Hid (w.grownBy w1 none) := grown_new (World.grownBy_alloc w (.cells #[] 5) none) (by simpa [Value.ownBlock] using hgrow) (Nat.le_refl _)
  clear hown hown' hgrow hnil
  go_wp2
  go_ret
  exact ⟨g, cap, rfl, HO.out, HG.out⟩

set_option maxHeartbeats 400000 in
set_option maxRecDepth 100000 in
theorem sep_no (ao bo : Option Addr) (n m c d : Nat) (za zb : List Int) (w : World) (ha : Byt w ao n c za) (hb : Byt w bo m d zb) (ba : Bt za) (bb : Bt zb) (h : 0 ≤ cmpZ za zb) :
    Calls Tryz.prog 6 #[.slice ao n c, .slice bo m d] w fun en w' => en = .returned (.tuple #[.slice none 0 0, .int .i64 30]) ∧ w' = w := by
  have HA := hid_intro ha
  have HB := hid_intro hb
  clear ha hb
  go_enter Tryz.func6, Tryz.ntmps6
  go_wp2_with fail
  refine (compare_any ao bo n m c d za zb w HA.out HB.out ba bb).mono ?_
  rintro en w' ⟨rfl, rfl⟩
  go_wp2
  go_ret2
  exact ⟨rfl, rfl⟩

theorem neg_of {x : Int} (h : ¬ 0 ≤ x) : x < 0 := by omega

/-- Where a separator ends. -/
theorem sep_room {a b : List Int} (h : cmpZ a b < 0) : com a b + 1 ≤ b.length := com_lt h

set_option maxHeartbeats 1000000 in
set_option maxRecDepth 100000 in
theorem sep_yes (ao bo : Option Addr) (n m c d : Nat) (za zb : List Int) (w : World) (ha : Byt w ao n c za) (hb : Byt w bo m d zb) (ba : Bt za) (bb : Bt zb) (hn : n ≤ 9223372036854775807) (hm : m ≤ 140737488351232) (hd : m ≤ d) (h : cmpZ za zb < 0) :
    Calls Tryz.prog 6 #[.slice ao n c, .slice bo m d] w fun en w' => ∃ g cap, en = .returned (.tuple #[.slice (some ⟨g, 0, none⟩) (com za zb + 1) cap, .int .i64 0]) ∧
      w'.ownsRow w.heap.size 5 1 (.slice (some ⟨g, 0, none⟩) (com za zb + 1) cap) (com za zb + 1) ((zb.take (com za zb + 1)).map (Value.int .u8)) ∧ w.grownBy w' none := by
  have hl2 := hb.len
  have hr := sep_room h
  rw [hl2] at hr
  obtain ⟨b2, o2, rfl, hbs, _⟩ := hb.at (by omega)
  have HA := hid_intro ha
  have HB := hid_intro hb
  have HT := hid_intro (hb.take (com za zb + 1) d hr (fun e => by cases e))
  clear ha hb
  have hge : ¬ 0 ≤ cmpZ za zb := by omega
  obtain ⟨k, hk⟩ : ∃ k, com za zb = k := ⟨_, rfl⟩
  rw [hk] at hr HT ⊢
  have HK := hid_intro hk
  clear hk
  go_enter Tryz.func6, Tryz.ntmps6
  go_wp2_with fail
  refine (compare_any ao _ n m c d za zb w HA.out HB.out ba bb).mono ?_
  rintro en w' ⟨rfl, rfl⟩
  go_wp2_with fail
  refine (common_any ao _ n m c d za zb w' HA.out HB.out hn (by omega)).mono ?_
  rintro en w1 ⟨rfl, hq⟩
  rw [HK.out]
  have HQ := hid_intro hq
  clear hq
  go_wp2_with fail
  refine (clone_any _ (k + 1) d _ w1 (HT.out.heap HQ.out.qt.heap) (by omega) (by omega)).mono ?_
  rintro en w2 ⟨g, cap, rfl, ho, hg⟩
  have HO := hid_intro ho
  have HG := hid_intro (grown_dr HQ.out hg)
  clear ho hg
  go_wp2
  go_ret2
  exact ⟨g, cap, rfl, by have h1 := HQ.out.qt.heap; have h2 := HO.out; rw [h1] at h2; exact h2, HG.out⟩

set_option maxHeartbeats 400000 in
set_option maxRecDepth 100000 in
theorem refSep_no (ao bo : Option Addr) (n m c d : Nat) (za zb : List Int) (w : World) (ha : Byt w ao n c za) (hb : Byt w bo m d zb) (hn : n ≤ 9223372036854775807) (hm : m ≤ 9223372036854775807) (h : 0 ≤ cmpZ za zb) :
    Calls Tryz.prog 7 #[.slice ao n c, .slice bo m d] w fun en w' => en = .returned (.tuple #[.slice none 0 0, .int .i64 30]) ∧ Qt w w' := by
  have HA := hid_intro ha
  have HB := hid_intro hb
  clear ha hb
  go_enter Tryz.func7, Tryz.ntmps7
  go_wp2_with fail
  refine (refCompare_any ao bo n m c d za zb w HA.out HB.out hn hm).mono ?_
  rintro en w' ⟨rfl, hq⟩
  have HQ := hid_intro hq
  clear hq
  go_wp2
  go_ret2
  exact ⟨rfl, HQ.out⟩

set_option maxHeartbeats 1000000 in
set_option maxRecDepth 100000 in
theorem refSep_yes (ao bo : Option Addr) (n m c d : Nat) (za zb : List Int) (w : World) (ha : Byt w ao n c za) (hb : Byt w bo m d zb) (hn : n ≤ 9223372036854775807) (hm : m ≤ 140737488351232) (hd : m ≤ d) (h : cmpZ za zb < 0) :
    Calls Tryz.prog 7 #[.slice ao n c, .slice bo m d] w fun en w' => ∃ g, en = .returned (.tuple #[.slice (some ⟨g, 0, none⟩) (com za zb + 1) (com za zb + 1), .int .i64 0]) ∧
      Byt w' (some ⟨g, 0, none⟩) (com za zb + 1) (com za zb + 1) (zb.take (com za zb + 1)) ∧ w.grownBy w' none := by
  have hl2 := hb.len
  have hr := sep_room h
  rw [hl2] at hr
  obtain ⟨b2, o2, rfl, hbs, _⟩ := hb.at (by omega)
  have HA := hid_intro ha
  have HB := hid_intro hb
  have HT := hid_intro (hb.take (com za zb + 1) d hr (fun e => by cases e))
  clear ha hb
  have hge : ¬ 0 ≤ cmpZ za zb := by omega
  obtain ⟨k, hk⟩ : ∃ k, com za zb = k := ⟨_, rfl⟩
  rw [hk] at hr HT ⊢
  have HK := hid_intro hk
  clear hk
  go_enter Tryz.func7, Tryz.ntmps7
  go_wp2_with fail
  refine (refCompare_any ao _ n m c d za zb w HA.out HB.out hn (by omega)).mono ?_
  rintro en w0 ⟨rfl, hq0⟩
  have HQ0 := hid_intro hq0
  clear hq0
  go_wp2_with fail
  refine (refCommon_any ao _ n m c d za zb w0 (HA.out.heap HQ0.out.heap) (HB.out.heap HQ0.out.heap) hn (by omega)).mono ?_
  rintro en w1 ⟨rfl, hq⟩
  rw [HK.out]
  have HQ := hid_intro (HQ0.out.trans hq.qt)
  clear hq
  go_wp2_with fail
  refine (refBytes_any _ (k + 1) d _ w1 (HT.out.heap HQ.out.heap) (by omega)).mono ?_
  rintro en w2 ⟨rfl, ho, hg, _⟩
  have HO := hid_intro (Byt.of_owns ho)
  have HG := hid_intro (grown_trans (HQ.out.grown none) hg)
  clear ho hg
  go_wp2
  go_ret2
  exact ⟨_, rfl, HO.out, HG.out⟩

theorem ret_bool {x y : Bool} (h : x = y) : Ending.returned (Value.bool x) = .returned (.bool y) := by rw [h]

/-- A string of 1 to 255 bytes. -/
def valid (n : Nat) : Bool := decide (1 ≤ n) && decide (n ≤ 255)
/-- Not ahead of lo, and ahead of hi or hi is empty. -/
def within (k lo hi : List Int) : Bool := decide (0 ≤ cmpZ k lo) && (hi.length == 0 || decide (cmpZ k hi < 0))

set_option maxHeartbeats 400000 in
set_option maxRecDepth 100000 in
theorem valid_any (ao : Option Addr) (n c : Nat) (w : World) : Calls Tryz.prog 17 #[.slice ao n c] w fun en w' => en = .returned (.bool (valid n)) ∧ w' = w := by
  have HV1 : Hid (1 ≤ n → decide ((n : Int) ≤ 255) = valid n) := fun h => by unfold valid; rw [decide_eq_true h, Bool.true_and]; exact decide_eq_decide.2 (by omega)
  have HV2 : Hid (¬ 1 ≤ n → false = valid n) := fun h => by unfold valid; rw [decide_eq_false h]; rfl
  by_cases h1 : 1 ≤ n
  · go_enter Tryz.func17, Tryz.ntmps17
    go_wp2
    go_ret
    exact ⟨ret_bool (HV1.out h1), rfl⟩
  · go_enter Tryz.func17, Tryz.ntmps17
    go_wp2
    go_ret
    exact ⟨ret_bool (HV2.out h1), rfl⟩

theorem within_1 {k lo hi : List Int} (h1 : ¬ 0 ≤ cmpZ k lo) : within k lo hi = false := by unfold within; rw [decide_eq_false h1, Bool.false_and]
theorem within_2 {k lo hi : List Int} (h1 : 0 ≤ cmpZ k lo) (h2 : hi.length = 0) : within k lo hi = true := by unfold within; rw [decide_eq_true h1, h2, Bool.true_and, beq_self_eq_true, Bool.true_or]
theorem within_3 {k lo hi : List Int} (h1 : 0 ≤ cmpZ k lo) (h3 : cmpZ k hi < 0) : within k lo hi = true := by unfold within; rw [decide_eq_true h1, decide_eq_true h3, Bool.or_true, Bool.and_true]
theorem within_4 {k lo hi : List Int} (h2 : hi.length ≠ 0) (h3 : ¬ cmpZ k hi < 0) : within k lo hi = false := by unfold within; rw [decide_eq_false h3, beq_eq_false_iff_ne.2 h2, Bool.or_false, Bool.and_false]

set_option maxHeartbeats 2000000 in
set_option maxRecDepth 100000 in
theorem within_any (ao bo co : Option Addr) (n m r c d e : Nat) (za zb zc : List Int) (w : World) (ha : Byt w ao n c za) (hb : Byt w bo m d zb) (hc : Byt w co r e zc) (ba : Bt za) (bb : Bt zb) (bc : Bt zc) :
    Calls Tryz.prog 18 #[.slice ao n c, .slice bo m d, .slice co r e] w fun en w' => en = .returned (.bool (within za zb zc)) ∧ w' = w := by
  have hl := hc.len
  have HA := hid_intro ha
  have HB := hid_intro hb
  have HC := hid_intro hc
  clear ha hb hc
  by_cases h1 : 0 ≤ cmpZ za zb
  · by_cases h2 : r = 0
    · have HW := hid_intro (within_2 h1 (hl.trans h2))
      go_enter Tryz.func18, Tryz.ntmps18
      go_wp2_with fail
      refine (compare_any ao bo n m c d za zb w HA.out HB.out ba bb).mono ?_
      rintro en w' ⟨rfl, rfl⟩
      go_wp2
      go_ret
      exact ⟨ret_bool (by first | (rw [HW.out]; done) | (rw [HW.out]; simp; omega)), rfl⟩
    · by_cases h3 : cmpZ za zc < 0
      · have HW := hid_intro (within_3 h1 h3)
        go_enter Tryz.func18, Tryz.ntmps18
        go_wp2_with fail
        refine (compare_any ao bo n m c d za zb w HA.out HB.out ba bb).mono ?_
        rintro en w' ⟨rfl, rfl⟩
        go_wp2_with fail
        refine (compare_any ao co n r c e za zc _ HA.out HC.out ba bc).mono ?_
        rintro en w' ⟨rfl, rfl⟩
        go_wp2
        go_ret
        exact ⟨ret_bool (by first | (rw [HW.out]; done) | (rw [HW.out]; simp [h3]; done) | (rw [HW.out]; simp; omega)), rfl⟩
      · have HW := hid_intro (within_4 (lo := zb) (by rw [hl]; exact h2) h3)
        go_enter Tryz.func18, Tryz.ntmps18
        go_wp2_with fail
        refine (compare_any ao bo n m c d za zb w HA.out HB.out ba bb).mono ?_
        rintro en w' ⟨rfl, rfl⟩
        go_wp2_with fail
        refine (compare_any ao co n r c e za zc _ HA.out HC.out ba bc).mono ?_
        rintro en w' ⟨rfl, rfl⟩
        go_wp2
        go_ret
        exact ⟨ret_bool (by first | (rw [HW.out]; done) | (rw [HW.out]; simp [h3]; done) | (rw [HW.out]; simp; omega)), rfl⟩
  · have HW := hid_intro (within_1 (hi := zc) h1)
    go_enter Tryz.func18, Tryz.ntmps18
    go_wp2_with fail
    refine (compare_any ao bo n m c d za zb w HA.out HB.out ba bb).mono ?_
    rintro en w' ⟨rfl, rfl⟩
    go_wp2
    go_ret
    exact ⟨ret_bool (by first | (rw [HW.out]; done) | (rw [HW.out]; simp; omega)), rfl⟩

end Go.Proofs.YtjipibblmccjhaaGreatDoor
