import Derived.Test.YtdoclmmghdaaaaaGreatDoorSf5
import Derived.Test.YtdoclmmghdaaaaaGreatDoorSrL
namespace Go.Proofs.YtdoclmmghdaaaaaGreatDoor
open Go.RowKit

set_option maxHeartbeats 16000000 in
set_option maxRecDepth 100000 in
theorem scriptParses_walk (T : List UInt8) (w : World) (hL : Lv w) : Calls Tryz.prog 3 #[.string (tstr T)] w fun en w' => en = .returned (.bool true) ∧ w.grownBy w' none := by
  have HL : Hid (Lv w) := hL
  have HF := hid_intro (first23_any w hL)
  have hT := tstr_size T
  clear hL
  by_cases h1 : T.length ≤ 2097152
  · have t1 : ¬ (2097152 : Int) < ((tstr T).size : Int) := by omega
    have HP := hid_intro (fun W hW => parse_any T W hW (by omega))
    have HQ := hid_intro (fun W => refParse23 T W (by omega))
    have HFT := hid_intro (fun (n : Int) (lq : List Opq) (h : psc T = .ok (n, lq)) => psc_fit h)
    clear hT h1
    generalize tstr T = sT at *
    go_enter Tryz.func3, Tryz.ntmps3
    go_wp2_with fail
    refine HF.out.mono ?_
    rintro en w1 ⟨rfl, hg1⟩
    have G1 := hid_intro hg1
    clear hg1
    go_wp2_with fail
    refine (HP.out _ (HL.out.keptN G1.out)).mono ?_
    rintro en w9 ⟨hg9, hr9⟩
    rcases hr9 with ⟨n, lq, v, xs, r1, rfl, ho, hol⟩ | ⟨kk, e, r1, r2, rfl⟩
    · obtain ⟨a, c, hv⟩ := own_shape20 ho
      subst hv
      obtain ⟨f1, _, f3⟩ := HFT.out _ _ r1
      have R9 := hid_intro (hol.opsR ho)
      have HSS := hid_intro (fun a b c d W ha hb => sameScript_any n n a b c d lq lq W ha hb f1 (by omega))
      have gA := World.grownBy_alloc w9 (.cells #[.int .i64 n, .slice a lq.length c] 25) none
      have XA := hid_intro (heap_at0S w9 #[.int .i64 n, .slice a lq.length c] 25)
      have GA := hid_intro (grown_trans (grown_trans G1.out hg9) gA)
      have RA := hid_intro (R9.out.keptN gA)
      have HR1 := hid_intro r1
      obtain ⟨m, hm⟩ : ∃ m, lq.length = m := ⟨_, rfl⟩
      rw [hm] at gA XA GA RA HSS ⊢
      have HM := hid_intro hm
      clear ho hol gA r1 f1 f3 hg9 R9 hm
      go_upto_region 5 with fail
      generalize w9.alloc (.cells #[.int .i64 n, .slice a m c] 25) = wA at *
      generalize w9.heap.size = KA at *
      go_wp2_with fail
      refine (HQ.out _).mono ?_
      rintro en w10 ⟨hg10, hr10⟩
      rcases hr10 with ⟨n', lq', v', xs', r1', rfl, ho', hol'⟩ | ⟨_, _, r1', _, _⟩
      · rw [HR1.out] at r1'
        cases r1'
        rw [HM.out] at ho'
        obtain ⟨a', c', hv'⟩ := own_shape20 ho'
        subst hv'
        rw [← HM.out] at ho'
        have hop := hol'.opsR ho'
        have gB := World.grownBy_alloc w10 (.cells #[.int .i64 n, .slice a' m c'] 25) none
        have GB := hid_intro (grown_trans hg10 gB)
        have RB := hid_intro (hop.keptN gB)
        have RA2 := hid_intro (RA.out.keptN GB.out)
        have XB := heap_keptS XA.out GB.out
        have d0 := cell_heapS (i := 0) XB rfl
        have d1 := cell_heapS (i := 1) XB rfl
        clear ho' hol' gB hg10 XB hop
        go_wp2_with fail
        refine (HSS.out a a' c c' _ RA2.out RB.out).mono ?_
        rintro en w11 ⟨b, rfl, hb, hg11⟩
        have hbt : b = true := hb.2 (by first | exact ⟨rfl, rfl⟩ | trivial | simp)
        subst hbt
        have G11 := hid_intro (grown_trans GA.out (grown_trans GB.out hg11))
        clear hb hg11 d0 d1
        go_wp2_with (go_at_call 10; refine (num23_any _ _).mono ?_; rintro en wz ⟨rfl, rfl⟩)
        go_ret
        exact ⟨rfl, G11.out⟩
      · rw [HR1.out] at r1'; cases r1'
    · have HSS : Hid (∀ W, Calls Tryz.prog 9 #[.agg #[.int .i64 0, .slice none 0 0], .agg #[.int .i64 0, .slice none 0 0]] W fun en w' => ∃ b, en = .returned (.bool b) ∧ (b = true ↔ ((0 : Int) = 0 ∧ ([] : List Opq) = [])) ∧ W.grownBy w' none) := fun W => sameScript_any 0 0 none none 0 0 [] [] W (fun i o h => by simp at h) (fun i o h => by simp at h) (fun o h => by cases h) (by decide)
      have gA := World.grownBy_alloc w9 (.cells #[.int .i64 0, .slice none 0 0] 25) none
      have XA := hid_intro (heap_at0S w9 #[.int .i64 0, .slice none 0 0] 25)
      have GA := hid_intro (grown_trans (grown_trans G1.out hg9) gA)
      have HR1 := hid_intro r1
      clear gA r1 r2 hg9
      go_upto_region 5 with fail
      generalize w9.alloc (.cells #[.int .i64 0, .slice none 0 0] 25) = wA at *
      generalize w9.heap.size = KA at *
      go_wp2_with fail
      refine (HQ.out _).mono ?_
      rintro en w10 ⟨hg10, hr10⟩
      rcases hr10 with ⟨_, _, _, _, r1', _⟩ | ⟨k', e', r1', _, rfl⟩
      · rw [HR1.out] at r1'; cases r1'
      · rw [HR1.out] at r1'
        cases r1'
        have gB := World.grownBy_alloc w10 (.cells #[.int .i64 0, .slice none 0 0] 25) none
        have GB := hid_intro (grown_trans hg10 gB)
        have XB := heap_keptS XA.out GB.out
        have d0 := cell_heapS (i := 0) XB rfl
        have d1 := cell_heapS (i := 1) XB rfl
        clear gB hg10 XB
        go_wp2_with fail
        refine (HSS.out _).mono ?_
        rintro en w11 ⟨b, rfl, hb, hg11⟩
        have hbt : b = true := hb.2 (by first | exact ⟨rfl, rfl⟩ | trivial | simp)
        subst hbt
        have G11 := hid_intro (grown_trans GA.out (grown_trans GB.out hg11))
        clear hb hg11 d0 d1
        go_wp2_with (go_at_call 10; refine (num23_any _ _).mono ?_; rintro en wz ⟨rfl, rfl⟩)
        go_ret
        exact ⟨rfl, G11.out⟩
  · have t1 : (2097152 : Int) < ((tstr T).size : Int) := by omega
    clear hT h1
    generalize tstr T = sT at *
    go_enter Tryz.func3, Tryz.ntmps3
    go_wp2_with fail
    refine HF.out.mono ?_
    rintro en w1 ⟨rfl, hg1⟩
    have G1 := hid_intro hg1
    clear hg1
    go_wp2
    go_ret
    exact ⟨rfl, G1.out⟩
theorem scriptParses_walkS (s : ByteArray) (w : World) (hL : Lv w) : Calls Tryz.prog 3 #[.string s] w fun en w' => en = .returned (.bool true) ∧ w.grownBy w' none := by
  have h := scriptParses_walk s.data.toList w hL
  rw [tstr_mk] at h
  exact h
end Go.Proofs.YtdoclmmghdaaaaaGreatDoor
