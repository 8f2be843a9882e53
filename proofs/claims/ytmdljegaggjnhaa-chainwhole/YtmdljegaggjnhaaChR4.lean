import Derived.Test.YtmdljegaggjnhaaChR3
namespace Go.Proofs.Ytmdljegaggjnhaa
open Go.RowKit

theorem cell_one6 (w : World) (t : TypeId) (v : Value) : ∀ j u, [v][j]? = some u → (w.alloc (.cells #[v] t)).cell? ((⟨w.heap.size, 0, none⟩ : Addr).add j) = some u := by
  intro j u hu
  cases j with
  | zero =>
    simp only [List.getElem?_cons_zero, Option.some.injEq] at hu
    subst hu
    rw [Addr.add_lit]
    have := cell_of_row (w.alloc (.cells #[v] t)) w.heap.size 0 _ t (0, 0) (heap_alloc_new w _)
    rw [this]; rfl
  | succ j => simp at hu
theorem owns_nt {w : World} {base n : Nat} {v : Value} {xs : List Int} (h : w.ownsRow base 3 1 v n (xs.map (Value.int .i64))) :
    ∃ ao cap, v = .slice ao n cap ∧ Nt w ao xs ∧ xs.length = n := by
  have hl : xs.length = n := by have := h.1; simpa using this
  rcases h.2 with ⟨rfl, rfl⟩ | ⟨g, cap, cur, rfl, _⟩
  · obtain rfl : xs = [] := List.length_eq_zero_iff.1 hl
    exact ⟨none, 0, rfl, Nt.zero _ _, rfl⟩
  · refine ⟨_, cap, rfl, ⟨fun i hi => ⟨g, 0, rfl, ?_⟩⟩, hl⟩
    rw [Nat.zero_add, h.cellAt i (by omega)]
    simp [List.getD, List.getElem?_eq_getElem hi]

set_option maxHeartbeats 2000000 in
set_option maxRecDepth 100000 in
theorem refDecodeList_any (ao : Option Addr) (n cap : Nat) (zs : List Int) (w : World) (hb : Byt w ao n cap zs) (hbt : Bt zs) :
    Calls Try.prog 24 #[.slice ao n cap] w fun en w' => ∃ bo m c, en = .returned (.tuple #[.int .i64 (uN zs), .slice bo m c, .int .i64 (uE zs)]) ∧ Nt w' bo (uL zs) ∧ (uL zs).length = m ∧ w.grownBy w' none := by
  obtain ⟨i1, hi1, hj0, hj1, hj2⟩ := info_parts info_int6
  have hl := hb.len
  have HB := hid_intro hb
  clear hb
  by_cases h0 : n = 4092
  · subst h0
    have HIF := hid_intro (dL_iff hl)
    have HPA := hid_intro (fun h => (dL_parts (bs := zs) h).2.1)
    obtain ⟨x, hx⟩ : ∃ x, x = rN zs := ⟨_, rfl⟩
    obtain ⟨c, hc⟩ : ∃ c, c = rC zs := ⟨_, rfl⟩
    have HX := hid_intro hx
    have HC := hid_intro hc
    have hc2 : c < 65536 := by rw [hc]; exact rC_lt hbt
    rw [← hc] at HIF HPA
    clear hx hc
    go_enter Try.func24, Try.ntmps24
    go_wp2_with fail
    refine (read_any _ 4092 cap 1 4 1 zs _ HB.out hbt (by omega) (by omega) (by omega) rfl).mono ?_
    rintro en w ⟨rfl, rfl⟩
    have hx : (le 4 (zs.drop 1) : Nat) = x := HX.out.symm
    rw [hx]
    clear hx
    go_wp2_with fail
    refine (read_any _ 4092 cap 5 2 5 zs _ HB.out hbt (by omega) (by omega) (by omega) rfl).mono ?_
    rintro en w ⟨rfl, rfl⟩
    have hc : (le 2 (zs.drop 5) : Nat) = c := HC.out.symm
    rw [hc]
    clear hc
    by_cases hbig : 1021 < c
    · have HT : Hid (dL zs = false) := by
        cases hh : dL zs with
        | false => rfl
        | true => have := HPA.out hh; omega
      have hbig' : (1021 : Int) < (c : Int) := by omega
      go_wp2
      go_ret3
      rw [(u_no HT.out).1, (u_no HT.out).2.1, (u_no HT.out).2.2]
      exact ⟨none, 0, 0, rfl, Nt.zero _ _, rfl, World.grownBy.refl _ _⟩
    · have hbig' : ¬ (1021 : Int) < (c : Int) := by omega
      rw [Nat.min_eq_left (show c ≤ 1021 by omega)] at HIF
      clear HPA
      go_wp2
      go_loopw [7, 8, 9] (fun out si _ wr => ∃ i : Nat, i ≤ c ∧ si = .int .i64 i ∧ wr.ownsRow w.heap.size 3 1 out i ((rL zs i).map (Value.int .i64)) ∧ w.grownBy wr none) (fun _ si _ _ => c - (intOf si).toNat)
      case atStart => exact ⟨0, Nat.zero_le _, rfl, World.ownsRow_nil _ _ _ _, World.grownBy.refl _ _⟩
      case round =>
        obtain ⟨i, hi, rfl, ho, hg⟩ := hrel
        have O1 := hid_intro ho
        have G1 := hid_intro hg
        clear hg
        obtain ⟨ro, rc, hv0, hnt, hln⟩ := owns_nt ho
        subst hv0
        clear ho
        by_cases hlt : i < c
        · clear hnt hln
          have B1 := hid_intro (HB.out.keptN G1.out)
          go_wp2_with fail
          refine (read_any _ 4092 cap (7 + 4 * i) 4 _ zs _ B1.out hbt (by omega) (by omega) (by omega) (by omega)).mono ?_
          rintro en wr ⟨rfl, rfl⟩
          have HS := hid_intro (rL_snoc zs i)
          generalize le 4 (zs.drop (7 + 4 * i)) = v at *
          go_wp2_with (at_builtin; refine wpList_append_own _ rfl _ _ 36 rfl w.heap.size 3 i1 (.int .i64 0) 1 8 Try.underlying36 hi1 hj0 hj1 hj2 rfl (by decide) _ i ((rL zs i).map (Value.int .i64)) rfl (O1.out.alloc _) ⟨wr.heap.size, 0, none⟩ 1 1 [.int .i64 (v : Nat)] rfl rfl (cell_one6 _ _ _) (by intro u hu; simp at hu; subst hu; rfl) (by unfold maxLen; omega) (by omega) (by have := G1.out.size; simp; omega) ?_)
          intro v3 w3 h3 g3 _
          have h3' : w3.ownsRow w.heap.size 3 1 v3 (i + 1) ((rL zs (i + 1)).map (Value.int .i64)) := by
            rw [HS.out, List.map_append]
            exact h3
          have O3 := hid_intro h3'
          have G3 := hid_intro (grown_ownN (grown_trans G1.out (World.grownBy_alloc wr _ none)) g3 (fun g hg => own_lt6 O1.out g hg))
          clear h3 g3 h3' O1 G1 B1
          go_wp2
          go_roundw
          case rel => exact ⟨i + 1, by omega, by go_num, O3.out, G3.out⟩
          case measure => simp [intOf]; omega
        · have hin : i = c := by omega
          subst hin
          have NT := hid_intro hnt
          have B1 := hid_intro (HB.out.keptN G1.out)
          clear hnt O1 HB
          go_wp2_with fail
          refine (refEncodeList_any (x : Int) _ i rc (rL zs i) _ NT.out hln (by omega)).mono ?_
          rintro en w5 ⟨so, k, sc, rfl, hb5, hg5⟩
          have B5 := hid_intro (B1.out.keptN hg5)
          have G5 := hid_intro (grown_trans G1.out hg5)
          have NT5 := hid_intro (NT.out.keptN hg5)
          have S5 := hid_intro hb5
          obtain ⟨er, her⟩ : ∃ er, er = eL (x : Int) (rL zs i) := ⟨_, rfl⟩
          rw [← her]
          have HER := hid_intro her
          clear hg5 G1 B1 NT hb5 her
          by_cases hq : oL (x : Int) (rL zs i) = zs
          · have HQ := hid_intro hq
            clear hq
            go_wp2_with fail
            refine (same_yes so _ k 4092 sc cap _ _ _ S5.out B5.out HQ.out).mono ?_
            rintro en w6 ⟨rfl, rfl⟩
            by_cases he : er = 0
            · subst he
              have HT : Hid (dL zs = true) := HIF.out.2 ⟨by rw [← HX.out]; exact HER.out.symm, by rw [← HX.out]; exact HQ.out⟩
              go_wp2
              go_ret3
              rw [(u_yes HT.out).1, (u_yes HT.out).2.1, (u_yes HT.out).2.2, ← HX.out, ← HC.out]
              exact ⟨_, _, _, rfl, NT5.out, hln, G5.out⟩
            · have HT : Hid (dL zs = false) := by
                cases hh : dL zs with
                | false => rfl
                | true => exact absurd (by rw [HER.out, HX.out]; exact (HIF.out.1 hh).1) he
              have he2 : (er == 0) = false := by simp [he]
              have he3 : (er != 0) = true := by simp [he]
              go_wp2
              go_ret3
              rw [(u_no HT.out).1, (u_no HT.out).2.1, (u_no HT.out).2.2]
              exact ⟨none, 0, 0, rfl, Nt.zero _ _, rfl, G5.out⟩
          · have HT : Hid (dL zs = false) := by
              cases hh : dL zs with
              | false => rfl
              | true => exact absurd (by rw [HX.out]; exact (HIF.out.1 hh).2) hq
            have HQ := hid_intro hq
            clear hq
            go_wp2_with fail
            refine (same_no so _ k 4092 sc cap _ _ _ S5.out B5.out (oL_bt _ _) hbt HQ.out).mono ?_
            rintro en w6 ⟨rfl, rfl⟩
            by_cases he : er = 0
            · subst he
              go_wp2
              go_ret3
              rw [(u_no HT.out).1, (u_no HT.out).2.1, (u_no HT.out).2.2]
              exact ⟨none, 0, 0, rfl, Nt.zero _ _, rfl, G5.out⟩
            · have he2 : (er == 0) = false := by simp [he]
              have he3 : (er != 0) = true := by simp [he]
              go_wp2
              go_ret3
              rw [(u_no HT.out).1, (u_no HT.out).2.1, (u_no HT.out).2.2]
              exact ⟨none, 0, 0, rfl, Nt.zero _ _, rfl, G5.out⟩
  · have HT : Hid (dL zs = false) := by show _ = _; simp [dL, hl, h0]
    have h0' : ¬ (n : Int) = 4092 := by omega
    go_enter Try.func24, Try.ntmps24
    go_wp2
    go_ret3
    rw [(u_no HT.out).1, (u_no HT.out).2.1, (u_no HT.out).2.2]
    exact ⟨none, 0, 0, rfl, Nt.zero _ _, rfl, World.grownBy.refl _ _⟩
end Go.Proofs.Ytmdljegaggjnhaa
