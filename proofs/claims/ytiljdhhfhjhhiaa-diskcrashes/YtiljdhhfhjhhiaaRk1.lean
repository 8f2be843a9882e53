import Derived.Test.YtiljdhhfhjhhiaaRkB
namespace Go.Proofs.Ytiljdhhfhjhhiaa
open Go.RowKit Go.MuLone

set_option maxHeartbeats 1000000 in
theorem zeros_12 (w : World) : Calls Try.prog 52 #[] w fun e w' => e = .returned (.slice (some ⟨w.heap.size, 0, none⟩) 4096 4096) ∧ Rw w' w.heap.size zp ∧ w.grownBy w' none := by
  obtain ⟨ZZ, hmk, hZZ⟩ := make_zp
  have HZZ := hid_intro hZZ
  clear hZZ
  go_enter Try.func52, Try.ntmps52
  go_wp2
  go_ret
  refine ⟨rfl, ?_, World.grownBy_alloc _ _ _⟩
  have := heap_alloc_new w (.cells ZZ 5)
  unfold Rw
  rw [this, HZZ.out]

theorem rnew_no (c : Int) (w : World) (h : c < 2 ∨ 524287 < c) : Calls Try.prog 33 #[.int .i64 c] w fun e w' => e = .returned (.pointer none) ∧ w' = w := by
  by_cases h1 : c < 2
  · go_enter Try.func33, Try.ntmps33
    go_wp2
    go_ret
    exact ⟨rfl, rfl⟩
  · have h2 : 524287 < c := by omega
    go_enter Try.func33, Try.ntmps33
    go_wp2
    go_ret
    exact ⟨rfl, rfl⟩
def Dd.new12 (c : Nat) : Dd := ⟨c, 0, 0, false, 0, 0, .slice none 0 0, .slice none 0 0, 0, [], []⟩
theorem rnew_b (c : Nat) (w : World) (h : 2 ≤ c) (h2 : c < 524288) : Calls Try.prog 33 #[.int .i64 c] w fun e w' =>
    ∃ B, e = .returned (.pointer (some ⟨B, 0, none⟩)) ∧ w.grownBy w' none ∧ Rk w' B (fun k => w.heap.size ≤ k ∧ k < w'.heap.size) (Dd.new12 c) := by
  have e1 : ¬ ((c : Int) < 2) := by omega
  have e2 : ¬ (524287 < (c : Int)) := by omega
  go_enter Try.func33, Try.ntmps33
  go_wp2
  go_ret
  refine ⟨w.heap.size, rfl, World.grownBy_alloc _ _ _, ⟨heap_alloc_new w _, ⟨⟨rfl, .inl ⟨rfl, rfl⟩⟩, (fun g e => by cases e), ⟨rfl, .inl ⟨rfl, rfl⟩⟩, (fun g e => by cases e), (fun x hx => by cases hx), (fun x hx => by cases hx), Nat.le_refl _, fun k hk => hk.2⟩, ⟨Nat.le_refl _, by simp⟩, h2, Nat.zero_le _⟩⟩

theorem pgs_step (n : Nat) (l : List (Nat × Nat × List Int)) (k : Nat) (p : Nat × Nat × List Int) (h : l[k]? = some p) : pgs n (l.take (k + 1)) = max (pgs n (l.take k)) (p.1 + 1) := by
  rw [List.take_add_one, h, Option.toList_some]
  simp [pgs, List.foldl_append]

set_option maxHeartbeats 2000000 in
theorem rpages_b {w : World} {B : Nat} {F : Nat → Prop} {d : Dd} (hk : Rk w B F d) (hd : d.done < 1099511627776) : Calls Try.prog 44 #[.pointer (some ⟨B, 0, none⟩)] w fun e w' => e = .returned (.int .i64 (pgs d.bl.length d.pl : Nat)) ∧ w' = w := by
  have hpl : d.pl.length < 1099511627776 := Nat.lt_of_le_of_lt hk.dm.pc hd
  have hle := hk.le
  have hcap := hk.cap
  have c1 := hk.bx.c1
  have c2 := hk.bx.c2
  obtain ⟨al, cl, evL⟩ := owns_slice hk.dm.lr
  obtain ⟨ap, cp, evP⟩ := owns_slice hk.dm.pr
  rw [evL] at c1
  rw [evP] at c2
  have hbl := pgs_le d.bl.length d.pl
  have HK := hid_intro hk
  have EP := hid_intro evP
  clear hk evL evP
  go_enter Try.func44, Try.ntmps44
  go_wp2_with fail
  go_loopw [3, 4] (fun sn si wr => ∃ k N : Nat, k ≤ d.pl.length ∧ N = pgs d.bl.length (d.pl.take k) ∧ sn = .int .i64 (N : Int) ∧ si = .int .i64 (k : Int) ∧ wr = w) (fun _ si _ => d.pl.length - (intOf si).toNat)
  case atStart => exact ⟨0, d.bl.length, Nat.zero_le _, rfl, rfl, rfl, rfl⟩
  case round =>
    obtain ⟨k, N, hkl, hN, rfl, rfl, rfl⟩ := hrel
    have hN1 : N ≤ d.cap := by rw [hN]; exact Nat.le_trans (pgs_take _ _ _) hle
    by_cases hlt : k < d.pl.length
    · have hlt' : (k : Int) < (d.pl.length : Int) := by omega
      have hp : d.pl[k]? = some d.pl[k] := List.getElem?_eq_getElem hlt
      revert hp
      generalize d.pl[k] = p
      intro hp
      obtain ⟨g, cap, hv, q0, q1⟩ := HK.out.pend k p hp
      have hv2 := EP.out
      rw [hv] at hv2
      simp only [Value.slice.injEq] at hv2
      obtain ⟨rfl, _, rfl⟩ := hv2
      have hno := (HK.out.dm.pp p (List.mem_of_getElem? hp)).2
      have HP := hid_intro (pgs_step d.bl.length d.pl k p hp)
      have HN := hid_intro hN
      clear hp hN hv q1
      by_cases hm : N ≤ p.1 + 1
      · have hm1 : (N : Int) ≤ (p.1 : Int) + 1 := by omega
        go_wp2
        go_roundw
        case rel => exact ⟨k + 1, p.1 + 1, by omega, by rw [HP.out, ← HN.out]; omega, by go_num, by go_num, by first | rfl | trivial⟩
        case measure => simp [intOf]; omega
      · have hm1 : (p.1 : Int) + 1 < (N : Int) := by omega
        go_wp2
        go_roundw
        case rel => exact ⟨k + 1, N, by omega, by rw [HP.out, ← HN.out]; omega, by go_num, by go_num, by first | rfl | trivial⟩
        case measure => simp [intOf]; omega
    · obtain rfl : k = d.pl.length := by omega
      rw [List.take_length] at hN
      have HN := hid_intro hN
      clear hN
      go_wp2
      go_ret
      exact ⟨by have hn := HN.out; subst hn; rfl, by first | rfl | trivial⟩

/-- One Write or Sync is counted. -/
theorem rfails_b {w : World} {B : Nat} {F : Nat → Prop} {d : Dd} (hk : Rk w B F d) (ho : d.off = false) (hd : d.done < 1099511627776) (hl : d.left < 9223372036854775808) : Calls Try.prog 54 #[.pointer (some ⟨B, 0, none⟩)] w fun e w' => e = .returned (.bool (d.left == 1)) ∧ Rk w' B F d.spend ∧ w.grownBy w' (some B) := by
  have c5 := hk.bx.c5
  have c4 := hk.bx.c4
  have c3 := hk.bx.c3
  have f5 := hk.bx.fz 5
  have f4 := hk.bx.fz 4
  have f3 := hk.bx.fz 3
  rw [ho] at c3
  have HK := hid_intro hk
  clear hk
  have fin : ∀ w', Rx w' B d.spend → w.grownBy w' (some B) → Rk w' B F d.spend := fun w' hb hg => ⟨hb, (HK.out.dm.box HK.out.bx hg).scal rfl rfl rfl rfl (Nat.le_succ _), HK.out.fb, HK.out.cap, HK.out.le⟩
  by_cases h0 : d.left = 0
  · have h0' : (d.left : Int) = 0 := by omega
    have g1 := grown_cell w B 5 (.int .i64 ((d.done : Int) + 1))
    have b1 : Rx (w.setCell ⟨B, 5, none⟩ (.int .i64 ((d.done : Int) + 1))) B d.spend := HK.out.bx.set 5 _ _ (by unfold rcell Dd.spend; simp [h0, ho])
    have FIN := hid_intro (fin _ b1 g1)
    have G1 := hid_intro g1
    have c4s : (w.setCell ⟨B, 5, none⟩ (.int .i64 ((d.done : Int) + 1))).cell? ⟨B, 4, none⟩ = some (.int .i64 d.left) := by rw [b1.c4]; simp [Dd.spend, h0]
    clear fin g1 b1
    go_enter Try.func54, Try.ntmps54
    go_wp2
    go_ret
    exact ⟨by rw [h0]; rfl, FIN.out, G1.out⟩
  · have h0' : ¬ (d.left : Int) = 0 := by omega
    obtain ⟨dl, hdl⟩ : ∃ dl, dl + 1 = d.left := ⟨d.left - 1, by omega⟩
    have hl1 : d.left - 1 = dl := by omega
    have hz : ((dl : Int) == 0) = (d.left == 1) := by
      by_cases e : dl = 0
      · have e2 : d.left = 1 := by omega
        rw [e2, e]; rfl
      · have e2 : ¬ d.left = 1 := by omega
        have e3 : ¬ (dl : Int) = 0 := by omega
        rw [beq_eq_false_iff_ne.2 e3, beq_eq_false_iff_ne.2 e2]
    have g1 := grown_cell w B 5 (.int .i64 ((d.done : Int) + 1))
    have b1 : Rx (w.setCell ⟨B, 5, none⟩ (.int .i64 ((d.done : Int) + 1))) B { d with done := d.done + 1 } := HK.out.bx.set 5 _ _ (by unfold rcell; simp)
    have g2 := grown_cell (w.setCell ⟨B, 5, none⟩ (.int .i64 ((d.done : Int) + 1))) B 4 (.int .i64 (dl : Int))
    have b2 : Rx ((w.setCell ⟨B, 5, none⟩ (.int .i64 ((d.done : Int) + 1))).setCell ⟨B, 4, none⟩ (.int .i64 (dl : Int))) B { d with done := d.done + 1, left := dl } := b1.set 4 _ _ (by unfold rcell; simp)
    have g3 := grown_cell ((w.setCell ⟨B, 5, none⟩ (.int .i64 ((d.done : Int) + 1))).setCell ⟨B, 4, none⟩ (.int .i64 (dl : Int))) B 3 (.bool ((dl : Int) == 0))
    have b3 : Rx (((w.setCell ⟨B, 5, none⟩ (.int .i64 ((d.done : Int) + 1))).setCell ⟨B, 4, none⟩ (.int .i64 (dl : Int))).setCell ⟨B, 3, none⟩ (.bool ((dl : Int) == 0))) B d.spend := b2.set 3 _ _ (by rw [hz]; unfold rcell Dd.spend; simp [hl1])
    have FIN := hid_intro (fin _ b3 (grown_trans (grown_trans g1 g2) g3))
    have GG := hid_intro (grown_trans (grown_trans g1 g2) g3)
    have c41 := b1.c4
    have f41 := b1.fz 4
    have c32 := b2.c3
    have c42 := b2.c4
    have f32 := b2.fz 3
    have c33 := b3.c3
    rw [show d.spend.off = (d.left == 1) from rfl] at c33
    simp only at c41 c32 c42
    have hdl' : (d.left : Int) - 1 = (dl : Int) := by omega
    clear fin g1 b1 g2 b2 g3 b3 hz hl1
    go_enter Try.func54, Try.ntmps54
    go_wp2
    go_ret
    exact ⟨rfl, FIN.out, GG.out⟩
end Go.Proofs.Ytiljdhhfhjhhiaa
