import Derived.Test.YtcjgmiilfjjbcaaGreatDoorSrG
import Derived.Test.YtcjgmiilfjjbcaaGreatDoorDuF
namespace Go.Proofs.YtcjgmiilfjjbcaaGreatDoor
open Go.RowKit

set_option maxHeartbeats 400000 in
theorem num23_any (z : Int) (w : World) : Calls Tryz.prog 11 #[.int .i64 z] w fun en w' => en = .returned (.int .i64 z) ∧ w' = w := by
  go_enter Tryz.func11, Tryz.ntmps11
  go_wp2
  go_ret
  exact ⟨rfl, rfl⟩
theorem takeS_snoc {A : Type} {l k : List A} {i : Nat} {x y : A} (hx : l[i]? = some x) (hy : k[i]? = some y) (h : l.take i = k.take i) : (l.take (i + 1) = k.take (i + 1)) ↔ x = y := by
  rw [List.take_add_one, List.take_add_one, hx, hy, h]
  simp
set_option maxHeartbeats 4000000 in
set_option maxRecDepth 100000 in
theorem sameFates_any (fa fb : Option Addr) (fc fd : Nat) (l k : List (Int × Int)) (w : World) (ha : FtR w fa l) (hb : FtR w fb k) (hl : l.length ≤ 140737488355328) :
    Calls Tryz.prog 64 #[.slice fa l.length fc, .slice fb k.length fd] w fun en w' => ∃ b, en = .returned (.bool b) ∧ (b = true ↔ l = k) ∧ w.grownBy w' none := by
  have HA := hid_intro ha
  have HB := hid_intro hb
  obtain ⟨n, hn⟩ : ∃ n, l.length = n := ⟨_, rfl⟩
  obtain ⟨m, hm⟩ : ∃ m, k.length = m := ⟨_, rfl⟩
  rw [hn] at hl ⊢
  rw [hm]
  have HN := hid_intro hn
  have HM := hid_intro hm
  clear ha hb hn hm
  by_cases hnm : n = m
  · subst hnm
    go_enter Tryz.func64, Tryz.ntmps64
    go_wp2
    go_loopw [5] (fun s5 wr => ∃ i : Nat, i ≤ n ∧ s5 = .int .i64 (i : Nat) ∧ w.grownBy wr none ∧ l.take i = k.take i) (fun s5 _ => n - (intOf s5).toNat)
    case atStart => exact ⟨0, Nat.zero_le _, rfl, World.grownBy.refl _ _, rfl⟩
    case round =>
      obtain ⟨i, hi, rfl, hg, ht⟩ := hrel
      have HG := hid_intro hg
      have HT := hid_intro ht
      clear hg ht
      by_cases him : i < n
      · have e1 : (i : Int) < (n : Int) := by omega
        have e2 : (0 : Int) ≤ (i : Int) := by omega
        obtain ⟨p, hp⟩ : ∃ p, l[i]? = some p := ⟨_, List.getElem?_eq_getElem (by rw [HN.out]; exact him)⟩
        obtain ⟨q, hq⟩ : ∃ q, k[i]? = some q := ⟨_, List.getElem?_eq_getElem (by rw [HM.out]; exact him)⟩
        obtain ⟨ga, oa, ea, a1, a2⟩ := (HA.out.keptN HG.out) i p hp
        obtain ⟨gb, ob, eb, b1, b2⟩ := (HB.out.keptN HG.out) i q hq
        have HTS := hid_intro (takeS_snoc hp hq HT.out)
        have hpq : p ≠ q → l ≠ k := fun hne e => hne (by rw [e, hq] at hp; exact (Option.some.inj hp).symm)
        have HPQ := hid_intro hpq
        subst ea eb
        obtain ⟨p1, p2⟩ := p
        obtain ⟨q1, q2⟩ := q
        simp only at a1 a2 b1 b2
        have hwr : IntKind.i64.wrap ((i : Int) + 1) = (i : Int) + 1 := wrap_small _ (by omega) (by omega)
        clear hp hq hpq
        by_cases h1 : p1 = q1
        · subst h1
          by_cases h2 : p2 = q2
          · subst h2
            go_wp2
            go_quiet (fail)
            go_wp2
            go_roundw
            case rel => exact ⟨i + 1, by omega, by go_num, grown_trans HG.out ((Qt.drewN _ _).grown none), HTS.out.2 (by first | rfl | trivial)⟩
            case measure => simp [intOf]; omega
          · have g2 : (p2 == q2) = false := by rw [beq_eq_false_iff_ne]; exact h2
            have HNE : Hid (l ≠ k) := HPQ.out (by simp [h2])
            go_wp2
            go_quiet (fail)
            go_wp2
            go_ret
            exact ⟨false, rfl, by simp [HNE.out], grown_trans HG.out ((Qt.drewN _ _).grown none)⟩
        · have g1 : (p1 == q1) = false := by rw [beq_eq_false_iff_ne]; exact h1
          have HNE : Hid (l ≠ k) := HPQ.out (by simp [h1])
          go_wp2
          go_quiet (fail)
          go_wp2
          go_ret
          exact ⟨false, rfl, by simp [HNE.out], grown_trans HG.out ((Qt.drewN _ _).grown none)⟩
      · obtain rfl : i = n := by omega
        have HE : Hid (l = k) := by
          have := HT.out
          rwa [List.take_of_length_le (by rw [HN.out]; exact Nat.le_refl _), List.take_of_length_le (by rw [HM.out]; exact Nat.le_refl _)] at this
        go_wp2
        go_ret
        exact ⟨true, rfl, by simp [HE.out], HG.out⟩
  · have g0 : ((n : Int) == (m : Int)) = false := by rw [beq_eq_false_iff_ne]; omega
    have HNE : Hid (l ≠ k) := fun e => hnm (by rw [← HN.out, ← HM.out, e])
    clear hnm
    go_enter Tryz.func64, Tryz.ntmps64
    go_wp2
    go_ret
    exact ⟨false, rfl, by simp [HNE.out], World.grownBy.refl _ _⟩
theorem opq_eq {o q : Opq} : o = q ↔ (o.key = q.key ∧ o.val = q.val ∧ o.hi = q.hi ∧ o.f = q.f) ∧ o.k = q.k ∧ o.a = q.a ∧ o.b = q.b ∧ o.c = q.c := by
  obtain ⟨k, a, b, c, key, val, hi, f⟩ := o
  obtain ⟨k', a', b', c', key', val', hi', f'⟩ := q
  simp only [Opq.mk.injEq]
  constructor
  · rintro ⟨h1, h2, h3, h4, h5, h6, h7, h8⟩; exact ⟨⟨h5, h6, h7, h8⟩, h1, h2, h3, h4⟩
  · rintro ⟨⟨h5, h6, h7, h8⟩, h1, h2, h3, h4⟩; exact ⟨h1, h2, h3, h4, h5, h6, h7, h8⟩
set_option maxHeartbeats 4000000 in
set_option maxRecDepth 100000 in
theorem sameOp_any (o : Opq) (ka : Option Addr) (kc : Nat) (va : Option Addr) (vc : Nat) (ha : Option Addr) (hc : Nat) (fa : Option Addr) (fc : Nat) (q : Opq) (kb : Option Addr) (kd : Nat) (vb : Option Addr) (vd : Nat) (hb : Option Addr) (hd : Nat) (fb : Option Addr) (fd : Nat) (w : World) (h1 : OpR w o ka kc va vc ha hc fa fc) (h2 : OpR w q kb kd vb vd hb hd fb fd) (hl : o.f.length ≤ 140737488355328) :
    Calls Tryz.prog 46 #[.agg #[.int .i64 o.k, .int .i64 o.a, .int .i64 o.b, .int .i64 o.c, .slice ka o.key.length kc, .slice va o.val.length vc, .slice ha o.hi.length hc, .slice fa o.f.length fc], .agg #[.int .i64 q.k, .int .i64 q.a, .int .i64 q.b, .int .i64 q.c, .slice kb q.key.length kd, .slice vb q.val.length vd, .slice hb q.hi.length hd, .slice fb q.f.length fd]] w fun en w' => ∃ b, en = .returned (.bool b) ∧ (b = true ↔ o = q) ∧ w.grownBy w' none := by
  have gp := World.grownBy_alloc w (.cells #[.int .i64 o.k, .int .i64 o.a, .int .i64 o.b, .int .i64 o.c, .slice ka o.key.length kc, .slice va o.val.length vc, .slice ha o.hi.length hc, .slice fa o.f.length fc] 35) none
  have gq := World.grownBy_alloc (w.alloc (.cells #[.int .i64 o.k, .int .i64 o.a, .int .i64 o.b, .int .i64 o.c, .slice ka o.key.length kc, .slice va o.val.length vc, .slice ha o.hi.length hc, .slice fa o.f.length fc] 35)) (.cells #[.int .i64 q.k, .int .i64 q.a, .int .i64 q.b, .int .i64 q.c, .slice kb q.key.length kd, .slice vb q.val.length vd, .slice hb q.hi.length hd, .slice fb q.f.length fd] 35) none
  have g2 := grown_trans gp gq
  have xp := heap_keptS (heap_at0S w #[.int .i64 o.k, .int .i64 o.a, .int .i64 o.b, .int .i64 o.c, .slice ka o.key.length kc, .slice va o.val.length vc, .slice ha o.hi.length hc, .slice fa o.f.length fc] 35) gq
  have xq := heap_at0S (w.alloc (.cells #[.int .i64 o.k, .int .i64 o.a, .int .i64 o.b, .int .i64 o.c, .slice ka o.key.length kc, .slice va o.val.length vc, .slice ha o.hi.length hc, .slice fa o.f.length fc] 35)) #[.int .i64 q.k, .int .i64 q.a, .int .i64 q.b, .int .i64 q.c, .slice kb q.key.length kd, .slice vb q.val.length vd, .slice hb q.hi.length hd, .slice fb q.f.length fd] 35
  rw [show (w.alloc (.cells #[.int .i64 o.k, .int .i64 o.a, .int .i64 o.b, .int .i64 o.c, .slice ka o.key.length kc, .slice va o.val.length vc, .slice ha o.hi.length hc, .slice fa o.f.length fc] 35)).heap.size = w.heap.size + 1 by simp] at xq
  have HK := hid_intro (fun W (hg : w.grownBy W none) => same20 ka kb o.key.length q.key.length kc kd o.key q.key W (h1.key.keptN hg) (h2.key.keptN hg) h1.bk h2.bk)
  have HV := hid_intro (fun W (hg : w.grownBy W none) => same20 va vb o.val.length q.val.length vc vd o.val q.val W (h1.val.keptN hg) (h2.val.keptN hg) h1.bv h2.bv)
  have HH := hid_intro (fun W (hg : w.grownBy W none) => same20 ha hb o.hi.length q.hi.length hc hd o.hi q.hi W (h1.hi.keptN hg) (h2.hi.keptN hg) h1.bh h2.bh)
  have HF := hid_intro (fun W (hg : w.grownBy W none) => sameFates_any fa fb fc fd o.f q.f W (h1.f.keptN hg) (h2.f.keptN hg) hl)
  have G2 := hid_intro g2
  have XP := hid_intro xp
  have XQ := hid_intro xq
  have HE := hid_intro (opq_eq (o := o) (q := q))
  have x4 := cell_heapS (i := 4) xp rfl
  have x5 := cell_heapS (i := 5) xp rfl
  have x6 := cell_heapS (i := 6) xp rfl
  have x7 := cell_heapS (i := 7) xp rfl
  have y4 := cell_heapS (i := 4) xq rfl
  have y5 := cell_heapS (i := 5) xq rfl
  have y6 := cell_heapS (i := 6) xq rfl
  have y7 := cell_heapS (i := 7) xq rfl
  clear gp gq g2 xp xq h1 h2 hl
  go_enter Tryz.func46, Tryz.ntmps46
  go_wp2_with fail
  refine (HK.out _ G2.out).mono ?_
  rintro en w3 ⟨rfl, rfl⟩
  go_wp2_with fail
  refine (HV.out _ G2.out).mono ?_
  rintro en w3 ⟨rfl, rfl⟩
  go_wp2_with fail
  refine (HH.out _ G2.out).mono ?_
  rintro en w3 ⟨rfl, rfl⟩
  go_wp2_with fail
  refine (HF.out _ G2.out).mono ?_
  rintro en w4 ⟨b, rfl, hb4, hg4⟩
  have G4 := hid_intro (grown_trans G2.out hg4)
  have XP4 := hid_intro (heap_keptS XP.out hg4)
  have XQ4 := hid_intro (heap_keptS XQ.out hg4)
  have s0 := cell_heapS (i := 0) XP4.out rfl
  have s1 := cell_heapS (i := 1) XP4.out rfl
  have s2 := cell_heapS (i := 2) XP4.out rfl
  have s3 := cell_heapS (i := 3) XP4.out rfl
  have t0 := cell_heapS (i := 0) XQ4.out rfl
  have t1 := cell_heapS (i := 1) XQ4.out rfl
  have t2 := cell_heapS (i := 2) XQ4.out rfl
  have t3 := cell_heapS (i := 3) XQ4.out rfl
  clear hg4
  have HE2 : Hid (o = q ↔ (((decide (o.key = q.key) && decide (o.val = q.val)) && decide (o.hi = q.hi)) && b) = true ∧ o.k = q.k ∧ o.a = q.a ∧ o.b = q.b ∧ o.c = q.c) := by
    show _ ↔ _
    rw [HE.out]
    simp only [Bool.and_eq_true, decide_eq_true_eq, hb4]
    constructor
    · rintro ⟨⟨e1, e2, e3, e4⟩, e5⟩; exact ⟨⟨⟨⟨e1, e2⟩, e3⟩, e4⟩, e5⟩
    · rintro ⟨⟨⟨⟨e1, e2⟩, e3⟩, e4⟩, e5⟩; exact ⟨⟨e1, e2, e3, e4⟩, e5⟩
  clear HE hb4
  generalize decide (o.key = q.key) = b1 at *
  generalize decide (o.val = q.val) = b2 at *
  generalize decide (o.hi = q.hi) = b3 at *
  cases b1 <;> cases b2 <;> cases b3 <;> cases b
  all_goals simp only [Bool.and_false, Bool.and_true, Bool.false_eq_true, false_and, iff_false, true_and] at HE2
  case true.true.true.true =>
    go_wp2
    all_goals
      go_ret
      refine ⟨_, rfl, ?_, G4.out⟩
      rw [HE2.out]
      clear HK HV HH HF XP XQ XP4 XQ4 G2 G4 HE2 x4 x5 x6 x7 y4 y5 y6 y7 s0 s1 s2 s3 t0 t1 t2 t3
      simp_all
  all_goals
    go_wp2
    go_ret
    exact ⟨false, rfl, by simp [HE2.out], G4.out⟩
end Go.Proofs.YtcjgmiilfjjbcaaGreatDoor
