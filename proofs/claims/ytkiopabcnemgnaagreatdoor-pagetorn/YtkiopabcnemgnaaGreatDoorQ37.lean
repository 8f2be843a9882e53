import Derived.Test.YtkiopabcnemgnaaGreatDoorQ35
namespace Go.Proofs.YtkiopabcnemgnaaGreatDoor
open Go.RowKit
theorem BodyR.bt {p : Pg} {b : List Int} {e : Int} (h : BodyR p b e) (hi : Ib p.items) (hs : Lb p.seps) (hd : Bt p.data) : Bt b := by
 rcases h with ⟨_, rfl, rfl⟩ | ⟨_, h1⟩ | ⟨_, rfl, rfl⟩ | ⟨_, rfl, rfl⟩ | ⟨_, rfl, rfl⟩
 ·exact enc_bt hi
 ·exact h1.bt hs
 ·exact oD_bt hd
 ·exact oL_bt _ _
 ·exact oM_bt _
set_option maxHeartbeats 4000000 in
set_option maxRecDepth 100000 in
theorem refEncode8_any (x : Pv) (p : Pg) (w : World) (hp : Pm w x p) (hf : Fits p) :
  Calls Tryz.prog 16 #[.agg #[.int .i64 x.k, .slice x.i.a x.i.n x.i.c, .int .i64 x.l, .slice x.s.a x.s.n x.s.c, .slice x.d.a x.d.n x.d.c, .int .i64 x.x, .slice x.b.a x.b.n x.b.c, .slice x.t.a x.t.n x.t.c, .int .i64 x.h.v, .int .i64 x.h.c, .int .i64 x.h.r, .int .i64 x.h.h, .int .i64 x.h.k, .int .i64 x.h.f, .int .i64 x.h.n]] w fun en w' => (∃ ao n c zs e, en = .returned (.tuple #[.slice ao n c, .int .i64 e]) ∧ PEnc p zs e ∧ Byt w' ao n c zs ∧ n ≤ 4096 ∧ n ≤ c) ∧ w.grownBy w' none := by
 have HP := hid_intro hp
 have HF := hid_intro hf
 have hkk := hp.kind
 clear hp hf
 by_cases h1 : x.k < 1
 ·have HQ : Hid (okK p.kind = false) := by show _ = _; rw [← hkk]; simp [okK]; omega
  clear hkk
  go_enter Tryz.func16, Tryz.ntmps16
  go_wp2
  go_ret2
  exact ⟨⟨none, 0, 0, [], 80, rfl, .inl ⟨HQ.out, rfl, rfl⟩, Byt.empty _, by omega, Nat.le_refl _⟩, World.grownBy_alloc w _ none⟩
 ·by_cases h5 : 5 < x.k
  ·have HQ : Hid (okK p.kind = false) := by show _ = _; rw [← hkk]; simp [okK]; omega
   clear hkk
   go_enter Tryz.func16, Tryz.ntmps16
   go_wp2
   go_ret2
   exact ⟨⟨none, 0, 0, [], 80, rfl, .inl ⟨HQ.out, rfl, rfl⟩, Byt.empty _, by omega, Nat.le_refl _⟩, World.grownBy_alloc w _ none⟩
  ·have HQ : Hid (okK p.kind = true) := by show _ = _; rw [← hkk]; simp [okK]; omega
   clear hkk
   go_enter Tryz.func16, Tryz.ntmps16
   go_upto_region 1 with fail
   have X1 := hid_intro (Px.new w x)
   have G1 := hid_intro (World.grownBy_alloc w (.cells #[.int .i64 x.k, .slice x.i.a x.i.n x.i.c, .int .i64 x.l, .slice x.s.a x.s.n x.s.c, .slice x.d.a x.d.n x.d.c, .int .i64 x.x, .slice x.b.a x.b.n x.b.c, .slice x.t.a x.t.n x.t.c, .int .i64 x.h.v, .int .i64 x.h.c, .int .i64 x.h.r, .int .i64 x.h.h, .int .i64 x.h.k, .int .i64 x.h.f, .int .i64 x.h.n] 30) none)
   generalize w.alloc (.cells #[.int .i64 x.k, .slice x.i.a x.i.n x.i.c, .int .i64 x.l, .slice x.s.a x.s.n x.s.c, .slice x.d.a x.d.n x.d.c, .int .i64 x.x, .slice x.b.a x.b.n x.b.c, .slice x.t.a x.t.n x.t.c, .int .i64 x.h.v, .int .i64 x.h.c, .int .i64 x.h.r, .int .i64 x.h.h, .int .i64 x.h.k, .int .i64 x.h.f, .int .i64 x.h.n] 30) = w1 at *
   obtain ⟨c0, c1, c2, c3, c4, c5, c6, c7, c8, c9, c10, c11, c12, c13, c14⟩ := X1.out.cells
   go_upto_region 3 with fail
   go_region_law
    (first
     | (have zz := hy; go_simp; go_at_call 22; refine (samePage_any x (hasV x) p (hasP p) _ (by exact M2) (by exact M2.has)).mono ?_; rintro en w3 ⟨⟨b3, rfl, hb3⟩, hg3⟩)
     | (go_simp; go_at_call 37; refine (has_any x _).mono ?_; rintro en w2 ⟨⟨y, rfl, hy⟩, hg2⟩; subst hy; have hy := trivial; have hg2' := grown_trans ((Qt.refl w1).drew.grown none) hg2; have X2 := X1.out.keptN hg2'; have M2 := HP.out.keptN (grown_trans G1.out hg2'); obtain ⟨d0, d1, d2, d3, d4, d5, d6, d7, d8, d9, d10, d11, d12, d13, d14⟩ := X2.cells))
   all_goals
    have G3 := hid_intro (grown_trans (grown_trans G1.out hg2') hg3)
    have X3 := hid_intro (X2.keptN hg3)
    have B3 := hid_intro hb3
    clear hy hg2 hg2' hg3 hb3 M2 X2 G1 X1 c0 c1 c2 c3 c4 c5 c6 c7 c8 c9 c10 c11 c12 c13 c14 d0 d1 d2 d3 d4 d5 d6 d7 d8 d9 d10 d11 d12 d13 d14
    cases b3 with
    | false =>
     have HN : Hid (p ≠ hasP p) := fun e => absurd (B3.out.2 e) (by decide)
     go_wp2
     go_ret2
     exact ⟨⟨none, 0, 0, [], 81, rfl, .inr (.inl ⟨HQ.out, HN.out, rfl, rfl⟩), Byt.empty _, by omega, Nat.le_refl _⟩, G3.out⟩
    | true =>
     have HE : Hid (p = hasP p) := B3.out.1 rfl
     obtain ⟨c0, c1, c2, c3, c4, c5, c6, c7, c8, c9, c10, c11, c12, c13, c14⟩ := X3.out.cells
     go_wp2_with fail
     refine (refBody_any x p _ (HP.out.keptN G3.out) HF.out HQ.out).mono ?_
     rintro en w4 ⟨⟨ao, j, c, b, e, rfl, hbr, hb4⟩, hg4⟩
     have R4 := hid_intro hbr
     have B4 := hid_intro hb4
     have G4 := hid_intro (grown_trans G3.out hg4)
     clear hbr hb4 hg4 G3 X3 c0 c1 c2 c3 c4 c5 c6 c7 c8 c9 c10 c11 c12 c13 c14
     by_cases he : e = 0
     ·subst he
      go_wp2_with fail
      refine (refSeal_any ao j c b _ B4.out (R4.out.bt HP.out.ib HP.out.sb HP.out.db)).mono ?_
      rintro en w5 ⟨po, m, cp, rfl, hb5, hm5, hc5, hg5⟩
      have B5 := hid_intro hb5
      have G5 := hid_intro (grown_trans G4.out hg5)
      clear hb5 hg5 G4
      go_wp2
      go_ret2
      exact ⟨⟨_, _, _, _, _, rfl, .inr (.inr ⟨HQ.out, HE.out, _, _, R4.out, .inr ⟨rfl, rfl, rfl⟩⟩), B5.out, hm5, hc5⟩, G5.out⟩
     ·have he1 : (e == 0) = false := by simp [he]
      have he2 : (e != 0) = true := by simp [he]
      have HE0 := hid_intro he
      clear he
      go_wp2
      go_ret2
      exact ⟨⟨none, 0, 0, [], e, rfl, .inr (.inr ⟨HQ.out, HE.out, _, _, R4.out, .inl ⟨HE0.out, rfl, rfl⟩⟩), Byt.empty _, by omega, Nat.le_refl _⟩, G4.out⟩
structure Fo8 (p : Pg) (w : World) (en : Ending) (w' : World) : Prop where
 out : ∃ b, en = .returned (.bool b) ∧ (b = true → Fits p)
 gr : w.grownBy w' none
set_option maxHeartbeats 8000000 in
set_option maxRecDepth 100000 in
theorem fits8_any (x : Pv) (p : Pg) (w : World) (hp : Pm w x p) : Calls Tryz.prog 10 #[.agg #[.int .i64 x.k, .slice x.i.a x.i.n x.i.c, .int .i64 x.l, .slice x.s.a x.s.n x.s.c, .slice x.d.a x.d.n x.d.c, .int .i64 x.x, .slice x.b.a x.b.n x.b.c, .slice x.t.a x.t.n x.t.c, .int .i64 x.h.v, .int .i64 x.h.c, .int .i64 x.h.r, .int .i64 x.h.h, .int .i64 x.h.k, .int .i64 x.h.f, .int .i64 x.h.n]] w fun en w' => Fo8 p w en w' := by
 have HP := hid_intro hp
 clear hp
 go_enter Tryz.func10, Tryz.ntmps10
 go_upto_region 1 with fail
 have X1 := hid_intro (Px.new w x)
 have G1 := hid_intro (World.grownBy_alloc w (.cells #[.int .i64 x.k, .slice x.i.a x.i.n x.i.c, .int .i64 x.l, .slice x.s.a x.s.n x.s.c, .slice x.d.a x.d.n x.d.c, .int .i64 x.x, .slice x.b.a x.b.n x.b.c, .slice x.t.a x.t.n x.t.c, .int .i64 x.h.v, .int .i64 x.h.c, .int .i64 x.h.r, .int .i64 x.h.h, .int .i64 x.h.k, .int .i64 x.h.f, .int .i64 x.h.n] 30) none)
 have HP1 := hid_intro (HP.out.keptN G1.out)
 generalize w.alloc (.cells #[.int .i64 x.k, .slice x.i.a x.i.n x.i.c, .int .i64 x.l, .slice x.s.a x.s.n x.s.c, .slice x.d.a x.d.n x.d.c, .int .i64 x.x, .slice x.b.a x.b.n x.b.c, .slice x.t.a x.t.n x.t.c, .int .i64 x.h.v, .int .i64 x.h.c, .int .i64 x.h.r, .int .i64 x.h.h, .int .i64 x.h.k, .int .i64 x.h.f, .int .i64 x.h.n] 30) = w1 at *
 obtain ⟨c0, c1, c2, c3, c4, c5, c6, c7, c8, c9, c10, c11, c12, c13, c14⟩ := X1.out.cells
 by_cases h0 : x.i.n ≤ 2000
 ·have g0 : (x.i.n : Int) ≤ 2000 := by omega
  by_cases h1 : x.s.n ≤ 2000
  ·have g1 : (x.s.n : Int) ≤ 2000 := by omega
   by_cases h2 : x.d.n ≤ 2000
   ·have g2 : (x.d.n : Int) ≤ 2000 := by omega
    by_cases h3 : x.b.n ≤ 65536
    ·have g3 : (x.b.n : Int) ≤ 65536 := by omega
     by_cases h4 : x.t.n ≤ 2000
     ·have g4 : (x.t.n : Int) ≤ 2000 := by omega
      have h0' : p.items.length ≤ 2000 := by rw [HP.out.il]; exact h0
      have HF5 : Hid (p.seps.length ≤ 2000 ∧ p.kids.length ≤ 2000 ∧ p.data.length ≤ 65536 ∧ p.list.length ≤ 2000) := ⟨by rw [HP.out.sl]; exact h1, by rw [HP.out.kl]; exact h2, by rw [HP.out.data.len]; exact h3, by rw [HP.out.tl]; exact h4⟩
      go_wp2
      go_loopw [3, 4] (fun so si wr => ∃ (i : Nat) (b : Bool), i ≤ x.i.n ∧ si = .int .i64 i ∧ so = .bool b ∧ (b = true → ∀ j, j < i → (p.items.getD j it0).key.length ≤ 65536 ∧ (p.items.getD j it0).val.length ≤ 65536) ∧ wr = w1) (fun _ si _ => x.i.n - (intOf si).toNat)
      case atStart => exact ⟨0, true, Nat.zero_le _, rfl, rfl, fun _ j hj => by omega, rfl⟩
      case round =>
       obtain ⟨i, b, hi, rfl, rfl, hb, rfl⟩ := hrel
       have HBb := hid_intro hb
       clear hb
       cases b with
       | false =>
        go_wp2
        all_goals
         go_loopw [3, 5] (fun so si wq => so = .bool false ∧ si = .int .i64 0 ∧ wq = wr) (fun _ _ _ => 0)
         case atStart => exact ⟨rfl, rfl, rfl⟩
         case round =>
          obtain ⟨rfl, rfl, rfl⟩ := hrel
          go_wp2
          all_goals
           go_ret
           exact ⟨⟨false, rfl, fun h => by cases h⟩, G1.out⟩
       | true =>
        by_cases hlt : i < x.i.n
        ·obtain ⟨b1, off, ao, n', c', bo, m', d', ha, q1, q2, _, _, hK, _, _, hV, _, _⟩ := HP1.out.items.row i (by rw [HP.out.il]; exact hlt)
         have e1 : (p.items.getD i it0).key.length = n' := hK.len
         have e2 : (p.items.getD i it0).val.length = m' := hV.len
         have t1 : (i : Int) < (x.i.n : Int) := by omega
         have t0 : (0 : Int) ≤ (i : Int) := by omega
         have E1 := hid_intro e1
         have E2 := hid_intro e2
         clear hK hV e1 e2
         by_cases u1 : n' ≤ 65536
         ·have v1 : (n' : Int) ≤ 65536 := by omega
          by_cases u2 : m' ≤ 65536
          ·have v2 : (m' : Int) ≤ 65536 := by omega
           go_wp2
           go_roundw
           case rel =>
            refine ⟨i + 1, true, by omega, by go_num, rfl, fun _ j hj => ?_, by trivial⟩
            by_cases e : j = i
            ·subst e; rw [E1.out, E2.out]; exact ⟨u1, u2⟩
            ·exact HBb.out rfl j (by omega)
           case measure => simp [intOf]; omega
          ·have v2 : ¬ (m' : Int) ≤ 65536 := by omega
           go_wp2
           go_roundw
           case rel => exact ⟨i + 1, false, by omega, by go_num, rfl, (fun h => by cases h), by trivial⟩
           case measure => simp [intOf]; omega
         ·have v1 : ¬ (n' : Int) ≤ 65536 := by omega
          go_wp2
          go_roundw
          case rel => exact ⟨i + 1, false, by omega, by go_num, rfl, (fun h => by cases h), by trivial⟩
          case measure => simp [intOf]; omega
        ·obtain rfl : i = x.i.n := by omega
         have t1 : ¬ (x.i.n : Int) < (x.i.n : Int) := by omega
         have HIT : Hid (∀ y ∈ p.items, y.key.length ≤ 65536 ∧ y.val.length ≤ 65536) := by
          intro y hy
          obtain ⟨j, hj, rfl⟩ := List.mem_iff_getElem.1 hy
          have := HBb.out rfl j (by rw [← HP.out.il]; exact hj)
          simpa [List.getD, List.getElem?_eq_getElem hj] using this
         clear HBb hlt hi
         go_wp2
         go_loopw [3, 5] (fun so si wq => ∃ (q : Nat) (b : Bool), q ≤ x.s.n ∧ si = .int .i64 q ∧ so = .bool b ∧ (b = true → ∀ j, j < q → (p.seps.getD j []).length ≤ 65536) ∧ wq = wr) (fun _ si _ => x.s.n - (intOf si).toNat)
         case atStart => exact ⟨0, true, Nat.zero_le _, rfl, rfl, fun _ j hj => by omega, rfl⟩
         case round =>
          obtain ⟨q, b, hq, rfl, rfl, hb, rfl⟩ := hrel
          have HBs := hid_intro hb
          clear hb
          cases b with
          | false =>
           go_wp2
           all_goals
            go_ret
            exact ⟨⟨false, rfl, fun h => by cases h⟩, G1.out⟩
          | true =>
           by_cases hlt : q < x.s.n
           ·obtain ⟨b1, off, ao, k', c', ha, q1, hK, _, _⟩ := HP1.out.seps.row q (by rw [HP.out.sl]; exact hlt)
            have e1 : (p.seps.getD q []).length = k' := hK.len
            have E1 := hid_intro e1
            have t2 : (q : Int) < (x.s.n : Int) := by omega
            have t0 : (0 : Int) ≤ (q : Int) := by omega
            clear hK e1
            by_cases u1 : k' ≤ 65536
            ·have v1 : (k' : Int) ≤ 65536 := by omega
             go_wp2
             go_roundw
             case rel =>
              refine ⟨q + 1, true, by omega, by go_num, rfl, fun _ j hj => ?_, by trivial⟩
              by_cases e : j = q
              ·subst e; rw [E1.out]; exact u1
              ·exact HBs.out rfl j (by omega)
             case measure => simp [intOf]; omega
            ·have v1 : ¬ (k' : Int) ≤ 65536 := by omega
             go_wp2
             go_roundw
             case rel => exact ⟨q + 1, false, by omega, by go_num, rfl, (fun h => by cases h), by trivial⟩
             case measure => simp [intOf]; omega
           ·obtain rfl : q = x.s.n := by omega
            have t2 : ¬ (x.s.n : Int) < (x.s.n : Int) := by omega
            have HFT : Hid (Fits p) := by
             refine ⟨h0', HF5.out.1, HF5.out.2.1, HF5.out.2.2.1, HF5.out.2.2.2, HIT.out, fun s hs => ?_⟩
             obtain ⟨j, hj, rfl⟩ := List.mem_iff_getElem.1 hs
             have := HBs.out rfl j (by rw [← HP.out.sl]; exact hj)
             simpa [List.getD, List.getElem?_eq_getElem hj] using this
            go_wp2
            go_ret
            exact ⟨⟨true, rfl, fun _ => HFT.out⟩, G1.out⟩
     ·have g4 : ¬ (x.t.n : Int) ≤ 2000 := by omega
      go_wp2
      go_loopw [3, 4] (fun so si wr => so = .bool false ∧ si = .int .i64 0 ∧ wr = w1) (fun _ _ _ => 0)
      case atStart => exact ⟨rfl, rfl, rfl⟩
      case round =>
       obtain ⟨rfl, rfl, rfl⟩ := hrel
       go_wp2
       all_goals
        go_loopw [3, 5] (fun so si wq => so = .bool false ∧ si = .int .i64 0 ∧ wq = wr) (fun _ _ _ => 0)
        case atStart => exact ⟨rfl, rfl, rfl⟩
        case round =>
         obtain ⟨rfl, rfl, rfl⟩ := hrel
         go_wp2
         all_goals
          go_ret
          exact ⟨⟨false, rfl, fun h => by cases h⟩, G1.out⟩
    ·have g3 : ¬ (x.b.n : Int) ≤ 65536 := by omega
     go_wp2
     go_loopw [3, 4] (fun so si wr => so = .bool false ∧ si = .int .i64 0 ∧ wr = w1) (fun _ _ _ => 0)
     case atStart => exact ⟨rfl, rfl, rfl⟩
     case round =>
      obtain ⟨rfl, rfl, rfl⟩ := hrel
      go_wp2
      all_goals
       go_loopw [3, 5] (fun so si wq => so = .bool false ∧ si = .int .i64 0 ∧ wq = wr) (fun _ _ _ => 0)
       case atStart => exact ⟨rfl, rfl, rfl⟩
       case round =>
        obtain ⟨rfl, rfl, rfl⟩ := hrel
        go_wp2
        all_goals
         go_ret
         exact ⟨⟨false, rfl, fun h => by cases h⟩, G1.out⟩
   ·have g2 : ¬ (x.d.n : Int) ≤ 2000 := by omega
    go_wp2
    go_loopw [3, 4] (fun so si wr => so = .bool false ∧ si = .int .i64 0 ∧ wr = w1) (fun _ _ _ => 0)
    case atStart => exact ⟨rfl, rfl, rfl⟩
    case round =>
     obtain ⟨rfl, rfl, rfl⟩ := hrel
     go_wp2
     all_goals
      go_loopw [3, 5] (fun so si wq => so = .bool false ∧ si = .int .i64 0 ∧ wq = wr) (fun _ _ _ => 0)
      case atStart => exact ⟨rfl, rfl, rfl⟩
      case round =>
       obtain ⟨rfl, rfl, rfl⟩ := hrel
       go_wp2
       all_goals
        go_ret
        exact ⟨⟨false, rfl, fun h => by cases h⟩, G1.out⟩
  ·have g1 : ¬ (x.s.n : Int) ≤ 2000 := by omega
   go_wp2
   go_loopw [3, 4] (fun so si wr => so = .bool false ∧ si = .int .i64 0 ∧ wr = w1) (fun _ _ _ => 0)
   case atStart => exact ⟨rfl, rfl, rfl⟩
   case round =>
    obtain ⟨rfl, rfl, rfl⟩ := hrel
    go_wp2
    all_goals
     go_loopw [3, 5] (fun so si wq => so = .bool false ∧ si = .int .i64 0 ∧ wq = wr) (fun _ _ _ => 0)
     case atStart => exact ⟨rfl, rfl, rfl⟩
     case round =>
      obtain ⟨rfl, rfl, rfl⟩ := hrel
      go_wp2
      all_goals
       go_ret
       exact ⟨⟨false, rfl, fun h => by cases h⟩, G1.out⟩
 ·have g0 : ¬ (x.i.n : Int) ≤ 2000 := by omega
  go_wp2
  go_loopw [3, 4] (fun so si wr => so = .bool false ∧ si = .int .i64 0 ∧ wr = w1) (fun _ _ _ => 0)
  case atStart => exact ⟨rfl, rfl, rfl⟩
  case round =>
   obtain ⟨rfl, rfl, rfl⟩ := hrel
   go_wp2
   all_goals
    go_loopw [3, 5] (fun so si wq => so = .bool false ∧ si = .int .i64 0 ∧ wq = wr) (fun _ _ _ => 0)
    case atStart => exact ⟨rfl, rfl, rfl⟩
    case round =>
     obtain ⟨rfl, rfl, rfl⟩ := hrel
     go_wp2
     all_goals
      go_ret
      exact ⟨⟨false, rfl, fun h => by cases h⟩, G1.out⟩
end Go.Proofs.YtkiopabcnemgnaaGreatDoor
