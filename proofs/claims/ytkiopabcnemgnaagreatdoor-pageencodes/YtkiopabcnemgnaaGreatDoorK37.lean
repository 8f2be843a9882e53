import Derived.Test.YtkiopabcnemgnaaGreatDoorK35
set_option maxRecDepth 100000
set_option maxHeartbeats 8000000
namespace Go.Proofs.YtkiopabcnemgnaaGreatDoor
open Go.RowKit
theorem BodyR.bt {p : Pg} {b : List Int} {e : Int} (h : BodyR p b e) (hi : Ib p.items) (hs : Lb p.seps) (hd : Bt p.data) : Bt b := by
 rcases h with ⟨_, rfl, rfl⟩ | ⟨_, h1⟩ | ⟨_, rfl, rfl⟩ | ⟨_, rfl, rfl⟩ | ⟨_, rfl, rfl⟩
 ·exact enc_bt hi
 ·exact h1.bt hs
 ·exact oD_bt hd
 ·exact oL_bt _ _
 ·exact oM_bt _
theorem refEncode8_any (x : Pv) (p : Pg) (w : World) (hp : Pm w x p) (hf : Fits p) :
  Calls Tryz.prog 16 #[.agg #[.int .i64 x.k, .slice x.i.a x.i.n x.i.c, .int .i64 x.l, .slice x.s.a x.s.n x.s.c, .slice x.d.a x.d.n x.d.c, .int .i64 x.x, .slice x.b.a x.b.n x.b.c, .slice x.t.a x.t.n x.t.c, .int .i64 x.h.v, .int .i64 x.h.c, .int .i64 x.h.r, .int .i64 x.h.h, .int .i64 x.h.k, .int .i64 x.h.f, .int .i64 x.h.n]] w fun en w' => (∃ ao n c zs e, en = .returned (.tuple #[.slice ao n c, .int .i64 e]) ∧ PEnc p zs e ∧ Byt w' ao n c zs ∧ n ≤ 4096 ∧ n ≤ c) ∧ w.grownBy w' none := by
 have HP := hJ hp;have HF := hJ hf;have hkk := hp.kind;clear hp hf
 by_cases h1 : x.k < 1
 ·have HQ : Hid (okK p.kind = false) := by show _ = _; rw [← hkk]; simp [okK]; omega
  clear hkk;go_enter Tryz.func16, Tryz.ntmps16;go_wp2
  go_ret2
  exact ⟨⟨none, 0, 0, [], 80, rfl, .inl ⟨HQ.out, rfl, rfl⟩, Byt.empty _, by omega, Nat.le_refl _⟩, World.grownBy_alloc w _ none⟩
 ·by_cases h5 : 5 < x.k
  ·have HQ : Hid (okK p.kind = false) := by show _ = _; rw [← hkk]; simp [okK]; omega
   clear hkk;go_enter Tryz.func16, Tryz.ntmps16;go_wp2
   go_ret2
   exact ⟨⟨none, 0, 0, [], 80, rfl, .inl ⟨HQ.out, rfl, rfl⟩, Byt.empty _, by omega, Nat.le_refl _⟩, World.grownBy_alloc w _ none⟩
  ·have HQ : Hid (okK p.kind = true) := by show _ = _; rw [← hkk]; simp [okK]; omega
   clear hkk;go_enter Tryz.func16, Tryz.ntmps16;go_upto_region 1 with fail
   have X1 := hJ (Px.new w x);have G1 := hJ (gP w x);generalize w.alloc (.cells #[.int .i64 x.k, .slice x.i.a x.i.n x.i.c, .int .i64 x.l, .slice x.s.a x.s.n x.s.c, .slice x.d.a x.d.n x.d.c, .int .i64 x.x, .slice x.b.a x.b.n x.b.c, .slice x.t.a x.t.n x.t.c, .int .i64 x.h.v, .int .i64 x.h.c, .int .i64 x.h.r, .int .i64 x.h.h, .int .i64 x.h.k, .int .i64 x.h.f, .int .i64 x.h.n] 30) = w1 at *;obtain ⟨c0, c1, c2, c3, c4, c5, c6, c7, c8, c9, c10, c11, c12, c13, c14⟩ := X1.out.cells;go_upto_region 3 with fail
   go_region_law
    (first
     | (have zz := hy; go_simp; go_at_call 22; refine (samePage_any x (hasV x) p (hasP p) _ (by exact M2) (by exact M2.has)).mono ?_; rintro en w3 ⟨⟨b3, rfl, hb3⟩, hg3⟩)
     | (go_simp; go_at_call 37; refine (has_any x _).mono ?_; rintro en w2 ⟨⟨y, rfl, hy⟩, hg2⟩; subst hy; have hy := trivial; have hg2' := gQ ((Qt.refl w1).drew.grown none) hg2; have X2 := X1.out.keptN hg2'; have M2 := HP.out.keptN (gQ G1.out hg2'); obtain ⟨d0, d1, d2, d3, d4, d5, d6, d7, d8, d9, d10, d11, d12, d13, d14⟩ := X2.cells))
   all_goals
    have G3 := hJ (gQ (gQ G1.out hg2') hg3);have X3 := hJ (X2.keptN hg3);have B3 := hJ hb3;clear hy hg2 hg2' hg3 hb3 M2 X2 G1 X1 c0 c1 c2 c3 c4 c5 c6 c7 c8 c9 c10 c11 c12 c13 c14 d0 d1 d2 d3 d4 d5 d6 d7 d8 d9 d10 d11 d12 d13 d14;cases b3 with
    | false =>
     have HN : Hid (p ≠ hasP p) := fun e => absurd (B3.out.2 e) (by decide)
     go_wp2
     go_ret2
     exact ⟨⟨none, 0, 0, [], 81, rfl, .inr (.inl ⟨HQ.out, HN.out, rfl, rfl⟩), Byt.empty _, by omega, Nat.le_refl _⟩, G3.out⟩
    | true =>
     have HE : Hid (p = hasP p) := B3.out.1 rfl;obtain ⟨c0, c1, c2, c3, c4, c5, c6, c7, c8, c9, c10, c11, c12, c13, c14⟩ := X3.out.cells
     go_wp2_with fail
     refine (refBody_any x p _ (HP.out.keptN G3.out) HF.out HQ.out).mono ?_;rintro en w4 ⟨⟨ao, j, c, b, e, rfl, hbr, hb4⟩, hg4⟩;have R4 := hJ hbr;have B4 := hJ hb4;have G4 := hJ (gQ G3.out hg4);clear hbr hb4 hg4 G3 X3 c0 c1 c2 c3 c4 c5 c6 c7 c8 c9 c10 c11 c12 c13 c14
     by_cases he : e = 0
     ·subst he
      go_wp2_with fail
      refine (refSeal_any ao j c b _ B4.out (R4.out.bt HP.out.ib HP.out.sb HP.out.db)).mono ?_;rintro en w5 ⟨po, m, cp, rfl, hb5, hm5, hc5, hg5⟩;have B5 := hJ hb5;have G5 := hJ (gQ G4.out hg5);clear hb5 hg5 G4;go_wp2
      go_ret2
      exact ⟨⟨_, _, _, _, _, rfl, .inr (.inr ⟨HQ.out, HE.out, _, _, R4.out, .inr ⟨rfl, rfl, rfl⟩⟩), B5.out, hm5, hc5⟩, G5.out⟩
     ·have he1 : (e == 0) = false := by simp [he]
      have he2 : (e != 0) = true := by simp [he]
      have HE0 := hJ he;clear he;go_wp2
      go_ret2
      exact ⟨⟨none, 0, 0, [], e, rfl, .inr (.inr ⟨HQ.out, HE.out, _, _, R4.out, .inl ⟨HE0.out, rfl, rfl⟩⟩), Byt.empty _, by omega, Nat.le_refl _⟩, G4.out⟩
structure Fo8 (p : Pg) (w : World) (en : Ending) (w' : World) : Prop where
 out : ∃ b, en = .returned (.bool b) ∧ (b = true → Fits p)
 gr : w.grownBy w' none
theorem fits8_any (x : Pv) (p : Pg) (w : World) (hp : Pm w x p) : Calls Tryz.prog 10 #[.agg #[.int .i64 x.k, .slice x.i.a x.i.n x.i.c, .int .i64 x.l, .slice x.s.a x.s.n x.s.c, .slice x.d.a x.d.n x.d.c, .int .i64 x.x, .slice x.b.a x.b.n x.b.c, .slice x.t.a x.t.n x.t.c, .int .i64 x.h.v, .int .i64 x.h.c, .int .i64 x.h.r, .int .i64 x.h.h, .int .i64 x.h.k, .int .i64 x.h.f, .int .i64 x.h.n]] w fun en w' => Fo8 p w en w' := by
 have HP := hJ hp;clear hp;go_enter Tryz.func10, Tryz.ntmps10;go_upto_region 1 with fail
 have X1 := hJ (Px.new w x);have G1 := hJ (gP w x);have HP1 := hJ (HP.out.keptN G1.out);generalize w.alloc (.cells #[.int .i64 x.k, .slice x.i.a x.i.n x.i.c, .int .i64 x.l, .slice x.s.a x.s.n x.s.c, .slice x.d.a x.d.n x.d.c, .int .i64 x.x, .slice x.b.a x.b.n x.b.c, .slice x.t.a x.t.n x.t.c, .int .i64 x.h.v, .int .i64 x.h.c, .int .i64 x.h.r, .int .i64 x.h.h, .int .i64 x.h.k, .int .i64 x.h.f, .int .i64 x.h.n] 30) = w1 at *;obtain ⟨c0, c1, c2, c3, c4, c5, c6, c7, c8, c9, c10, c11, c12, c13, c14⟩ := X1.out.cells
 by_cases h0 : x.i.n ≤ 2000
 ·have g0 : (x.i.n : Int) ≤ 2000 := by omega
  by_cases h1 : x.s.n ≤ 2000
  ·have g1 : (x.s.n : Int) ≤ 2000 := by omega
   by_cases h2 : x.d.n ≤ 2000
   ·have g2 : (x.d.n : Int) ≤ 2000 := by omega
    by_cases h3 : x.b.n ≤ 65536
    ·have g3 : (x.b.n : Int) ≤ 65536 := by omega
     by_cases h4 : x.t.n ≤ 2000
     ·have g4 : (x.t.n : Int) ≤ 2000 := by omega
      have h0' : p.items.length ≤ 2000 := by rw [HP.out.il]; exact h0
      have HF5 : Hid (p.seps.length ≤ 2000 ∧ p.kids.length ≤ 2000 ∧ p.data.length ≤ 65536 ∧ p.list.length ≤ 2000) := ⟨by rw [HP.out.sl]; exact h1, by rw [HP.out.kl]; exact h2, by rw [HP.out.data.len]; exact h3, by rw [HP.out.tl]; exact h4⟩;go_wp2;go_loopw [3, 4] (fun so si wr => ∃ (i : Nat) (b : Bool), i ≤ x.i.n ∧ si = .int .i64 i ∧ so = .bool b ∧ (b = true → ∀ j, j < i → (p.items.getD j it0).key.length ≤ 65536 ∧ (p.items.getD j it0).val.length ≤ 65536) ∧ wr = w1) (fun _ si _ => x.i.n - (intOf si).toNat)
      case atStart => exact ⟨0, true, Nat.zero_le _, rfl, rfl, fun _ j hj => by omega, rfl⟩
      case round =>
       obtain ⟨i, b, hi, rfl, rfl, hb, rfl⟩ := hrel;have HBb := hJ hb;clear hb;cases b with
       | false =>
        go_wp2
        all_goals
         go_loopw [3, 5] (fun so si wq => so = .bool false ∧ si = .int .i64 0 ∧ wq = wr) (fun _ _ _ => 0)
         case atStart => exact ⟨rfl, rfl, rfl⟩
         case round =>
          obtain ⟨rfl, rfl, rfl⟩ := hrel;go_wp2
          all_goals
           go_ret;exact ⟨⟨false, rfl, fun h => by cases h⟩, G1.out⟩
       | true =>
        by_cases hlt : i < x.i.n
        ·obtain ⟨b1, off, ao, n', c', bo, m', d', ha, q1, q2, _, _, hK, _, _, hV, _, _⟩ := HP1.out.items.row i (by rw [HP.out.il]; exact hlt)
         have e1 : (p.items.getD i it0).key.length = n' := hK.len;have e2 : (p.items.getD i it0).val.length = m' := hV.len;have t1 : (i : Int) < (x.i.n : Int) := by omega
         have t0 : (0 : Int) ≤ (i : Int) := by omega
         have E1 := hJ e1;have E2 := hJ e2;clear hK hV e1 e2
         by_cases u1 : n' ≤ 65536
         ·have v1 : (n' : Int) ≤ 65536 := by omega
          by_cases u2 : m' ≤ 65536
          ·have v2 : (m' : Int) ≤ 65536 := by omega
           go_wp2;go_roundw
           case rel =>
            refine ⟨i + 1, true, by omega, by go_num, rfl, fun _ j hj => ?_, by trivial⟩
            by_cases e : j = i
            ·subst e; rw [E1.out, E2.out]; exact ⟨u1, u2⟩
            ·exact HBb.out rfl j (by omega)
           case measure => simp [intOf]; omega
          ·have v2 : ¬ (m' : Int) ≤ 65536 := by omega
           go_wp2;go_roundw
           case rel => exact ⟨i + 1, false, by omega, by go_num, rfl, (fun h => by cases h), by trivial⟩
           case measure => simp [intOf]; omega
         ·have v1 : ¬ (n' : Int) ≤ 65536 := by omega
          go_wp2;go_roundw
          case rel => exact ⟨i + 1, false, by omega, by go_num, rfl, (fun h => by cases h), by trivial⟩
          case measure => simp [intOf]; omega
        ·obtain rfl : i = x.i.n := by omega
         have t1 : ¬ (x.i.n : Int) < (x.i.n : Int) := by omega
         have HIT : Hid (∀ y ∈ p.items, y.key.length ≤ 65536 ∧ y.val.length ≤ 65536) := by
          intro y hy;obtain ⟨j, hj, rfl⟩ := List.mem_iff_getElem.1 hy;have := HBb.out rfl j (by rw [← HP.out.il]; exact hj);simpa [List.getD, List.getElem?_eq_getElem hj] using this
         clear HBb hlt hi;go_wp2;go_loopw [3, 5] (fun so si wq => ∃ (q : Nat) (b : Bool), q ≤ x.s.n ∧ si = .int .i64 q ∧ so = .bool b ∧ (b = true → ∀ j, j < q → (p.seps.getD j []).length ≤ 65536) ∧ wq = wr) (fun _ si _ => x.s.n - (intOf si).toNat)
         case atStart => exact ⟨0, true, Nat.zero_le _, rfl, rfl, fun _ j hj => by omega, rfl⟩
         case round =>
          obtain ⟨q, b, hq, rfl, rfl, hb, rfl⟩ := hrel;have HBs := hJ hb;clear hb;cases b with
          | false =>
           go_wp2
           all_goals
            go_ret;exact ⟨⟨false, rfl, fun h => by cases h⟩, G1.out⟩
          | true =>
           by_cases hlt : q < x.s.n
           ·obtain ⟨b1, off, ao, k', c', ha, q1, hK, _, _⟩ := HP1.out.seps.row q (by rw [HP.out.sl]; exact hlt)
            have e1 : (p.seps.getD q []).length = k' := hK.len;have E1 := hJ e1;have t2 : (q : Int) < (x.s.n : Int) := by omega
            have t0 : (0 : Int) ≤ (q : Int) := by omega
            clear hK e1
            by_cases u1 : k' ≤ 65536
            ·have v1 : (k' : Int) ≤ 65536 := by omega
             go_wp2;go_roundw
             case rel =>
              refine ⟨q + 1, true, by omega, by go_num, rfl, fun _ j hj => ?_, by trivial⟩
              by_cases e : j = q
              ·subst e; rw [E1.out]; exact u1
              ·exact HBs.out rfl j (by omega)
             case measure => simp [intOf]; omega
            ·have v1 : ¬ (k' : Int) ≤ 65536 := by omega
             go_wp2;go_roundw
             case rel => exact ⟨q + 1, false, by omega, by go_num, rfl, (fun h => by cases h), by trivial⟩
             case measure => simp [intOf]; omega
           ·obtain rfl : q = x.s.n := by omega
            have t2 : ¬ (x.s.n : Int) < (x.s.n : Int) := by omega
            have HFT : Hid (Fits p) := by
             refine ⟨h0', HF5.out.1, HF5.out.2.1, HF5.out.2.2.1, HF5.out.2.2.2, HIT.out, fun s hs => ?_⟩;obtain ⟨j, hj, rfl⟩ := List.mem_iff_getElem.1 hs;have := HBs.out rfl j (by rw [← HP.out.sl]; exact hj);simpa [List.getD, List.getElem?_eq_getElem hj] using this
            go_wp2;go_ret;exact ⟨⟨true, rfl, fun _ => HFT.out⟩, G1.out⟩
     ·have g4 : ¬ (x.t.n : Int) ≤ 2000 := by omega
      go_wp2;go_loopw [3, 4] (fun so si wr => so = .bool false ∧ si = .int .i64 0 ∧ wr = w1) (fun _ _ _ => 0)
      case atStart => exact ⟨rfl, rfl, rfl⟩
      case round =>
       obtain ⟨rfl, rfl, rfl⟩ := hrel;go_wp2
       all_goals
        go_loopw [3, 5] (fun so si wq => so = .bool false ∧ si = .int .i64 0 ∧ wq = wr) (fun _ _ _ => 0)
        case atStart => exact ⟨rfl, rfl, rfl⟩
        case round =>
         obtain ⟨rfl, rfl, rfl⟩ := hrel;go_wp2
         all_goals
          go_ret;exact ⟨⟨false, rfl, fun h => by cases h⟩, G1.out⟩
    ·have g3 : ¬ (x.b.n : Int) ≤ 65536 := by omega
     go_wp2;go_loopw [3, 4] (fun so si wr => so = .bool false ∧ si = .int .i64 0 ∧ wr = w1) (fun _ _ _ => 0)
     case atStart => exact ⟨rfl, rfl, rfl⟩
     case round =>
      obtain ⟨rfl, rfl, rfl⟩ := hrel;go_wp2
      all_goals
       go_loopw [3, 5] (fun so si wq => so = .bool false ∧ si = .int .i64 0 ∧ wq = wr) (fun _ _ _ => 0)
       case atStart => exact ⟨rfl, rfl, rfl⟩
       case round =>
        obtain ⟨rfl, rfl, rfl⟩ := hrel;go_wp2
        all_goals
         go_ret;exact ⟨⟨false, rfl, fun h => by cases h⟩, G1.out⟩
   ·have g2 : ¬ (x.d.n : Int) ≤ 2000 := by omega
    go_wp2;go_loopw [3, 4] (fun so si wr => so = .bool false ∧ si = .int .i64 0 ∧ wr = w1) (fun _ _ _ => 0)
    case atStart => exact ⟨rfl, rfl, rfl⟩
    case round =>
     obtain ⟨rfl, rfl, rfl⟩ := hrel;go_wp2
     all_goals
      go_loopw [3, 5] (fun so si wq => so = .bool false ∧ si = .int .i64 0 ∧ wq = wr) (fun _ _ _ => 0)
      case atStart => exact ⟨rfl, rfl, rfl⟩
      case round =>
       obtain ⟨rfl, rfl, rfl⟩ := hrel;go_wp2
       all_goals
        go_ret;exact ⟨⟨false, rfl, fun h => by cases h⟩, G1.out⟩
  ·have g1 : ¬ (x.s.n : Int) ≤ 2000 := by omega
   go_wp2;go_loopw [3, 4] (fun so si wr => so = .bool false ∧ si = .int .i64 0 ∧ wr = w1) (fun _ _ _ => 0)
   case atStart => exact ⟨rfl, rfl, rfl⟩
   case round =>
    obtain ⟨rfl, rfl, rfl⟩ := hrel;go_wp2
    all_goals
     go_loopw [3, 5] (fun so si wq => so = .bool false ∧ si = .int .i64 0 ∧ wq = wr) (fun _ _ _ => 0)
     case atStart => exact ⟨rfl, rfl, rfl⟩
     case round =>
      obtain ⟨rfl, rfl, rfl⟩ := hrel;go_wp2
      all_goals
       go_ret;exact ⟨⟨false, rfl, fun h => by cases h⟩, G1.out⟩
 ·have g0 : ¬ (x.i.n : Int) ≤ 2000 := by omega
  go_wp2;go_loopw [3, 4] (fun so si wr => so = .bool false ∧ si = .int .i64 0 ∧ wr = w1) (fun _ _ _ => 0)
  case atStart => exact ⟨rfl, rfl, rfl⟩
  case round =>
   obtain ⟨rfl, rfl, rfl⟩ := hrel;go_wp2
   all_goals
    go_loopw [3, 5] (fun so si wq => so = .bool false ∧ si = .int .i64 0 ∧ wq = wr) (fun _ _ _ => 0)
    case atStart => exact ⟨rfl, rfl, rfl⟩
    case round =>
     obtain ⟨rfl, rfl, rfl⟩ := hrel;go_wp2
     all_goals
      go_ret;exact ⟨⟨false, rfl, fun h => by cases h⟩, G1.out⟩
structure Fd8 where
 i : Int
 l : Int
 s : Int
 d : Int
 x : Int
 b : Int
 t : Int
 h : Hd
def fz : Fd8 := ⟨0, 0, 0, 0, 0, 0, 0, zH⟩
theorem flds_fields : Tryz.prog.underlying 75 = some (.struct (Tryz.prog.fieldsOf 75)) := by kernel_rfl
theorem flds_held : Tryz.prog.stoodInHeld 75 = false := by kernel_rfl
theorem isAgg_head (w : World) : (isAgg 28).run Tryz.prog w = .ok true w := by
 simp [isAgg, run_underlying Tryz.underlying28]
theorem sizeOf_head (w : World) : (sizeOf 28).run Tryz.prog w = .ok 7 w := by
 have h := head_size;obtain ⟨i, hi, h7⟩ := Option.map_eq_some_iff.1 h;simp [sizeOf, typeInfo, hi, h7]
theorem part_head (cs : Array Value) (off : Nat) (w : World) : (Go.part 28 cs off).run Tryz.prog w = .ok (.agg (cs.extract off (off + 7))) w := by
 simp only [Go.part, Sem.run_bind, isAgg_head, Result.andThen_ok, if_true, sizeOf_head]
 rfl
theorem eqFields_then (d : Nat) (xs ys : List Int) (w : World) (tl : List Field) (bt : Bool) (ht : (Op.eqFields (d + 1) (xs.map (Value.int .i64)).toArray (ys.map (Value.int .i64)).toArray tl).run Tryz.prog w = .ok bt w) : ∀ fs : List Field, (∀ g ∈ fs, g.name ≠ "_" ∧ g.type = 3 ∧ g.offset < xs.length ∧ g.offset < ys.length) →
  (Op.eqFields (d + 1) (xs.map (Value.int .i64)).toArray (ys.map (Value.int .i64)).toArray (fs ++ tl)).run Tryz.prog w = .ok ((fs.all fun g => xs.getD g.offset 0 == ys.getD g.offset 0) && bt) w
 | [], _ => by simpa using ht
 | g :: fs, h => by
  obtain ⟨h1, h2, h3, h4⟩ := h g List.mem_cons_self;have p1 := run_part_plain (P := Tryz.prog) (w := w) plain_int (get_byte xs g.offset h3 .i64);have p2 := run_part_plain (P := Tryz.prog) (w := w) plain_int (get_byte ys g.offset h4 .i64);have p3 := run_equalIn_int (P := Tryz.prog) (w := w) d 3 .i64 .i64 (xs.getD g.offset 0) (ys.getD g.offset 0) Tryz.underlying3;have ih := eqFields_then d xs ys w tl bt ht fs (fun j hj => h j (List.mem_cons_of_mem _ hj));simp only [List.cons_append, Op.eqFields, h1, h2, ne_eq, not_false_eq_true, if_true, Sem.run_bind, p1, p2, p3, Result.andThen_ok, List.all_cons];cases (xs.getD g.offset 0 == ys.getD g.offset 0)
  ·simp
  ·simp only [Bool.not_true, Bool.false_eq_true, if_false, Bool.true_and]; exact ih
theorem equal_head (d : Nat) (xs ys : List Int) (hx : xs.length = 7) (hy : ys.length = 7) (w : World) : (Op.equalIn (d + 2) 28 (.agg (xs.map (Value.int .i64)).toArray) (.agg (ys.map (Value.int .i64)).toArray)).run Tryz.prog w = .ok (decide (xs = ys)) w := by
 obtain ⟨F, hF⟩ : ∃ F, F = Tryz.prog.fieldsOf 28 := ⟨_, rfl⟩;have hu := head_fields;rw [Tryz.underlying28, ← hF] at hu;rw [run_equalIn_struct w (d + 1) 28 _ _ head_fields head_held, ← hF];have hf := (TypeDesc.struct.inj (Option.some.inj hu)).symm;subst hf;rw [eqFields_ints d _ _ w _ (by intro g hg; simp at hg; rcases hg with rfl | rfl | rfl | rfl | rfl | rfl | rfl <;> exact ⟨by decide, rfl, by simp; omega, by simp; omega⟩)]
 congr 1
 rw [Bool.eq_iff_iff]
 obtain ⟨a, b, c, e, f, g, h, rfl⟩ : ∃ a b c e f g h, xs = [a, b, c, e, f, g, h] := by
  match xs, hx with
  | [a, b, c, e, f, g, h], _ => exact ⟨a, b, c, e, f, g, h, rfl⟩
 obtain ⟨a', b', c', e', f', g', h', rfl⟩ : ∃ a b c e f g h, ys = [a, b, c, e, f, g, h] := by
  match ys, hy with
  | [a, b, c, e, f, g, h], _ => exact ⟨a, b, c, e, f, g, h, rfl⟩
 simp
def fli (f : Fd8) : List Int := [f.i, f.l, f.s, f.d, f.x, f.b, f.t, f.h.v, f.h.c, f.h.r, f.h.h, f.h.k, f.h.f, f.h.n]
theorem fli_inj {f g : Fd8} (h : fli f = fli g) : f = g := by
 obtain ⟨i, l, s, d, x, b, t, ⟨v, c, r, hh, k, ff, n⟩⟩ := f;obtain ⟨i', l', s', d', x', b', t', ⟨v', c', r', hh', k', ff', n'⟩⟩ := g;simp only [fli, List.cons.injEq, and_true] at h;obtain ⟨rfl, rfl, rfl, rfl, rfl, rfl, rfl, rfl, rfl, rfl, rfl, rfl, rfl, rfl⟩ := h
 rfl
theorem neq_flds (f g : Fd8) (w : World) : (binOp .neq 75 (.agg #[.int .i64 f.i, .int .i64 f.l, .int .i64 f.s, .int .i64 f.d, .int .i64 f.x, .int .i64 f.b, .int .i64 f.t, .int .i64 f.h.v, .int .i64 f.h.c, .int .i64 f.h.r, .int .i64 f.h.h, .int .i64 f.h.k, .int .i64 f.h.f, .int .i64 f.h.n]) (.agg #[.int .i64 g.i, .int .i64 g.l, .int .i64 g.s, .int .i64 g.d, .int .i64 g.x, .int .i64 g.b, .int .i64 g.t, .int .i64 g.h.v, .int .i64 g.h.c, .int .i64 g.h.r, .int .i64 g.h.h, .int .i64 g.h.k, .int .i64 g.h.f, .int .i64 g.h.n])).run Tryz.prog w = .ok (.bool (!decide (fli f = fli g))) w := by
 have e1 : (#[.int .i64 f.i, .int .i64 f.l, .int .i64 f.s, .int .i64 f.d, .int .i64 f.x, .int .i64 f.b, .int .i64 f.t, .int .i64 f.h.v, .int .i64 f.h.c, .int .i64 f.h.r, .int .i64 f.h.h, .int .i64 f.h.k, .int .i64 f.h.f, .int .i64 f.h.n] : Array Value) = ((fli f).map (Value.int .i64)).toArray := rfl;have e2 : (#[.int .i64 g.i, .int .i64 g.l, .int .i64 g.s, .int .i64 g.d, .int .i64 g.x, .int .i64 g.b, .int .i64 g.t, .int .i64 g.h.v, .int .i64 g.h.c, .int .i64 g.h.r, .int .i64 g.h.h, .int .i64 g.h.k, .int .i64 g.h.f, .int .i64 g.h.n] : Array Value) = ((fli g).map (Value.int .i64)).toArray := rfl;rw [e1, e2];obtain ⟨F, hF⟩ : ∃ F, F = Tryz.prog.fieldsOf 75 := ⟨_, rfl⟩;have hu := flds_fields;rw [Tryz.underlying75, ← hF] at hu;rw [run_neq_struct, show (10000 : Nat) = 9999 + 1 from rfl, run_equalIn_struct w 9999 75 _ _ flds_fields flds_held, ← hF];have hf := (TypeDesc.struct.inj (Option.some.inj hu)).symm;subst hf;have hd : ∀ f : Fd8, (((fli f).map (Value.int .i64)).toArray).extract 7 (7 + 7) = (([f.h.v, f.h.c, f.h.r, f.h.h, f.h.k, f.h.f, f.h.n] : List Int).map (Value.int .i64)).toArray := fun f => rfl
 have key : ∀ (tl : Field) (fs : List Field), tl.name ≠ "_" → tl.type = 28 → tl.offset = 7 → (∀ g' ∈ fs, g'.name ≠ "_" ∧ g'.type = 3 ∧ g'.offset < (fli f).length ∧ g'.offset < (fli g).length) →
   (Op.eqFields (9998 + 1) ((fli f).map (Value.int .i64)).toArray ((fli g).map (Value.int .i64)).toArray (fs ++ [tl])).run Tryz.prog w = .ok ((fs.all fun q => (fli f).getD q.offset 0 == (fli g).getD q.offset 0) && decide (([f.h.v, f.h.c, f.h.r, f.h.h, f.h.k, f.h.f, f.h.n] : List Int) = [g.h.v, g.h.c, g.h.r, g.h.h, g.h.k, g.h.f, g.h.n])) w := by
  intro tl fs t1 t2 t3 hfs;refine eqFields_then 9998 _ _ w [tl] _ ?_ fs hfs;have p1 := part_head ((fli f).map (Value.int .i64)).toArray 7 w;have p2 := part_head ((fli g).map (Value.int .i64)).toArray 7 w;rw [hd] at p1 p2;have p3 := equal_head 9997 [f.h.v, f.h.c, f.h.r, f.h.h, f.h.k, f.h.f, f.h.n] [g.h.v, g.h.c, g.h.r, g.h.h, g.h.k, g.h.f, g.h.n] rfl rfl w;simp only [Op.eqFields, t1, t2, t3, ne_eq, not_false_eq_true, if_true, Sem.run_bind, p1, p2, p3, Result.andThen_ok];cases decide (([f.h.v, f.h.c, f.h.r, f.h.h, f.h.k, f.h.f, f.h.n] : List Int) = [g.h.v, g.h.c, g.h.r, g.h.h, g.h.k, g.h.f, g.h.n]) <;> simp
 have k2 : ∀ a b c d e f' g' tl : Field, tl.name ≠ "_" → tl.type = 28 → tl.offset = 7 → (∀ q ∈ [a, b, c, d, e, f', g'], q.name ≠ "_" ∧ q.type = 3 ∧ q.offset < (fli f).length ∧ q.offset < (fli g).length) → (Op.eqFields (9998 + 1) ((fli f).map (Value.int .i64)).toArray ((fli g).map (Value.int .i64)).toArray [a, b, c, d, e, f', g', tl]).run Tryz.prog w = _ := fun a b c d e f' g' tl h1 h2 h3 h4 => key tl [a, b, c, d, e, f', g'] h1 h2 h3 h4
 rw [show (9999 : Nat) = 9998 + 1 from rfl, k2 _ _ _ _ _ _ _ _ (by decide) rfl rfl (by intro q hq; simp at hq; rcases hq with rfl | rfl | rfl | rfl | rfl | rfl | rfl <;> exact ⟨by decide, rfl, by simp [fli], by simp [fli]⟩)]
 show Result.ok (Value.bool _) w = _
 congr 2
 congr 1
 rw [Bool.eq_iff_iff];simp [fli, and_assoc]
theorem guard_flds (x y : Operand) (f g : Fd8) (w : World) : (eqGuard .neq 75 x y (.agg #[.int .i64 f.i, .int .i64 f.l, .int .i64 f.s, .int .i64 f.d, .int .i64 f.x, .int .i64 f.b, .int .i64 f.t, .int .i64 f.h.v, .int .i64 f.h.c, .int .i64 f.h.r, .int .i64 f.h.h, .int .i64 f.h.k, .int .i64 f.h.f, .int .i64 f.h.n]) (.agg #[.int .i64 g.i, .int .i64 g.l, .int .i64 g.s, .int .i64 g.d, .int .i64 g.x, .int .i64 g.b, .int .i64 g.t, .int .i64 g.h.v, .int .i64 g.h.c, .int .i64 g.h.r, .int .i64 g.h.h, .int .i64 g.h.k, .int .i64 g.h.f, .int .i64 g.h.n])).run Tryz.prog w = .ok () w :=
 run_eqGuard_agg w .neq 75 x y _ _ (by kernel_rfl)
end Go.Proofs.YtkiopabcnemgnaaGreatDoor
