import Derived.Test.YtkiopabcnemgnaaGreatDoorK39
set_option maxRecDepth 100000
set_option maxHeartbeats 4000000
namespace Go.Proofs.YtkiopabcnemgnaaGreatDoor
open Go.RowKit
theorem encode8_1 (x : Pv) (p : Pg) (w : World) (hp : Pm w x p) (he : En8 x p) (ht : Tab w) (hm : Mk w) (hk : p.kind = 1) : Calls Tryz.prog 13 #[.agg #[.int .i64 x.k, .slice x.i.a x.i.n x.i.c, .int .i64 x.l, .slice x.s.a x.s.n x.s.c, .slice x.d.a x.d.n x.d.c, .int .i64 x.x, .slice x.b.a x.b.n x.b.c, .slice x.t.a x.t.n x.t.c, .int .i64 x.h.v, .int .i64 x.h.c, .int .i64 x.h.r, .int .i64 x.h.h, .int .i64 x.h.k, .int .i64 x.h.f, .int .i64 x.h.n]] w fun en w' => Eo8 p w en w' := by
 have e1 : kvOf x.k = #[.int .i64 1, .func (.func 71) #[] #[], .func (.func 72) #[] #[], .func (.func 73) #[] #[]] := by rw [hp.kind, hk]; rfl
 have e2 : okK x.k = true := by rw [hp.kind, hk]; rfl
 have HQ : Hid (okK p.kind = true) := by show _ = _; rw [hk]; rfl
 have HS := hJ (spare1_iff hp hk);have HP := hJ hp;have HE := hJ he;have HT := hJ ht;have HM := hJ hm;have HK := hJ hk;have E1 := hJ e1;have E2 := hJ e2;clear hp he ht hm hk e1 e2;go_enter Tryz.func13, Tryz.ntmps13;go_upto_region 1 with fail
 have X1 := hJ (Px.new w x);have G1 := hJ (gP w x);generalize w.alloc (.cells #[.int .i64 x.k, .slice x.i.a x.i.n x.i.c, .int .i64 x.l, .slice x.s.a x.s.n x.s.c, .slice x.d.a x.d.n x.d.c, .int .i64 x.x, .slice x.b.a x.b.n x.b.c, .slice x.t.a x.t.n x.t.c, .int .i64 x.h.v, .int .i64 x.h.c, .int .i64 x.h.r, .int .i64 x.h.h, .int .i64 x.h.k, .int .i64 x.h.f, .int .i64 x.h.n] 30) = w1 at *;obtain ⟨c0, c1, c2, c3, c4, c5, c6, c7, c8, c9, c10, c11, c12, c13, c14⟩ := X1.out.cells
 go_wp2_with fail
 refine (kindOf_any x.k _).mono ?_;rintro en w2 ⟨rfl, hg2⟩;rw [E1.out, E2.out];have ga := World.grownBy_alloc w2 (.cells #[.int .i64 1, .func (.func 71) #[] #[], .func (.func 72) #[] #[], .func (.func 73) #[] #[]] 71) none;have X3 := hJ ((X1.out.keptN hg2).keptN ga);have G3 := hJ (gQ (gQ G1.out hg2) ga);have K3 := hJ (Kz8.new w2 #[.int .i64 1, .func (.func 71) #[] #[], .func (.func 72) #[] #[], .func (.func 73) #[] #[]]);have hl2 : w.heap.size < w2.heap.size := Nat.lt_of_lt_of_le X1.out.lt hg2.size;clear hg2 ga X1 G1 c0 c1 c2 c3 c4 c5 c6 c7 c8 c9 c10 c11 c12 c13 c14;go_upto_region 2 with fail
 generalize w2.alloc (.cells #[.int .i64 1, .func (.func 71) #[] #[], .func (.func 72) #[] #[], .func (.func 73) #[] #[]] 71) = w3 at *;generalize w2.heap.size = T at *;obtain ⟨c0, c1, c2, c3, c4, c5, c6, c7, c8, c9, c10, c11, c12, c13, c14⟩ := X3.out.cells;obtain ⟨k0, k1, k2, k3⟩ := Kz8.at4 K3.out;go_upto_region 4 with fail
 go_region_law
  (first
   | (have zz := hf4; go_simp; go_at_call 73; refine (spare1_any f4 _).mono ?_; rintro en w5 ⟨⟨f5, rfl, hf5'⟩, hg5⟩; have hf5 := hJ hf5'; clear hf5'; have heq : ∀ W : World, (binOp .neq 75 (.agg #[.int .i64 f5.i, .int .i64 f5.l, .int .i64 f5.s, .int .i64 f5.d, .int .i64 f5.x, .int .i64 f5.b, .int .i64 f5.t, .int .i64 f5.h.v, .int .i64 f5.h.c, .int .i64 f5.h.r, .int .i64 f5.h.h, .int .i64 f5.h.k, .int .i64 f5.h.f, .int .i64 f5.h.n]) (.agg #[.int .i64 0, .int .i64 0, .int .i64 0, .int .i64 0, .int .i64 0, .int .i64 0, .int .i64 0, .int .i64 0, .int .i64 0, .int .i64 0, .int .i64 0, .int .i64 0, .int .i64 0, .int .i64 0])).run Tryz.prog W = .ok (.bool (!decide (fli f5 = fli fz))) W := (fun W => neq_flds f5 fz W); have hgu : ∀ (a b : Operand) (W : World), (eqGuard .neq 75 a b (.agg #[.int .i64 f5.i, .int .i64 f5.l, .int .i64 f5.s, .int .i64 f5.d, .int .i64 f5.x, .int .i64 f5.b, .int .i64 f5.t, .int .i64 f5.h.v, .int .i64 f5.h.c, .int .i64 f5.h.r, .int .i64 f5.h.h, .int .i64 f5.h.k, .int .i64 f5.h.f, .int .i64 f5.h.n]) (.agg #[.int .i64 0, .int .i64 0, .int .i64 0, .int .i64 0, .int .i64 0, .int .i64 0, .int .i64 0, .int .i64 0, .int .i64 0, .int .i64 0, .int .i64 0, .int .i64 0, .int .i64 0, .int .i64 0])).run Tryz.prog W = .ok () W := (fun a b W => guard_flds a b f5 fz W))
   | (go_simp; go_at_call 35; refine (fieldsOf_any x _).mono ?_; rintro en w4 ⟨⟨f4, rfl, hf4'⟩, hg4⟩; have hf4 := hJ hf4'; clear hf4'; have hg4' := gQ ((Qt.refl w3).drew.grown none) hg4; have X4 := X3.out.keptN hg4'; have K4 := K3.out.keptN hg4'; obtain ⟨d0, d1, d2, d3⟩ := Kz8.at4 K4; obtain ⟨b0, b1, b2, b3, b4, b5, b6, b7, b8, b9, b10, b11, b12, b13, b14⟩ := X4.cells))
 all_goals
  have HF : Hid (f5 = fz ↔ p = hasP p) := by show _ ↔ _; rw [hf5.out, hf4.out]; exact HS.out
  have X5 := hJ (X4.keptN hg5);have K5 := hJ (K4.keptN hg5);have G5 := hJ (gQ (gQ G3.out hg4') hg5);clear hg5 hg4 hg4' hf4 hf5 heq hgu X4 K4 d0 d1 d2 d3 b0 b1 b2 b3 b4 b5 b6 b7 b8 b9 b10 b11 b12 b13 b14 c0 c1 c2 c3 c4 c5 c6 c7 c8 c9 c10 c11 c12 c13 c14 k0 k1 k2 k3 X3 K3 G3
  by_cases hz : fli f5 = fli fz
  ·have HZ := hJ (HF.out.1 (fli_inj hz))
   have hz2 : (!decide (fli f5 = fli fz)) = false := by simp [hz]
   rw [hz2];clear hz hz2 HF;obtain ⟨c0, c1, c2, c3, c4, c5, c6, c7, c8, c9, c10, c11, c12, c13, c14⟩ := X5.out.cells;obtain ⟨k0, k1, k2, k3⟩ := Kz8.at4 K5.out
   go_wp2_with fail
   refine (enc1_any x p _ (HP.out.keptN G5.out) HE.out (HM.out.keptN G5.out) HK.out).mono ?_;rintro en w6 ⟨⟨ao, j, c, b, e, rfl, hbr, hb6⟩, hg6⟩;have R6 := hJ hbr;have B6 := hJ hb6;have G6 := hJ (gQ G5.out hg6);clear hbr hb6 hg6 G5 X5 K5 c0 c1 c2 c3 c4 c5 c6 c7 c8 c9 c10 c11 c12 c13 c14 k0 k1 k2 k3
   by_cases he : e = 0
   ·subst he
    go_wp2_with fail
    refine (seal8_any ao j c b _ B6.out (R6.out.bt HP.out.ib HP.out.sb HP.out.db) (HT.out.keptN G6.out)).mono ?_;rintro en w7 ⟨po, m, rfl, hb7, hm7, hn7, hg7⟩;have B7 := hJ hb7;have N7 := hJ hn7;have G7 := hJ (gQ G6.out hg7);have hs7 := G6.out.size;clear hb7 hg7 hn7 G6;go_wp2
    go_ret2
    exact ⟨⟨_, _, _, _, rfl, .inr (.inr ⟨HQ.out, HZ.out, _, _, R6.out, .inr ⟨rfl, rfl, rfl⟩⟩), B7.out, sealL_bt (R6.out.bt HP.out.ib HP.out.sb HP.out.db), hm7, fun h => by obtain ⟨g, h1, h2, h3⟩ := N7.out h; exact ⟨g, h1, by omega, h3⟩⟩, G7.out⟩
   ·have he1 : (e == 0) = false := by simp [he]
    have he2 : (e != 0) = true := by simp [he]
    have HE0 := hJ he;clear he;go_wp2
    go_ret2
    exact ⟨⟨none, 0, [], e, rfl, .inr (.inr ⟨HQ.out, HZ.out, _, _, R6.out, .inl ⟨HE0.out, rfl, rfl⟩⟩), Byt.empty _, Bt.nil, by omega, fun h => by omega⟩, G6.out⟩
  ·have HZ : Hid (p ≠ hasP p) := fun e => hz (by rw [HF.out.2 e])
   have hz2 : (!decide (fli f5 = fli fz)) = true := by simp [hz]
   rw [hz2];clear hz hz2 HF;go_wp2
   go_ret2
   exact ⟨⟨none, 0, [], 81, rfl, .inr (.inl ⟨HQ.out, HZ.out, rfl, rfl⟩), Byt.empty _, Bt.nil, by omega, fun h => by omega⟩, G5.out⟩
end Go.Proofs.YtkiopabcnemgnaaGreatDoor
