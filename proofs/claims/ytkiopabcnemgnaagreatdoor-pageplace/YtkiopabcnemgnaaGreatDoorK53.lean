import Derived.Test.YtkiopabcnemgnaaGreatDoorK52
import Derived.Great.Walk
set_option maxRecDepth 100000
set_option maxHeartbeats 8000000
namespace Go.Proofs.YtkiopabcnemgnaaGreatDoor
open Go.RowKit
attribute [local go_sem ↓] Go.wp_at_zero Go.wp_at_succ
theorem kc_one : ∀ (K : List Kd), ∀ v ∈ kc K, v.oneCell' = true
 | [], v, h => by cases h
 | k :: K, v, h => by
  simp only [kc, List.mem_cons] at h;rcases h with rfl | rfl | h
  ·rfl
  ·rfl
  ·exact kc_one K v h
theorem kl_take {w : World} {a : Option Addr} {K : List Kd} (h : Kl w a K) (m : Nat) : 0 < (kc (K.take m)).length → ∃ ad, a = some ad ∧ ∀ j v, (kc (K.take m))[j]? = some v → w.cell? (ad.add j) = some v := fun h0 => by
 have hl := kc_len (K.take m);have ht : (K.take m).length = min m K.length := List.length_take;obtain ⟨b, off, h1, _, _⟩ := h.row 0 (by omega);refine ⟨⟨b, off, none⟩, h1, fun j v hj => ?_⟩;have hj2 : j < (kc (K.take m)).length := (List.getElem?_eq_some_iff.1 hj).1;have hi : j / 2 < (K.take m).length := by omega
 obtain ⟨b', off', h2, h3, h4⟩ := h.row (j / 2) (by omega);obtain ⟨g1, g2⟩ := kc_get (K.take m) (j / 2) hi
 have e : (K.take m).getD (j / 2) kd0 = K.getD (j / 2) kd0 := by
  simp only [List.getD]; rw [List.getElem?_take_of_lt (by omega)]
 rw [e] at g1 g2;rw [h1] at h2;injection h2 with h2
 injection h2 with h2 h5
 subst h2 h5;rw [Addr.add_lit];rcases Nat.mod_two_eq_zero_or_one j with q | q
 ·have ej : j / 2 * 2 = j := by omega
  rw [ej] at g1 h3;rw [g1] at hj;rw [h3]; exact hj
 ·have ej : j / 2 * 2 + 1 = j := by omega
  rw [ej] at g2;rw [Nat.add_assoc, ej] at h4;rw [g2] at hj;rw [h4]; exact hj
theorem nt_take {w : World} {a : Option Addr} {K : List Int} (h : Nt w a K) (m : Nat) : 0 < ((K.take m).map (Value.int .i64)).length → ∃ ad, a = some ad ∧ ∀ j v, ((K.take m).map (Value.int .i64))[j]? = some v → w.cell? (ad.add j) = some v := fun h0 => by
 rw [List.length_map, List.length_take] at h0;obtain ⟨b, off, h1, _⟩ := h.row 0 (by omega);refine ⟨⟨b, off, none⟩, h1, fun j v hj => ?_⟩;have hj2 : j < ((K.take m).map (Value.int .i64)).length := (List.getElem?_eq_some_iff.1 hj).1;rw [List.length_map, List.length_take] at hj2;obtain ⟨b', off', h2, h3⟩ := h.row j (by omega);rw [h1] at h2;injection h2 with h2
 injection h2 with h2 h5
 subst h2 h5;rw [Addr.add_lit];rw [h3, ← hj, List.getElem?_map, List.getElem?_take_of_lt (by omega)];simp [List.getD, List.getElem?_eq_getElem (show j < K.length by omega)]
theorem turn8_any (w0 : World) (base : Nat) (y x : Pv) (p o : Pg) (b : Bk8) (w : World) (h0 : w0.heap.size ≤ base) (hg0 : w0.grownBy w none) (hl : Lt8 w base y p b) (hf : Fits p) (ho : Pm w0 x o) (hfo : Fits o) :
  Calls Tryz.prog 14 #[.agg #[.int .i64 y.k, .slice y.i.a y.i.n y.i.c, .int .i64 y.l, .slice y.s.a y.s.n y.s.c, .slice y.d.a y.d.n y.d.c, .int .i64 y.x, .slice y.b.a y.b.n y.b.c, .slice y.t.a y.t.n y.t.c, .int .i64 y.h.v, .int .i64 y.h.c, .int .i64 y.h.r, .int .i64 y.h.h, .int .i64 y.h.k, .int .i64 y.h.f, .int .i64 y.h.n], .agg #[.int .i64 x.k, .slice x.i.a x.i.n x.i.c, .int .i64 x.l, .slice x.s.a x.s.n x.s.c, .slice x.d.a x.d.n x.d.c, .int .i64 x.x, .slice x.b.a x.b.n x.b.c, .slice x.t.a x.t.n x.t.c, .int .i64 x.h.v, .int .i64 x.h.c, .int .i64 x.h.r, .int .i64 x.h.h, .int .i64 x.h.k, .int .i64 x.h.f, .int .i64 x.h.n]] w fun en w' => en = .returned (.tuple #[]) ∧ (∃ p', Lt8 w' base y p' b ∧ Fits p' ∧ w0.grownBy w' none) ∧ ∀ (T : Nat) (z : Pv), Px w T z → Px w' T z := by
 obtain ⟨i1, hi1, hy0, hy1, hy2⟩ := info_parts info_u8;have HU : Hid ((Tryz.prog.info? 5).map (·.size) = some 1) := by rw [hi1]; exact congrArg some hy1
 obtain ⟨i2, hi2, hz0, hz1, hz2⟩ := info_parts info_kid;have HKI : Hid ((Tryz.prog.info? 67).map (·.size) = some 2) := by rw [hi2]; exact congrArg some hz1
 obtain ⟨i3, hi3, hv0, hv1, hv2⟩ := info_parts info_int6;have HIN : Hid ((Tryz.prog.info? 3).map (·.size) = some 1) := by rw [hi3]; exact congrArg some hv1
 have HL := hJ hl;have HO := hJ ho;have HF := hJ hf;have HFO := hJ hfo;have HG := hJ hg0;have HYI : Hid (y.i.a = some ⟨b.A, 0, none⟩ ∧ y.i.c = b.c) := by rw [hl.yi]; exact ⟨rfl, rfl⟩
 have HYS : Hid (y.s.a = some ⟨b.B, 0, none⟩ ∧ y.s.c = b.d) := by rw [hl.ys]; exact ⟨rfl, rfl⟩
 have hyn : y.i.n ≤ 2000 := by rw [hl.yi]; exact hf.items
 have hyn2 : y.s.n ≤ 2000 := by rw [hl.ys]; exact hf.seps
 have hni := ho.il;have hni2 := hfo.items;have hns := ho.sl;have hns2 := hfo.seps;clear hl hf ho hfo hg0 hy0 hy1 hy2 hz0 hz1 hz2 hv0 hv1 hv2 hi1 hi2 hi3;go_enter Tryz.func14, Tryz.ntmps14;go_upto_region 1 with fail
 have Y1 := hJ ((Px.new w y).keptN (gP _ x));have X1 : Hid (Px ((w.alloc (.cells #[.int .i64 y.k, .slice y.i.a y.i.n y.i.c, .int .i64 y.l, .slice y.s.a y.s.n y.s.c, .slice y.d.a y.d.n y.d.c, .int .i64 y.x, .slice y.b.a y.b.n y.b.c, .slice y.t.a y.t.n y.t.c, .int .i64 y.h.v, .int .i64 y.h.c, .int .i64 y.h.r, .int .i64 y.h.h, .int .i64 y.h.k, .int .i64 y.h.f, .int .i64 y.h.n] 30)).alloc (.cells #[.int .i64 x.k, .slice x.i.a x.i.n x.i.c, .int .i64 x.l, .slice x.s.a x.s.n x.s.c, .slice x.d.a x.d.n x.d.c, .int .i64 x.x, .slice x.b.a x.b.n x.b.c, .slice x.t.a x.t.n x.t.c, .int .i64 x.h.v, .int .i64 x.h.c, .int .i64 x.h.r, .int .i64 x.h.h, .int .i64 x.h.k, .int .i64 x.h.f, .int .i64 x.h.n] 30)) (w.heap.size + 1) x) := heap_alloc2_new w _ _;have G1 := hJ (grown_two w (.cells #[.int .i64 y.k, .slice y.i.a y.i.n y.i.c, .int .i64 y.l, .slice y.s.a y.s.n y.s.c, .slice y.d.a y.d.n y.d.c, .int .i64 y.x, .slice y.b.a y.b.n y.b.c, .slice y.t.a y.t.n y.t.c, .int .i64 y.h.v, .int .i64 y.h.c, .int .i64 y.h.r, .int .i64 y.h.h, .int .i64 y.h.k, .int .i64 y.h.f, .int .i64 y.h.n] 30) (.cells #[.int .i64 x.k, .slice x.i.a x.i.n x.i.c, .int .i64 x.l, .slice x.s.a x.s.n x.s.c, .slice x.d.a x.d.n x.d.c, .int .i64 x.x, .slice x.b.a x.b.n x.b.c, .slice x.t.a x.t.n x.t.c, .int .i64 x.h.v, .int .i64 x.h.c, .int .i64 x.h.r, .int .i64 x.h.h, .int .i64 x.h.k, .int .i64 x.h.f, .int .i64 x.h.n] 30));generalize (w.alloc (.cells #[.int .i64 y.k, .slice y.i.a y.i.n y.i.c, .int .i64 y.l, .slice y.s.a y.s.n y.s.c, .slice y.d.a y.d.n y.d.c, .int .i64 y.x, .slice y.b.a y.b.n y.b.c, .slice y.t.a y.t.n y.t.c, .int .i64 y.h.v, .int .i64 y.h.c, .int .i64 y.h.r, .int .i64 y.h.h, .int .i64 y.h.k, .int .i64 y.h.f, .int .i64 y.h.n] 30)).alloc (.cells #[.int .i64 x.k, .slice x.i.a x.i.n x.i.c, .int .i64 x.l, .slice x.s.a x.s.n x.s.c, .slice x.d.a x.d.n x.d.c, .int .i64 x.x, .slice x.b.a x.b.n x.b.c, .slice x.t.a x.t.n x.t.c, .int .i64 x.h.v, .int .i64 x.h.c, .int .i64 x.h.r, .int .i64 x.h.h, .int .i64 x.h.k, .int .i64 x.h.f, .int .i64 x.h.n] 30) = w1 at *;have T1 : Hid (Tn8 w w0 w1 base w.heap.size (w.heap.size + 1) y x b p) := ⟨HL.out.keptN G1.out, HF.out, gQ HG.out G1.out, Y1.out, X1.out, fun T z hz => hz.keptN G1.out⟩;clear Y1 X1 G1 HL HF HG;generalize w.heap.size + 1 = X at *;generalize w.heap.size = Y at *;go_wp2;go_loopw [4] (fun si wr => ∃ (i : Nat) (q : Pg), i ≤ y.i.n ∧ si = .int .i64 i ∧ Tn8 w w0 wr base Y X y x b q) (fun si _ => y.i.n - (intOf si).toNat)
 case atStart => exact ⟨0, p, Nat.zero_le _, rfl, T1.out⟩
 case round =>
  obtain ⟨i, q, hi, rfl, ht⟩ := hrel;have T2 := hJ ht;clear ht T1;have y1 := T2.out.py.cells.2.1;have x1 := T2.out.px.cells.2.1
  by_cases hlt : i < y.i.n
  ·have t1 : (i : Int) < (y.i.n : Int) := by omega
   have t0 : (0 : Int) ≤ (i : Int) := by omega
   by_cases hlo : i < x.i.n
   ·have t2 : (i : Int) < (x.i.n : Int) := by omega
    obtain ⟨b1, off, ao, n', c', bo, m', d', hxa, q1, q2, _, _, hK, _, _, hV, _, _⟩ := HO.out.items.row i (by omega);have hb1 := World.block_lt_of_cell? _ _ q1;have hqi : q.items.length = y.i.n := by rw [T2.out.lt.yi]
    have hiq : i < q.items.length := by omega
    obtain ⟨a1, _, _, _⟩ := T2.out.lt.it.cells i hiq;obtain ⟨o1, _⟩ := T2.out.lt.it.ko i hiq;have lo1 := T2.out.lt.it.lo i hiq;obtain ⟨cur, hcur, hcs, _⟩ := o1.ex;have hle := o1.le;rw [List.length_append] at hle;have r1 := T2.out.gr.cell q1 (by simp);have BK := hJ (hK.keptN T2.out.gr);have HV := hJ hV;have Q2 := hJ q2;have hbt := HO.out.ib _ (getD_mem (show i < o.items.length by omega));have BT1 := hJ hbt.key;have BT2 := hJ hbt.val;have n1 : Y ≠ (b.gk i).1 := fun e => T2.out.py.other hcur (by decide) e.symm
    have n2 : X ≠ (b.gk i).1 := fun e => T2.out.px.other hcur (by decide) e.symm
    have n3 : b.A ≠ (b.gk i).1 := fun e => ow_own8 T2.out.lt.it.own (by decide) o1 e.symm
    have n4 : b1 ≠ (b.gk i).1 := by have hb2 : b1 < w0.heap.size := hb1; omega
    have HC : Hid (∀ w3, w3.heap[(b.gk i).1]? = some (.cells (((o.items.getD i it0).key.take (q.items.getD i it0).key.length).map (Value.int .u8) ++ cur.toList.drop (((o.items.getD i it0).key.take (q.items.getD i it0).key.length).map (Value.int .u8)).length).toArray 5 (0, 0)) → wr.drew.grownBy w3 (some (b.gk i).1) → ∃ p', Tn8 w w0 w3 base Y X y x b p' ∧ (p'.items.getD i it0).val.length = (q.items.getD i it0).val.length) := fun w3 hw hg => (T2.out.keptN ((Qt.refl wr).drew.grown none)).key h0 i hiq _ BT1.out hcur hw hg
    generalize hkk : (o.items.getD i it0).key = ts at *;generalize hqk : (q.items.getD i it0).key.length = kl at *;clear hK hV q1 q2 hbt o1 lo1 hkk hqk;generalize (b.gk i).1 = g1 at *;generalize (b.gk i).2 = c1 at *;have hS := hJ (byt_take BK.out kl);have hN := take_lenB BK.out.len kl;have hfit : ((ts.take kl).map (Value.int .u8)).length ≤ cur.size := by rw [List.length_map, List.length_take, hcs]; simp only [List.length_singleton] at hle; omega
    rw [HYI.out.1, HYI.out.2] at y1;rw [hxa] at x1;go_upto_region 5 with fail
    have HS4 : Hid (∀ W, wr.grownBy W none → W.cell? ⟨Y, 1, none⟩ = some (.slice (some ⟨b.A, 0, none⟩) y.i.n b.c) ∧ W.cell? ⟨b.A, i * 4, none⟩ = some (.slice (some ⟨g1, 0, none⟩) kl c1) ∧ W.cell? ⟨X, 1, none⟩ = some (.slice (some ⟨b1, off, none⟩) x.i.n x.i.c) ∧ W.cell? ⟨b1, off + i * 4, none⟩ = some (.slice ao n' c')) := fun W hW => ⟨hW.cell y1 (by simp), hW.cell a1 (by simp), hW.cell x1 (by simp), hW.cell r1 (by simp)⟩
    go_region_held3 (fun w' => w'.cell? ⟨Y, 1, none⟩ = some (.slice (some ⟨b.A, 0, none⟩) y.i.n b.c) ∧ w'.cell? ⟨b.A, i * 4, none⟩ = some (.slice (some ⟨g1, 0, none⟩) kl c1) ∧ w'.cell? ⟨X, 1, none⟩ = some (.slice (some ⟨b1, off, none⟩) x.i.n x.i.c) ∧ w'.cell? ⟨b1, off + i * 4, none⟩ = some (.slice ao n' c'))
     (first
      | exact HS4.out _ ((Qt.refl _).drew.grown none)
      | exact ⟨s0, s1, s2, s3⟩)
     ((refine step_copy8 rfl (.tmp 23) (.tmp 29) 25 5 5 1 (by rfl) Tryz.underlying25 HU.out (by decide) g1 kl c1 ao n' c' (by rfl) (by rfl) cur (by exact hcur) ((ts.take kl).map (Value.int .u8)) hN hS.out hfit (ints_oneCell _ _) ?_; intro w3 hw3 hg3; have hgr3 := gQ ((Qt.refl wr).drew.grown (some g1)) hg3; have s0 := hgr3.cell y1 (fun e => n1 (Option.some.inj e)); have s1 := hgr3.cell a1 (fun e => n3 (Option.some.inj e)); have s2 := hgr3.cell x1 (fun e => n2 (Option.some.inj e)); have s3 := hgr3.cell r1 (fun e => n4 (Option.some.inj e))))
    obtain ⟨q', hT3, hvl⟩ := HC.out w3 hw3 hg3;have T3 := hJ hT3;clear hT3 HC hw3 hg3 hgr3 s0 s1 s2 s3 n1 n2 n3 n4 y1 x1 a1 r1 hcur hcs hle hS hN hfit BK HS4 T2;have hqi2 : q'.items.length = y.i.n := by rw [T3.out.lt.yi]
    have hiq2 : i < q'.items.length := by omega
    obtain ⟨_, a1, _, _⟩ := T3.out.lt.it.cells i hiq2;obtain ⟨_, o1⟩ := T3.out.lt.it.ko i hiq2;have lo1 := T3.out.lt.it.lo i hiq2;obtain ⟨cur2, hcur, hcs, _⟩ := o1.ex;have hle := o1.le;rw [List.length_append] at hle;have y1 := T3.out.py.cells.2.1;have x1 := T3.out.px.cells.2.1;have r1 := T3.out.gr.cell Q2.out (by simp);have BK := hJ (HV.out.keptN T3.out.gr);have n1 : Y ≠ (b.gv i).1 := fun e => T3.out.py.other hcur (by decide) e.symm
    have n2 : X ≠ (b.gv i).1 := fun e => T3.out.px.other hcur (by decide) e.symm
    have n3 : b.A ≠ (b.gv i).1 := fun e => ow_own8 T3.out.lt.it.own (by decide) o1 e.symm
    have n4 : b1 ≠ (b.gv i).1 := by have hb2 : b1 < w0.heap.size := hb1; omega
    have HC : Hid (∀ w4, w4.heap[(b.gv i).1]? = some (.cells (((o.items.getD i it0).val.take (q'.items.getD i it0).val.length).map (Value.int .u8) ++ cur2.toList.drop (((o.items.getD i it0).val.take (q'.items.getD i it0).val.length).map (Value.int .u8)).length).toArray 5 (0, 0)) → w3.drew.grownBy w4 (some (b.gv i).1) → ∃ p', Tn8 w w0 w4 base Y X y x b p') := fun w4 hw hg => (T3.out.keptN ((Qt.refl w3).drew.grown none)).val h0 i hiq2 _ BT2.out hcur hw hg
    generalize hkk : (o.items.getD i it0).val = us at *;generalize hqk : (q'.items.getD i it0).val.length = vl at *;clear o1 lo1 hkk hqk hvl;generalize (b.gv i).1 = g2 at *;generalize (b.gv i).2 = c2 at *;have hS := hJ (byt_take BK.out vl);have hN := take_lenB BK.out.len vl;have hfit : ((us.take vl).map (Value.int .u8)).length ≤ cur2.size := by rw [List.length_map, List.length_take, hcs]; simp only [List.length_singleton] at hle; omega
    rw [HYI.out.1, HYI.out.2] at y1;rw [hxa] at x1;go_upto_region 6 with fail
    have HS4 : Hid (∀ W, w3.grownBy W none → W.cell? ⟨Y, 1, none⟩ = some (.slice (some ⟨b.A, 0, none⟩) y.i.n b.c) ∧ W.cell? ⟨b.A, i * 4 + 1, none⟩ = some (.slice (some ⟨g2, 0, none⟩) vl c2) ∧ W.cell? ⟨X, 1, none⟩ = some (.slice (some ⟨b1, off, none⟩) x.i.n x.i.c) ∧ W.cell? ⟨b1, off + i * 4 + 1, none⟩ = some (.slice bo m' d')) := fun W hW => ⟨hW.cell y1 (by simp), hW.cell a1 (by simp), hW.cell x1 (by simp), hW.cell r1 (by simp)⟩
    go_region_held3 (fun w' => w'.cell? ⟨Y, 1, none⟩ = some (.slice (some ⟨b.A, 0, none⟩) y.i.n b.c) ∧ w'.cell? ⟨b.A, i * 4 + 1, none⟩ = some (.slice (some ⟨g2, 0, none⟩) vl c2) ∧ w'.cell? ⟨X, 1, none⟩ = some (.slice (some ⟨b1, off, none⟩) x.i.n x.i.c) ∧ w'.cell? ⟨b1, off + i * 4 + 1, none⟩ = some (.slice bo m' d'))
     (first
      | exact HS4.out _ ((Qt.refl _).drew.grown none)
      | exact ⟨s0, s1, s2, s3⟩)
     ((refine step_copy8 rfl (.tmp 36) (.tmp 42) 25 5 5 1 (by rfl) Tryz.underlying25 HU.out (by decide) g2 vl c2 bo m' d' (by rfl) (by rfl) cur2 (by exact hcur) ((us.take vl).map (Value.int .u8)) hN hS.out hfit (ints_oneCell _ _) ?_; intro w4 hw4 hg4; have hgr4 := gQ ((Qt.refl w3).drew.grown (some g2)) hg4; have s0 := hgr4.cell y1 (fun e => n1 (Option.some.inj e)); have s1 := hgr4.cell a1 (fun e => n3 (Option.some.inj e)); have s2 := hgr4.cell x1 (fun e => n2 (Option.some.inj e)); have s3 := hgr4.cell r1 (fun e => n4 (Option.some.inj e))))
    obtain ⟨q4, hT4⟩ := HC.out w4 hw4 hg4;have T4 := hJ hT4;clear hT4 HC hw4 hg4 hgr4 s0 s1 s2 s3 n1 n2 n3 n4 y1 x1 a1 r1 hcur hcs hle hS hN hfit BK HS4 T3;go_wp2;go_roundw
    case rel => exact ⟨i + 1, q4, by omega, by go_num, T4.out⟩
    case measure => simp [intOf]; omega
   ·have t2 : ¬ (i : Int) < (x.i.n : Int) := by omega
    go_wp2;go_roundw
    case rel => exact ⟨i + 1, q, by omega, by go_num, T2.out⟩
    case measure => simp [intOf]; omega
  ·have t1 : ¬ (i : Int) < (y.i.n : Int) := by omega
   go_wp2;go_loopw [5] (fun si ws => ∃ (j : Nat) (q : Pg), j ≤ y.s.n ∧ si = .int .i64 j ∧ Tn8 w w0 ws base Y X y x b q) (fun si _ => y.s.n - (intOf si).toNat)
   case atStart => exact ⟨0, q, Nat.zero_le _, rfl, T2.out⟩
   case round =>
    obtain ⟨j, q, hj, rfl, ht⟩ := hrel;have T5 := hJ ht;clear ht T2 y1 x1;have y3 := T5.out.py.cells.2.2.2.1;have x3 := T5.out.px.cells.2.2.2.1
    by_cases hlt2 : j < y.s.n ∧ j < x.s.n
    ·obtain ⟨u1, u2⟩ := hlt2
     have t2 : (j : Int) < (y.s.n : Int) := by omega
     have t3 : (j : Int) < (x.s.n : Int) := by omega
     have t0 : (0 : Int) ≤ (j : Int) := by omega
     obtain ⟨b1, off, ao, n', c', hxa, q1, hK, _, _⟩ := HO.out.seps.row j (by omega);have hb1 := World.block_lt_of_cell? _ _ q1;have hqi : q.seps.length = y.s.n := by rw [T5.out.lt.ys]
     have hiq : j < q.seps.length := by omega
     have a1 := T5.out.lt.sp.cell j hiq;have o1 := T5.out.lt.sp.ko j hiq;have lo1 := T5.out.lt.sp.lo j hiq;have lo2 := T5.out.lt.sp.hb;have lo3 := T5.out.lt.bm;obtain ⟨cur, hcur, hcs, _⟩ := o1.ex;have hle := o1.le;rw [List.length_append] at hle;have r1 := T5.out.gr.cell q1 (by simp);have BK := hJ (hK.keptN T5.out.gr);have BT1 := hJ (HO.out.sb _ (getD_memL (show j < o.seps.length by omega)));have n1 : Y ≠ (b.gs j).1 := fun e => T5.out.py.other hcur (by decide) e.symm
     have n2 : X ≠ (b.gs j).1 := fun e => T5.out.px.other hcur (by decide) e.symm
     have n3 : b.B ≠ (b.gs j).1 := fun e => ow_own8 T5.out.lt.sp.own (by decide) o1 e.symm
     have n4 : b1 ≠ (b.gs j).1 := by have hb2 : b1 < w0.heap.size := hb1; omega
     have HC : Hid (∀ w3, w3.heap[(b.gs j).1]? = some (.cells (((o.seps.getD j []).take (q.seps.getD j []).length).map (Value.int .u8) ++ cur.toList.drop (((o.seps.getD j []).take (q.seps.getD j []).length).map (Value.int .u8)).length).toArray 5 (0, 0)) → wr.drew.grownBy w3 (some (b.gs j).1) → ∃ p', Tn8 w w0 w3 base Y X y x b p') := fun w3 hw hg => (T5.out.keptN ((Qt.refl wr).drew.grown none)).sep h0 j hiq _ BT1.out hcur hw hg
     generalize hkk : o.seps.getD j [] = ts at *;generalize hqk : (q.seps.getD j []).length = kl at *;clear hK q1 o1 lo1 lo2 lo3 hkk hqk;generalize (b.gs j).1 = g1 at *;generalize (b.gs j).2 = c1 at *;have hS := hJ (byt_take BK.out kl);have hN := take_lenB BK.out.len kl;have hfit : ((ts.take kl).map (Value.int .u8)).length ≤ cur.size := by rw [List.length_map, List.length_take, hcs]; simp only [List.length_singleton] at hle; omega
     rw [HYS.out.1, HYS.out.2] at y3;rw [hxa] at x3;go_upto_region 10 with fail
     have HS4 : Hid (∀ W, wr.grownBy W none → W.cell? ⟨Y, 3, none⟩ = some (.slice (some ⟨b.B, 0, none⟩) y.s.n b.d) ∧ W.cell? ⟨b.B, j, none⟩ = some (.slice (some ⟨g1, 0, none⟩) kl c1) ∧ W.cell? ⟨X, 3, none⟩ = some (.slice (some ⟨b1, off, none⟩) x.s.n x.s.c) ∧ W.cell? ⟨b1, off + j, none⟩ = some (.slice ao n' c')) := fun W hW => ⟨hW.cell y3 (by simp), hW.cell a1 (by simp), hW.cell x3 (by simp), hW.cell r1 (by simp)⟩
     go_region_held3 (fun w' => w'.cell? ⟨Y, 3, none⟩ = some (.slice (some ⟨b.B, 0, none⟩) y.s.n b.d) ∧ w'.cell? ⟨b.B, j, none⟩ = some (.slice (some ⟨g1, 0, none⟩) kl c1) ∧ w'.cell? ⟨X, 3, none⟩ = some (.slice (some ⟨b1, off, none⟩) x.s.n x.s.c) ∧ w'.cell? ⟨b1, off + j, none⟩ = some (.slice ao n' c'))
      (first
       | exact HS4.out _ ((Qt.refl _).drew.grown none)
       | exact ⟨s0, s1, s2, s3⟩)
      ((refine step_copy8 rfl (.tmp 62) (.tmp 67) 25 5 5 1 (by rfl) Tryz.underlying25 HU.out (by decide) g1 kl c1 ao n' c' (by rfl) (by rfl) cur (by exact hcur) ((ts.take kl).map (Value.int .u8)) hN hS.out hfit (ints_oneCell _ _) ?_; intro w3 hw3 hg3; have hgr3 := gQ ((Qt.refl wr).drew.grown (some g1)) hg3; have s0 := hgr3.cell y3 (fun e => n1 (Option.some.inj e)); have s1 := hgr3.cell a1 (fun e => n3 (Option.some.inj e)); have s2 := hgr3.cell x3 (fun e => n2 (Option.some.inj e)); have s3 := hgr3.cell r1 (fun e => n4 (Option.some.inj e))))
     obtain ⟨q4, hT4⟩ := HC.out w3 hw3 hg3;have T4 := hJ hT4;clear hT4 HC hw3 hg3 hgr3 s0 s1 s2 s3 n1 n2 n3 n4 y3 x3 a1 r1 hcur hcs hle hS hN hfit BK HS4 T5;go_wp2;go_roundw
     case rel => exact ⟨j + 1, q4, by omega, by go_num, T4.out⟩
     case measure => simp [intOf]; omega
    ·have hd : ¬ (j : Int) < (y.s.n : Int) ∨ ((j : Int) < (y.s.n : Int) ∧ ¬ (j : Int) < (x.s.n : Int)) := by omega
     have HKD := hJ (kl_take (HO.out.kids.keptN T5.out.gr) q.kids.length);obtain ⟨cur, hcur, hsz⟩ := own_rowc T5.out.lt.kd;have HC : Hid (∀ w6, w6.heap[b.K]? = some (.cells (kc (o.kids.take q.kids.length) ++ cur.toList.drop (kc (o.kids.take q.kids.length)).length).toArray 67 (0, 0)) → wr.grownBy w6 (some b.K) → ∃ p', Tn8 w w0 w6 base Y X y x b p') := fun w6 hw hg => T5.out.kid h0 _ hcur hw hg
     have hn : (kc (o.kids.take q.kids.length)).length = Nat.min x.d.n q.kids.length * 2 := by rw [kc_len, List.length_take, ← HO.out.kl]; exact congrArg (· * 2) (Nat.min_comm _ _)
     have hfit : (kc (o.kids.take q.kids.length)).length ≤ cur.size := by rw [kc_len, List.length_take]; omega
     have y4 := T5.out.py.cells.2.2.2.2.1;have x4 := T5.out.px.cells.2.2.2.2.1;rw [T5.out.lt.yd] at y4;simp only at y4;clear T5;generalize q.kids.length = kl at *;generalize hcs : kc (o.kids.take kl) = cs at *;have hone : ∀ v ∈ cs, v.oneCell' = true := by rw [← hcs]; exact kc_one _
     clear hcs;obtain ⟨Z, hZ⟩ : ∃ Z, (cs ++ cur.toList.drop cs.length).toArray = Z := ⟨_, rfl⟩;rw [hZ] at HC;have HZ := hJ hZ;clear hZ
     have HX : Hid (∀ w6 q, Tn8 w w0 w6 base Y X y x b q → q.data.length = y.b.n ∧ y.b.a = some ⟨b.D, 0, none⟩ ∧ y.b.c = b.f ∧ q.list.length = y.t.n ∧ y.t.a = some ⟨b.T, 0, none⟩ ∧ y.t.c = b.t) := fun w6 q h => by
      rw [h.lt.yb, h.lt.yt]; exact ⟨rfl, rfl, rfl, rfl, rfl, rfl⟩
     rcases hd with hd | ⟨hd, hd2⟩
     all_goals
      go_wp2_with (refine wpList_copy8 rfl _ _ 24 67 67 2 rfl Tryz.underlying24 HKI.out (by decide) b.K kl b.e x.d.a x.d.n x.d.c rfl rfl cur hcur cs hn HKD.out hfit hone Z HZ.out ?_)
      intro w6 hw6 hg6;obtain ⟨q6, hT6⟩ := HC.out w6 hw6 hg6;have T6 := hJ hT6;clear hT6 HC hw6 hg6 y4 x4 hcur hn hfit hone HKD hsz y3 x3;obtain ⟨e1, e2, e3, _, _, _⟩ := HX.out _ _ T6.out;obtain ⟨cur6, hcur, hcs, _⟩ := T6.out.lt.da.ex;have hle := T6.out.lt.da.le;rw [List.length_append] at hle;have BK := HO.out.data.keptN T6.out.gr;have hS := hJ (byt_take BK q6.data.length);have hN := take_lenB BK.len q6.data.length;have hfit : ((o.data.take q6.data.length).map (Value.int .u8)).length ≤ cur6.size := by rw [List.length_map, List.length_take, hcs]; simp only [List.length_singleton] at hle; omega
      have HC : Hid (∀ w7, w7.heap[b.D]? = some (.cells ((o.data.take q6.data.length).map (Value.int .u8) ++ cur6.toList.drop ((o.data.take q6.data.length).map (Value.int .u8)).length).toArray 5 (0, 0)) → w6.grownBy w7 (some b.D) → ∃ p', Tn8 w w0 w7 base Y X y x b p') := fun w7 hw hg => T6.out.dat h0 _ HO.out.db hcur hw hg
      have y6 := T6.out.py.cells.2.2.2.2.2.2.1;have x6 := T6.out.px.cells.2.2.2.2.2.2.1;rw [e2, e3] at y6;rw [e1] at hS hN hfit HC;clear BK hcs hle e1 e2 e3 T6;obtain ⟨cs6, hcs⟩ : ∃ cs, (o.data.take y.b.n).map (Value.int .u8) = cs := ⟨_, rfl⟩;have hone : ∀ v ∈ cs6, v.oneCell' = true := by rw [← hcs]; exact ints_oneCell _ _
      rw [hcs] at hS hN hfit HC;obtain ⟨Z6, hZ⟩ : ∃ Z, (cs6 ++ cur6.toList.drop cs6.length).toArray = Z := ⟨_, rfl⟩;rw [hZ] at HC;have HZ6 := hJ hZ;clear hZ hcs
      go_wp2_with (refine wpList_copy8 rfl _ _ 25 5 5 1 rfl Tryz.underlying25 HU.out (by decide) b.D y.b.n b.f x.b.a x.b.n x.b.c rfl rfl cur6 hcur cs6 hN hS.out hfit hone Z6 HZ6.out ?_)
      intro w7 hw7 hg7;obtain ⟨q7, hT7⟩ := HC.out w7 hw7 hg7;have T7 := hJ hT7;clear hT7 HC hw7 hg7 y6 x6 hcur hN hfit hS hone;obtain ⟨_, _, _, e1, e2, e3⟩ := HX.out _ _ T7.out;obtain ⟨cur7, hcur, hsz⟩ := own_rowc T7.out.lt.li;have hS := hJ (nt_take (HO.out.list.keptN T7.out.gr) q7.list.length);have hN : ((o.list.take q7.list.length).map (Value.int .i64)).length = Nat.min x.t.n q7.list.length * 1 := by rw [List.length_map, List.length_take, ← HO.out.tl, Nat.mul_one]; exact Nat.min_comm _ _
      have hfit : ((o.list.take q7.list.length).map (Value.int .i64)).length ≤ cur7.size := by rw [List.length_map, List.length_take]; omega
      have HC : Hid (∀ w8, w8.heap[b.T]? = some (.cells ((o.list.take q7.list.length).map (Value.int .i64) ++ cur7.toList.drop ((o.list.take q7.list.length).map (Value.int .i64)).length).toArray 3 (0, 0)) → w7.grownBy w8 (some b.T) → ∃ p', Tn8 w w0 w8 base Y X y x b p') := fun w8 hw hg => T7.out.int h0 _ hcur hw hg
      have y7 := T7.out.py.cells.2.2.2.2.2.2.2.1;have x7 := T7.out.px.cells.2.2.2.2.2.2.2.1;rw [e2, e3] at y7;rw [e1] at hS hN hfit HC;clear hsz e1 e2 e3 T7;obtain ⟨cs7, hcs⟩ : ∃ cs, (o.list.take y.t.n).map (Value.int .i64) = cs := ⟨_, rfl⟩;have hone : ∀ v ∈ cs7, v.oneCell' = true := by rw [← hcs]; exact ints_oneCell _ _
      rw [hcs] at hS hN hfit HC;obtain ⟨Z7, hZ⟩ : ∃ Z, (cs7 ++ cur7.toList.drop cs7.length).toArray = Z := ⟨_, rfl⟩;rw [hZ] at HC;have HZ7 := hJ hZ;clear hZ hcs
      go_wp2_with (refine wpList_copy8 rfl _ _ 26 3 3 1 rfl Tryz.underlying26 HIN.out (by decide) b.T y.t.n b.t x.t.a x.t.n x.t.c rfl rfl cur7 hcur cs7 hN hS.out hfit hone Z7 HZ7.out ?_)
      intro w8 hw8 hg8;obtain ⟨q8, hT8⟩ := HC.out w8 hw8 hg8;have T8 := hJ hT8;clear hT8 HC hw8 hg8 y7 x7 hcur hN hfit hS;go_wp2;refine Go.Great.bodyPost_end0 rfl rfl ?_;exact ⟨rfl, ⟨q8, T8.out.lt, T8.out.fit, T8.out.gr⟩, T8.out.bx⟩
end Go.Proofs.YtkiopabcnemgnaaGreatDoor
