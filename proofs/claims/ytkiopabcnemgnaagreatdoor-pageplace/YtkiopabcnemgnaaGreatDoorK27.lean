import Derived.Test.YtkiopabcnemgnaaGreatDoorK20
import Derived.Deep.AppendLies
set_option maxRecDepth 100000
set_option maxHeartbeats 8000000
namespace Go.Proofs.YtkiopabcnemgnaaGreatDoor
open Go.RowKit
theorem refEncode_wrong (a : Option Addr) (n cap : Nat) (L : List It) (w : World) (hl : Il w a L) (hb : Ib L) (hn : L.length = n) (hm : n ≤ 5000) (h : wrong L ≠ 0) :
  Calls Tryz.prog 56 #[.slice a n cap] w fun en w' => en = .returned (.tuple #[.slice none 0 0, .int .i64 (wrong L)]) ∧ w.grownBy w' none := by
 have HE := hJ (fun (W : World) (hW : Il W a L) => refWrong_any a n cap L W hW hb hn hm);generalize wrong L = e at *;have h1 : ¬ e = 0 := h;go_enter Tryz.func56, Tryz.ntmps56
 go_wp2_with fail
 refine (HE.out _ hl).mono ?_;rintro en w1 ⟨rfl, hg⟩;have HG := hJ hg;clear hg hl;go_wp2
 go_ret2
 exact ⟨rfl, HG.out⟩
theorem refEncode_big (a : Option Addr) (n cap : Nat) (L : List It) (w : World) (hl : Il w a L) (hb : Ib L) (hn : L.length = n) (hm : n ≤ 5000) (h : wrong L = 0) (hs : 4092 < size L) :
  Calls Tryz.prog 56 #[.slice a n cap] w fun en w' => en = .returned (.tuple #[.slice none 0 0, .int .i64 42]) ∧ w.grownBy w' none := by
 obtain ⟨_, hws, _, _⟩ := wrong_parts h;have hk : ∀ x ∈ L, x.key.length ≤ 1000000 := fun x hx => by have := (ws_parts (hws x hx)).2.1; omega
 have HL := hJ hl;go_enter Tryz.func56, Tryz.ntmps56
 go_wp2_with fail
 refine (refWrong_any a n cap L _ hl hb hn hm).mono ?_;rintro en w1 ⟨rfl, hg⟩;have HG := hJ hg;clear hg hl;rw [h]
 go_wp2_with fail
 refine (refSize_any a n cap L _ (HL.out.keptN HG.out) hn hm hk).mono ?_;rintro en w2 ⟨rfl, hg⟩;have HG2 := hJ (gQ HG.out (hg.qt.grown none));clear hg;generalize size L = s at *;go_wp2
 go_ret2
 exact ⟨rfl, HG2.out⟩
theorem grown_since {w wr w' : World} (_h : w.grownBy wr none) (k : wr.grownBy w' none) : wr.grownBy w' none := k
def slen : Value → Nat
 | .slice _ n _ => n
 | _ => 0
theorem refEncode_ok (a : Option Addr) (n cap : Nat) (L : List It) (w : World) (hl : Il w a L) (hb : Ib L) (hn : L.length = n) (hm : n ≤ 5000) (h : wrong L = 0) (hs : size L ≤ 4092) :
  Calls Tryz.prog 56 #[.slice a n cap] w fun en w' => ∃ ao c, en = .returned (.tuple #[.slice ao 4092 c, .int .i64 0]) ∧ Byt w' ao 4092 c (body L) ∧ w.grownBy w' none := by
 obtain ⟨i0, hi, hz0, hz1, hz2⟩ := info_parts info_u8;obtain ⟨hL0, hws, hwv, hup⟩ := wrong_parts h;have hk : ∀ x ∈ L, x.key.length ≤ 1000000 := fun x hx => by have := (ws_parts (hws x hx)).2.1; omega
 obtain ⟨hm1, hm2⟩ := many_le h hs;have hLne : L ≠ [] := fun e => hL0 (by rw [e]; rfl)
 have hhl := head_len hLne;have HCS := hJ (cst_le h hs);have HUL : Hid ((used L).length = size L) := used_len h;have HUE : Hid (used L = headB L ++ (slots (pre L) (cst L) L ++ cells (pre L) L)) := rfl;have HBE : Hid (body L = used L ++ List.replicate (4092 - (used L).length) 0) := rfl;have HBL := hJ (body_len h hs);have HWS := hJ hws;have HWV := hJ hwv;have HIB := hJ hb;have HPX : Hid (∀ x ∈ L, pre L ≤ x.key.length) := fun x hx => (pre_each x hx).1
 have HL := hJ hl;have hn0 : 0 < n := by omega
 have hcst : cst L = (headB L).length + 2 * n := by unfold cst; rw [hn]
 have HHB : Hid (headB L = ([1] ++ lb 2 n) ++ vform (pre L) ++ (L.getD 0 it0).key.take (pre L)) := by
  show _ = _
  unfold headB;rw [hn];cases L with
  | nil => exact absurd rfl hLne
  | cons x T => simp only [List.append_assoc]; rfl
 have hb4 : (headB L).length + 2 * n ≤ 4092 := by have := HCS.out 0; omega
 have HCO := hJ hcst;have HHL := hJ hhl;clear hl hcst hws hwv hup hL0 hhl;go_enter Tryz.func56, Tryz.ntmps56
 go_wp2_with fail
 refine (refWrong_any a n cap L _ HL.out HIB.out hn hm).mono ?_;rintro en w1 ⟨rfl, hg⟩;have G1 := hJ hg;clear hg;rw [h]
 go_wp2_with fail
 refine (refSize_any a n cap L _ (HL.out.keptN G1.out) hn hm hk).mono ?_;rintro en w2 ⟨rfl, hg⟩;have G2 := hJ (gQ G1.out (hg.qt.grown none));clear hg G1;obtain ⟨sz, hsz⟩ : ∃ sz, size L = sz := ⟨_, rfl⟩;rw [hsz] at hs HUL ⊢;clear hsz
 go_wp2_with fail
 refine (refCommon4_any a n cap L _ (HL.out.keptN G2.out) hn hm).mono ?_;rintro en w3 ⟨rfl, hg⟩;have G3 := hJ (gQ G2.out (hg.qt.grown none));clear hg G2;obtain ⟨b, off, ao, n0, c0, bo, m0, d0, rfl, q2, q3, q4, q5, q6, q7, q8, q9, q10, q11⟩ := HL.out.row 0 (by omega);have hp0 := HPX.out _ (getD_mem (L := L) (i := 0) (by omega));have hk0 := q6.len;have hx0 := ws_parts (HWS.out _ (getD_mem (L := L) (i := 0) (by omega)));obtain ⟨kb0, ko0, rfl, _, hkc0⟩ := q6.at (by omega);rw [Nat.zero_mul, Nat.add_zero] at q2;have hbt0 := (HIB.out.at (i := 0) (by omega)).key;clear q3 q4 q5 q6 q9;have hvp : (vform (pre L)).length ≤ 10 := vl_le _;have B3 := hJ (Byt.lit w3 5 #[.int .u8 1] [1] 1 rfl rfl);have GL3 := hJ (World.grownBy_alloc w3 (.cells #[.int .u8 1] 5) none)
 go_wp2_with fail
 generalize w3.alloc (.cells #[.int .u8 1] 5) = w4 at *;generalize w3.heap.size = K3 at *;refine (refPut_own _ 1 1 [1] n 2 _ B3.out (by omega) (by omega) (by omega)).mono ?_;rintro en w5 ⟨ao5, c5, rfl, ho5, hg5, _⟩
 have B5 : Hid (Byt w5 ao5 3 c5 ([1] ++ lb 2 n)) := by
  obtain ⟨ca, cc, e, hbb⟩ := owns_any ho5;injection e with e1 e2 e3
  subst e1 e3;exact hbb
 have G5 := hJ (gQ (gQ G3.out GL3.out) hg5);clear ho5 hg5 B3 GL3 G3;generalize hpp : pre L = p at *;have HPP := hJ hpp;clear hpp
 go_wp2_with fail
 refine (refPutV_own ao5 3 c5 _ p _ B5.out (by omega) (by omega)).mono ?_;rintro en w6 ⟨ao6, c6, rfl, ho6, hg6, _⟩;obtain ⟨H3, hH3⟩ : ∃ H3, ([1] ++ lb 2 n) ++ vform p = H3 := ⟨_, rfl⟩;rw [hH3] at ho6;have hl3 : 3 + (vform p).length = H3.length := by rw [← hH3]; simp only [List.length_append, lb_len, List.length_cons, List.length_nil]
 have GB6 := hJ (Gb.put (w := w) (n := 3 + (vform p).length) hl3.symm ho6 G5.out hg6);rw [hH3] at HHB;rw [hl3] at GB6 ⊢;have hl3b : H3.length ≤ 13 := by omega
 clear ho6 hg6 B5 G5 hH3 hl3;go_wp2;go_loopw [7, 8] (fun so si wr => ∃ (i base : Nat), i ≤ p ∧ si = .int .i64 i ∧ Gb w wr base so (H3 ++ (L.getD 0 it0).key.take i)) (fun _ si _ => p - (intOf si).toNat)
 case atStart => exact ⟨0, _, Nat.zero_le _, rfl, by rw [List.take_zero, List.append_nil]; exact GB6.out⟩
 case round =>
  obtain ⟨i, base, hi1, rfl, hgb⟩ := hrel;have HGB := hJ hgb;clear hgb GB6
  by_cases hlt : i < p
  ·have cq := HGB.out.gr.cell q2 (by simp)
   have ck := HGB.out.gr.cell (hkc0 i (by omega)) (by simp);have hsn := take_snoc (zs := (L.getD 0 it0).key) (i := i) (by omega);have hz := hbt0.getD i;generalize (L.getD 0 it0).key.getD i 0 = z at *;obtain ⟨Z, hZ⟩ : ∃ Z, H3 ++ (L.getD 0 it0).key.take i = Z := ⟨_, rfl⟩;have HN : Hid (H3 ++ (L.getD 0 it0).key.take (i + 1) = Z ++ [z]) := by show _ = _; rw [hsn, ← hZ, List.append_assoc]
   have hzl : Z.length ≤ 300 := by rw [← hZ, List.length_append, List.length_take]; omega
   rw [hZ] at HGB;clear hZ hsn;have hle := HGB.out.le.2
   go_wp2_with (at_builtin; refine wpList_append_byt rfl _ _ rfl base _ Z.length Z rfl (HGB.out.own.alloc _) (some ⟨wr.heap.size, 0, none⟩) 1 1 [z] rfl (Byt.lit wr 5 _ [z] 1 rfl rfl) (by omega) (by simp; omega) ?_)
   intro v' w7 ho7 hg7;have GB7 := hJ (HGB.out.app _ (by simpa using ho7) hg7);clear ho7 hg7 HGB cq ck;go_wp2;go_roundw
   case rel => exact ⟨i + 1, base, by omega, by go_num, by rw [HN.out]; exact GB7.out⟩
   case measure => simp [intOf]; omega
  ·have hin : p = i := by omega
   subst hin;rw [← HHB.out] at HGB;clear hkc0 hbt0 q2 HHB;obtain ⟨ca0, cc0, e0, _⟩ := HGB.out.byt;subst e0;go_wp2;go_loopw [7, 9, 10, 11] (fun so sat si _ wr => ∃ (i base : Nat), i ≤ n ∧ si = .int .i64 i ∧ sat = .int .i64 ((cst L + (cells p (L.take i)).length : Nat) : Int) ∧ Gb w wr base so (headB L ++ slots p (cst L) (L.take i))) (fun _ _ si _ _ => n - (intOf si).toNat)
   case atStart => exact ⟨0, base, Nat.zero_le _, rfl, by have := HCO.out; simp [cells, this], by rw [List.take_zero, slots, List.append_nil]; exact HGB.out⟩
   case round =>
    obtain ⟨i, base, hi1, rfl, rfl, hgb⟩ := hrel;have HGB := hJ hgb;clear hgb
    by_cases hlt2 : i < n
    ·have hA0 := HCS.out (i + 1)
     have hcsn := cells_snoc p L i (by omega);rw [hcsn, List.length_append] at hA0;have HSS := hJ (slots_snoc p L (cst L) i (by omega))
     have HCN : Hid ((cells p (L.take (i + 1))).length = (cells p (L.take i)).length + (cb p (L.getD i it0)).length) := by
      show _ = _
      rw [hcsn, List.length_append]
     obtain ⟨At, hAt⟩ : ∃ At, cst L + (cells p (L.take i)).length = At := ⟨_, rfl⟩;rw [hAt] at HSS ⊢;have HAA := hJ hAt;have hAt4 : At + (cb p (L.getD i it0)).length ≤ 4092 := by omega
     have hsl := slots_len p (L.take i) (cst L);rw [List.length_take] at hsl;obtain ⟨ca, cc, e9, hbz⟩ := HGB.out.byt;have hGrw := HGB.out.gr;have HGr := hJ hGrw;obtain ⟨Z, hZ⟩ : ∃ Z, headB L ++ slots p (cst L) (L.take i) = Z := ⟨_, rfl⟩;have hzl : Z.length ≤ 5000 := by rw [← hZ, List.length_append, hsl]; omega
     have HZ : Hid (headB L ++ slots p (cst L) (L.take (i + 1)) = Z ++ lb 2 At) := by show _ = _; rw [HSS.out, ← hZ, List.append_assoc]
     rw [hZ] at e9 hbz;subst e9;have BZ := hJ hbz;clear hbz HGB hZ hcsn hA0 HSS hGrw hsl hAt
     go_wp2_with fail
     refine (refPut_own ca Z.length cc Z At 2 _ BZ.out (by omega) (by omega) (by omega)).mono ?_;rintro en w7 ⟨ao7, c7, rfl, ho7, hg7, _⟩;have GB7 := hJ (Gb.put (w := w) (n := Z.length + 2) (by rw [List.length_append, lb_len]) ho7 HGr.out hg7);have GR7 := GB7.out.gr;have HR7 := hJ GR7;clear ho7 hg7 BZ HGr;obtain ⟨b'', off'', ao', m, c', bo', m2, d2, e1, r2, r3, r4, r5, r6, r7, r8, r9, r10, r11⟩ := HL.out.row i (by omega);simp only [Option.some.injEq, Addr.mk.injEq] at e1;obtain ⟨rfl, rfl, _⟩ := e1;have hx := getD_mem (L := L) (i := i) (by omega);have u0 := GR7.cell r2 (by simp);have u1 := GR7.cell r3 (by simp);have u2 := GR7.cell r4 (by simp);have u3 := GR7.cell r5 (by simp);have hpm : p ≤ m := by have := HPX.out _ hx; have := r6.len; omega
     have HCELL := hJ (fun (W : World) (hW : w.grownBy W none) => refCell_any ao' m c' bo' m2 d2 (L.getD i it0).size (L.getD i it0).first p (L.getD i it0) W (r6.keptN hW) (r9.keptN hW) rfl rfl (HWS.out _ hx) (HWV.out _ hx) (HIB.out _ hx) hpm);clear r2 r3 r4 r5 r6 r9;clear GR7;generalize (L.getD i it0).size = sz2 at *;generalize (L.getD i it0).first = fs at *
     obtain ⟨LC, hLC⟩ : ∃ LC, (cb p (L.getD i it0)).length = LC := ⟨_, rfl⟩;rw [hLC] at HCELL HCN hAt4;clear hLC hx;have g0 : (0 : Int) ≤ (i : Int) := by omega
     have g1 : (i : Int) < (n : Int) := by omega
     go_wp2_with fail
     refine (HCELL.out _ HR7.out).mono ?_;rintro en w8 ⟨ao8, c8, rfl, _, hg8, _⟩;have GB8 := hJ (GB7.out.keptN (grown_since HR7.out hg8));clear hg8 GB7 HR7 HCELL u0 u1 u2 u3;go_wp2;go_roundw
     case rel => exact ⟨i + 1, _, by omega, by go_num, by rw [HCN.out, ← Nat.add_assoc, HAA.out]; go_num, by rw [HZ.out]; exact (by simpa using GB8.out)⟩
     case measure => simp [intOf]; omega
    ·have hin : n = i := by omega
     subst hin;rw [show L.take n = L by rw [← hn, List.take_length]] at HGB ⊢;obtain ⟨A9, h9⟩ : ∃ A9, cst L + (cells p L).length = A9 := ⟨_, rfl⟩;rw [h9];clear h9;go_wp2;go_loopw [7, 12, 13, 14] (fun so si _ _ wr => ∃ (j base : Nat), j ≤ n ∧ si = .int .i64 j ∧ Gb w wr base so (headB L ++ (slots p (cst L) L ++ cells p (L.take j)))) (fun _ si _ _ _ => n - (intOf si).toNat)
     case atStart => exact ⟨0, base, Nat.zero_le _, rfl, by rw [List.take_zero, cells, List.append_nil]; exact HGB.out⟩
     case round =>
      obtain ⟨j, base, hj1, rfl, hgb⟩ := hrel;have HGB := hJ hgb;clear hgb
      by_cases hlt3 : j < n
      ·obtain ⟨b'', off'', ao', m, c', bo', m2, d2, e1, r2, r3, r4, r5, r6, r7, r8, r9, r10, r11⟩ := HL.out.row j (by omega)
       simp only [Option.some.injEq, Addr.mk.injEq] at e1;obtain ⟨rfl, rfl, _⟩ := e1;have hx := getD_mem (L := L) (i := j) (by omega);have GR7 := HGB.out.gr;have HR7 := hJ GR7;have u0 := GR7.cell r2 (by simp);have u1 := GR7.cell r3 (by simp);have u2 := GR7.cell r4 (by simp);have u3 := GR7.cell r5 (by simp);have hpm : p ≤ m := by have := HPX.out _ hx; have := r6.len; omega
       have HCELL := hJ (fun (W : World) (hW : w.grownBy W none) => refCell_any ao' m c' bo' m2 d2 (L.getD j it0).size (L.getD j it0).first p (L.getD j it0) W (r6.keptN hW) (r9.keptN hW) rfl rfl (HWS.out _ hx) (HWV.out _ hx) (HIB.out _ hx) hpm);have HCBT := hJ (cb_bt p (HIB.out _ hx));clear r2 r3 r4 r5 r6 r9 GR7;have hA0 := HCS.out (j + 1);have hcsn := cells_snoc p L j (by omega);rw [hcsn, List.length_append] at hA0;have hsl := slots_len p L (cst L);obtain ⟨Z, hZ⟩ : ∃ Z, headB L ++ (slots p (cst L) L ++ cells p (L.take j)) = Z := ⟨_, rfl⟩;obtain ⟨X, hX⟩ : ∃ X, cb p (L.getD j it0) = X := ⟨_, rfl⟩;have HZN : Hid (headB L ++ (slots p (cst L) L ++ cells p (L.take (j + 1))) = Z ++ X) := by show _ = _; rw [hcsn, ← hZ, ← hX]; simp only [List.append_assoc]
       have hzl : Z.length + X.length ≤ 5000 := by
        rw [← hZ, ← hX];simp only [List.length_append, hsl];have := HCO.out;omega
       rw [hZ] at HGB;rw [hX] at HCELL HCBT;clear hZ hcsn hA0 hsl hx;generalize (L.getD j it0).size = sz2 at *;generalize (L.getD j it0).first = fs at *
       clear hX;have g0 : (0 : Int) ≤ (j : Int) := by omega
       have g1 : (j : Int) < (n : Int) := by omega
       go_wp2_with fail
       refine (HCELL.out _ HR7.out).mono ?_;rintro en w8 ⟨ao8, c8, rfl, hb8, hg8, hn8⟩;have GB8 := hJ (HGB.out.keptN hg8);have X8 := hJ hb8
       have N8 : Hid (∀ g, u7.ownBlock = some g → ∀ ad, ao8 = some ad → g ≠ ad.block) := by
        intro g e ad ea;have h1 := (HGB.out.own.lt g e).2;have h2 := hn8 ad ea;omega
       clear hb8 hg8 hn8 HGB HR7 HCELL u0 u1 u2 u3;go_wp2;go_loopw [7, 14] (fun so sk wr => ∃ (k base : Nat), k ≤ X.length ∧ sk = .int .i64 k ∧ Gb w wr base so (Z ++ X.take k) ∧ Byt wr ao8 X.length c8 X ∧ (∀ g, so.ownBlock = some g → ∀ ad, ao8 = some ad → g ≠ ad.block)) (fun _ sk _ => X.length - (intOf sk).toNat)
       case atStart => exact ⟨0, base, Nat.zero_le _, rfl, by rw [List.take_zero, List.append_nil]; exact GB8.out, X8.out, N8.out⟩
       case round =>
        obtain ⟨k, base, hk1, rfl, hgb, hbx, hnx⟩ := hrel;have HGB := hJ hgb;have HBX := hJ hbx;have HNX := hJ hnx;clear hgb hbx hnx GB8 X8 N8
        by_cases hlt4 : k < X.length
        ·obtain ⟨vb, vo, rfl, hvb, hvc⟩ := HBX.out.at (by omega)
         have cv := hvc k hlt4;have hsn := take_snoc (zs := X) (i := k) hlt4;have hz := HCBT.out.getD k;generalize X.getD k 0 = z at *;obtain ⟨Y, hY⟩ : ∃ Y, Z ++ X.take k = Y := ⟨_, rfl⟩;have HN : Hid (Z ++ X.take (k + 1) = Y ++ [z]) := by show _ = _; rw [hsn, ← hY, List.append_assoc]
         have hyl : Y.length ≤ 5000 := by rw [← hY, List.length_append, List.length_take]; omega
         rw [hY] at HGB;clear hY hsn hvc;have hle := HGB.out.le.2
         go_wp2_with (at_builtin; refine wpList_append_lies _ rfl _ _ 25 rfl base 5 i0 (.int .u8 0) 1 1 Tryz.underlying25 hi hz0 hz1 hz2 rfl (by decide) _ Y.length (Y.map (Value.int .u8)) rfl (HGB.out.own.alloc _) ⟨wr.heap.size, 0, none⟩ 1 1 [.int .u8 z] rfl rfl (cell_one_new _ _ _) (by intro u hu; simp at hu; subst hu; rfl) (by omega) (by unfold maxLen; omega) (by omega) (by simp; omega) (wr.heap.size + 1) (by simp) ?_)
         intro g10 c10 w10 ho10 hg10 hat10 hlt10;have GB10 := hJ (HGB.out.app _ (by rw [List.map_append]; exact ho10) hg10);have BX10 := hJ ((HBX.out.keptN (World.grownBy_alloc wr _ none)).kept hg10 (fun ad e hp e2 => HNX.out ad.block e2.symm ad e rfl))
         have NX10 : Hid (∀ g, (Value.slice (some ⟨g10, 0, none⟩) (Y.length + 1) c10).ownBlock = some g → ∀ ad, (some ⟨vb, vo, none⟩ : Option Addr) = some ad → g ≠ ad.block) := by
          intro g e ad ea;obtain rfl : g10 = g := Option.some.inj e;rcases hat10 with h9 | h9
          ·exact HNX.out _ h9 ad ea
          ·obtain rfl := Option.some.inj ea
           simp only;omega
         clear ho10 hg10 hat10 hlt10 HGB HBX HNX cv;go_wp2;go_roundw
         case rel => exact ⟨k + 1, base, by omega, by go_num, by rw [HN.out]; exact GB10.out, BX10.out, NX10.out⟩
         case measure => simp [intOf]; omega
        ·have hkX : k = X.length := by omega
         subst hkX;rw [List.take_length, ← HZN.out] at HGB;go_wp2;go_roundw
         case rel => exact ⟨j + 1, base, by omega, by go_num, HGB.out⟩
         case measure => simp [intOf]; omega
      ·have hjn : n = j := by omega
       subst hjn;rw [show L.take n = L by rw [← hn, List.take_length]] at HGB;rw [← HUE.out] at HGB;obtain ⟨ca1, cc1, e1, _⟩ := HGB.out.byt;subst e1;go_wp2;go_loopw [7] (fun so wr => ∃ (k base : Nat), (used L).length + k ≤ 4092 ∧ Gb w wr base so (used L ++ List.replicate k 0)) (fun so _ => 4092 - slen so)
       case atStart => exact ⟨0, base, by have := HUL.out; omega, by rw [List.replicate_zero, List.append_nil]; exact HGB.out⟩
       case round =>
        obtain ⟨k, base, hk1, hgb⟩ := hrel;have HGB := hJ hgb;obtain ⟨ca2, cc2, e2, hb2⟩ := hgb.byt;have HB2 := hJ hb2;have HLn : Hid ((used L ++ List.replicate k (0 : Int)).length = (used L).length + k) := by show _ = _; rw [List.length_append, List.length_replicate]
        have HN : Hid (used L ++ List.replicate (k + 1) 0 = (used L ++ List.replicate k 0) ++ [0]) := by show _ = _; rw [List.replicate_succ', List.append_assoc]
        have HFE : Hid ((used L).length + k = 4092 → used L ++ List.replicate k 0 = body L) := fun e => by rw [HBE.out, show 4092 - (used L).length = k by omega]
        subst e2;clear hgb hb2;obtain ⟨Y, hY⟩ : ∃ Y, used L ++ List.replicate k (0 : Int) = Y := ⟨_, rfl⟩;rw [hY] at HGB HB2 HLn HN HFE ⊢;clear hY;obtain ⟨yl, hyl⟩ : ∃ yl, Y.length = yl := ⟨_, rfl⟩;have hyb : yl ≤ 4092 := by have := HLn.out; omega
        have hyk : (used L).length + k = yl := by have := HLn.out; omega
        rw [hyl] at HB2 ⊢;have HYL := hJ hyl;have HYK := hJ hyk
        have HO : Hid (wr.ownsRow base 5 1 (.slice ca2 yl cc2) yl (Y.map (Value.int .u8))) := by
         have := HGB.out.own;rw [hyl] at this;exact this
        clear hyl hyk;have hle := HGB.out.le.2
        by_cases hlt5 : yl < 4092
        ·go_wp2_with (at_builtin; refine wpList_append_byt rfl _ _ rfl base _ yl Y rfl (HO.out.alloc _) (some ⟨wr.heap.size, 0, none⟩) 1 1 [0] rfl (Byt.lit wr 5 _ [0] 1 rfl rfl) (by omega) (by simp; omega) ?_)
         intro v' w7 ho7 hg7;have ho7' : w7.ownsRow base 5 1 v' (Y.length + 1) ((Y ++ [0]).map (Value.int .u8)) := by rw [HYL.out]; simpa using ho7
         have hgb0 := HGB.out;rw [HYL.out] at hgb0;have GB7 := hJ (hgb0.app _ ho7' hg7);obtain ⟨ca7, cc7, e7, _⟩ := GB7.out.byt;subst e7;clear ho7 ho7' hg7 hgb0 HGB HO HB2;rw [List.length_append, HYL.out] at GB7 ⊢;go_wp2;go_roundw
         case rel => exact ⟨k + 1, base, by have := HYK.out; omega, by rw [HN.out]; exact (by simpa using GB7.out)⟩
         case measure => simp [slen]; omega
        ·have hy4 : yl = 4092 := by omega
         subst hy4;have e8 := HFE.out HYK.out;rw [e8] at HB2;have G8 := hJ HGB.out.gr;clear HGB HO e8;go_wp2
         go_ret2
         exact ⟨_, _, rfl, HB2.out, G8.out⟩
theorem refEncode_any (a : Option Addr) (n cap : Nat) (L : List It) (w : World) (hl : Il w a L) (hb : Ib L) (hn : L.length = n) (hm : n ≤ 5000) :
  Calls Tryz.prog 56 #[.slice a n cap] w fun en w' => (∃ ao k c, en = .returned (.tuple #[.slice ao k c, .int .i64 (enc L).2]) ∧ Byt w' ao k c (enc L).1 ∧ k ≤ 4092) ∧ w.grownBy w' none := by
 by_cases h : wrong L = 0
 ·by_cases hs : size L ≤ 4092
  ·refine (refEncode_ok a n cap L w hl hb hn hm h hs).mono ?_
   rintro en w' ⟨ao, c, rfl, h1, h2⟩;have e : enc L = (body L, 0) := by unfold enc; rw [if_pos h, if_pos hs]
   rw [e];exact ⟨⟨_, _, _, rfl, h1, Nat.le_refl _⟩, h2⟩
  ·refine (refEncode_big a n cap L w hl hb hn hm h (by omega)).mono ?_
   rintro en w' ⟨rfl, h2⟩;have e : enc L = ([], 42) := by unfold enc; rw [if_pos h, if_neg hs]
   rw [e];exact ⟨⟨_, _, _, rfl, Byt.empty _, by omega⟩, h2⟩
 ·refine (refEncode_wrong a n cap L w hl hb hn hm h).mono ?_
  rintro en w' ⟨rfl, h2⟩;have e : enc L = ([], wrong L) := by unfold enc; rw [if_neg h]
  rw [e];exact ⟨⟨_, _, _, rfl, Byt.empty _, by omega⟩, h2⟩
end Go.Proofs.YtkiopabcnemgnaaGreatDoor
