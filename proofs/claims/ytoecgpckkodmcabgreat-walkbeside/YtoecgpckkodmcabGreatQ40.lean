import Derived.Test.YtoecgpckkodmcabGreatQ31
import Derived.Test.YtoecgpckkodmcabGreatQ32
import Derived.Test.YtoecgpckkodmcabGreatQ39
import Derived.Test.YtoecgpckkodmcabGreatQ27
import Derived.Lib.SlBytesConst
namespace Go.Proofs.YtoecgpckkodmcabGreat
open Go.RowKit
theorem btW (zs : List Int) (h : (zs.all fun z => decide (0 ≤ z) && decide (z ≤ 255)) = true) : Bt zs := by
 intro z hz
 have := List.all_eq_true.1 h z hz
 simpa using this
theorem within_sub (L : List PrT) (lo hi : List Int) : (withinT L lo hi).Sublist L := (List.drop_sublist _ _).trans (upT_sub L hi)
theorem vp_small {L Q : List PrT} (h : ∀ p ∈ L, Vp p) (hs : ∀ p ∈ Q, p ∈ L) : ∀ p ∈ Q, p.key.length ≤ 100000000 ∧ p.val.length ≤ 100000000 := fun p hp => by
 have hv := h p (hs p hp)
 have h1 := hv.k2
 have h2 := hv.v1
 omega
def GatP (w : World) (L : List PrT) (en : Ending) (w' : World) : Prop := ∃ a k c, en = .returned (.tuple #[.slice a k c, .bool true]) ∧ MpW w' a k c L ∧ w.grownBy w' none
theorem gather_range {t : Option TrT} {L : List PrT} (hG : GwT 400 t L) {p A1 A2 A3 ln hn : Nat} {lo hi : List Int} {w w1 : World} (hr : RgB w w1 p A1 A2 A3 ln hn lo hi) (ht : TreeT w p t) (btl : Bt lo) (bth : Bt hi) (n : Nat) (h1 : 1 ≤ n) (h2 : n ≤ 10000001) :
  Calls Tryz.prog 18 #[.func (.func 37) #[] #[.pointer (some ⟨A1, 0, none⟩), .pointer (some ⟨A2, 0, none⟩), .pointer (some ⟨A3, 0, none⟩)], .int .i64 (n : Nat)] w1 fun en w' => GatP w1 ((withinT L lo hi).take n) en w' := by
 obtain ⟨a2, c2, y2, b2⟩ := hr.k2
 obtain ⟨a3, c3, y3, b3⟩ := hr.k3
 have hfl := hG.fl
 have hs := range1_seq 4 t p A1 A2 A3 a2 ln c2 lo a3 hn c3 hi w1 hr.k1 y2 y3 (ht.kept (FrT.of hr.gr)) (hG.walk (Nat.le_refl _)) b2 btl b3 bth
 rw [hfl] at hs
 exact gather_any n _ w1 (enters_of Tryz.func37 (by kernel_rfl) rfl) hs (Below.refl _ _) h1 h2 (vp_small hG.vp fun q hq => (within_sub L lo hi).mem hq)
theorem gather_back {t : Option TrT} {L : List PrT} (hG : GwT 400 t L) {p A1 A2 A3 ln hn : Nat} {lo hi : List Int} {w w1 : World} (hr : RgB w w1 p A1 A2 A3 ln hn lo hi) (ht : TreeT w p t) (btl : Bt lo) (bth : Bt hi) (n : Nat) (h1 : 1 ≤ n) (h2 : n ≤ 10000001) :
  Calls Tryz.prog 18 #[.func (.func 39) #[] #[.pointer (some ⟨A1, 0, none⟩), .pointer (some ⟨A2, 0, none⟩), .pointer (some ⟨A3, 0, none⟩)], .int .i64 (n : Nat)] w1 fun en w' => GatP w1 ((withinT L lo hi).reverse.take n) en w' := by
 obtain ⟨a2, c2, y2, b2⟩ := hr.k2
 obtain ⟨a3, c3, y3, b3⟩ := hr.k3
 have hfl := hG.fl
 have hs := back1_seq 4 (by decide) t p A1 A2 A3 a2 ln c2 lo a3 hn c3 hi w1 hr.k1 y2 y3 (ht.kept (FrT.of hr.gr)) (hG.walk (Nat.le_refl _)) b2 btl b3 bth
 rw [hfl] at hs
 exact gather_any n _ w1 (enters_of Tryz.func39 (by kernel_rfl) rfl) hs (Below.refl _ _) h1 h2 (vp_small hG.vp fun q hq => (within_sub L lo hi).mem (List.mem_reverse.1 hq))
def ex4 : List CgT := [⟨[99], [51], false⟩, ⟨[97], [49], false⟩, ⟨[100], [52], false⟩, ⟨[98], [50], false⟩]
def exL : List PrT := [⟨[97], [49], []⟩, ⟨[98], [50], []⟩, ⟨[99], [51], []⟩, ⟨[100], [52], []⟩]
theorem ex4_grown : grG ex4 = exL := by rfl
theorem ex_range : (withinT exL [98] [100]).take 9 = [⟨[98], [50], []⟩, ⟨[99], [51], []⟩] := by rfl
theorem ex_back : ((withinT exL [] [99]).reverse).take 9 = [⟨[98], [50], []⟩, ⟨[97], [49], []⟩] := by rfl
theorem ex_from : withinT exL [98, 98] [] = [⟨[99], [51], []⟩, ⟨[100], [52], []⟩] := by rfl
theorem ex_all : (withinT exL [] []).length = 4 := by rfl
theorem ex_rank : findT exL [98, 98] = 2 := by rfl
theorem ex_built {w : World} {a1 a2 a3 a4 b1 b2 b3 b4 : Option Addr} {c1 c2 c3 c4 d1 d2 d3 d4 : Nat} (k1 : Byt w a1 1 c1 [99]) (v1 : Byt w b1 1 d1 [51]) (k2 : Byt w a2 1 c2 [97]) (v2 : Byt w b2 1 d2 [49]) (k3 : Byt w a3 1 c3 [100]) (v3 : Byt w b3 1 d3 [52]) (k4 : Byt w a4 1 c4 [98]) (v4 : Byt w b4 1 d4 [50]) :
  CgW (w.alloc (.cells #[.slice a1 1 c1, .slice b1 1 d1, .bool false, .slice a2 1 c2, .slice b2 1 d2, .bool false, .slice a3 1 c3, .slice b3 1 d3, .bool false, .slice a4 1 c4, .slice b4 1 d4, .bool false] 53)) (some ⟨w.heap.size, 0, none⟩) ex4 := by
 have g := World.grownBy_alloc w (.cells #[.slice a1 1 c1, .slice b1 1 d1, .bool false, .slice a2 1 c2, .slice b2 1 d2, .bool false, .slice a3 1 c3, .slice b3 1 d3, .bool false, .slice a4 1 c4, .slice b4 1 d4, .bool false] 53) none
 have r := heap_at0 w #[.slice a1 1 c1, .slice b1 1 d1, .bool false, .slice a2 1 c2, .slice b2 1 d2, .bool false, .slice a3 1 c3, .slice b3 1 d3, .bool false, .slice a4 1 c4, .slice b4 1 d4, .bool false] 53
 intro i x hx
 match i, hx with
 | 0, hx => cases hx; exact ⟨_, _, _, _, _, _, rfl, cell_heap r rfl, cell_heap r rfl, cell_heap r rfl, k1.keptN g, v1.keptN g, btW _ rfl, btW _ rfl⟩
 | 1, hx => cases hx; exact ⟨_, _, _, _, _, _, rfl, cell_heap r rfl, cell_heap r rfl, cell_heap r rfl, k2.keptN g, v2.keptN g, btW _ rfl, btW _ rfl⟩
 | 2, hx => cases hx; exact ⟨_, _, _, _, _, _, rfl, cell_heap r rfl, cell_heap r rfl, cell_heap r rfl, k3.keptN g, v3.keptN g, btW _ rfl, btW _ rfl⟩
 | 3, hx => cases hx; exact ⟨_, _, _, _, _, _, rfl, cell_heap r rfl, cell_heap r rfl, cell_heap r rfl, k4.keptN g, v4.keptN g, btW _ rfl, btW _ rfl⟩
 | i + 4, hx => simp [ex4] at hx
theorem conv_atW (W : World) (C : Array Value) (n c k : Nat) (hk : k = W.heap.size) :
  (convert 23 23 (.slice (some ⟨k, 0, none⟩) n c)).run Tryz.prog (W.alloc (.cells C 5)) = .ok (.slice (some ⟨k, 0, none⟩) n c) (W.alloc (.cells C 5 (C.size, C.size + 1))) := by
 subst hk
 exact Lib.run_convert_bytes_const (P := Tryz.prog) W 23 5 C n c Tryz.underlying23 Tryz.underlying5
theorem litW (w : World) (e : TypeId) (cs : Array Value) (fr : Nat × Nat) (zs : List Int) (n k : Nat) (hn : n = zs.length) (h : cs = (zs.map (Value.int .u8)).toArray) (hk : k = w.heap.size) : Byt (w.alloc (.cells cs e fr)) (some ⟨k, 0, none⟩) n n zs := by
 subst h hn hk
 refine Byt.of_cells rfl fun i hi => ?_
 rw [Nat.zero_add]
 have := cell_of_row (w.alloc (.cells (zs.map (Value.int .u8)).toArray e fr)) w.heap.size i _ e fr (heap_alloc_new w _)
 rw [this]
 simp [List.getD, List.getElem?_eq_getElem hi]
set_option maxHeartbeats 16000000 in
set_option maxRecDepth 100000 in
theorem first11 (w : World) : Calls Tryz.prog 5 #[] w fun en w' => en = .returned (.bool true) ∧ w.grownBy w' none := by
 have v1 := fun (W : World) (C : Array Value) (n c : Nat) => conv_atW W C n c _ rfl
 have v2 := fun (W : World) (o : Obj) (C : Array Value) (n c : Nat) => conv_atW (W.alloc o) C n c (W.heap.size + 1) (World.size_alloc W o).symm
 go_enter Tryz.func5, Tryz.ntmps5
 go_wp2_with fail
 refine (set_any 99 51 w).mono ?_
 rintro en w1 ⟨a1, c1, b1, d1, rfl, hg1, x1, y1⟩
 have G1 := hid_intro hg1
 have X1 := hid_intro x1
 have Y1 := hid_intro y1
 clear hg1 x1 y1
 go_wp2_with fail
 refine (set_any 97 49 w1).mono ?_
 rintro en w2 ⟨a2, c2, b2, d2, rfl, hg2, x2, y2⟩
 have G2 := hid_intro hg2
 have X2 := hid_intro x2
 have Y2 := hid_intro y2
 clear hg2 x2 y2
 go_wp2_with fail
 refine (set_any 100 52 w2).mono ?_
 rintro en w3 ⟨a3, c3, b3, d3, rfl, hg3, x3, y3⟩
 have G3 := hid_intro hg3
 have X3 := hid_intro x3
 have Y3 := hid_intro y3
 clear hg3 x3 y3
 go_wp2_with fail
 refine (set_any 98 50 w3).mono ?_
 rintro en w4 ⟨a4, c4, b4, d4, rfl, hg4, x4, y4⟩
 have G14 := hid_intro (grown_trans (grown_trans (grown_trans G1.out G2.out) G3.out) hg4)
 have CG := hid_intro (ex_built (X1.out.keptN (grown_trans (grown_trans G2.out G3.out) hg4)) (Y1.out.keptN (grown_trans (grown_trans G2.out G3.out) hg4)) (X2.out.keptN (grown_trans G3.out hg4)) (Y2.out.keptN (grown_trans G3.out hg4)) (X3.out.keptN hg4) (Y3.out.keptN hg4) x4 y4)
 have G5 := hid_intro (World.grownBy_alloc w4 (.cells #[.slice a1 1 c1, .slice b1 1 d1, .bool false, .slice a2 1 c2, .slice b2 1 d2, .bool false, .slice a3 1 c3, .slice b3 1 d3, .bool false, .slice a4 1 c4, .slice b4 1 d4, .bool false] 53) none)
 clear hg4 x4 y4 G1 G2 G3 X1 Y1 X2 Y2 X3 Y3
 go_wp2_with fail
 refine (grown_law (some ⟨w4.heap.size, 0, none⟩) 4 4 ex4 _ CG.out rfl).mono ?_
 rintro en w6 ⟨p, t, ma, mn, mc, rfl, ht6, hw6, _, hg6⟩
 rw [ex4_grown] at hw6
 have T6 := hid_intro ht6
 have HW := hid_intro hw6
 have G6 := hid_intro (grown_trans G14.out (grown_trans G5.out hg6))
 clear ht6 hw6 hg6 CG G5 G14
 go_wp2_with fail
 have L1 := hid_intro (litW w6 5 #[.int .u8 98] (1, 2) [98] 1 _ rfl rfl rfl)
 have L2 := hid_intro (litW (w6.alloc (.cells #[.int .u8 98] 5 (1, 2))) 5 #[.int .u8 100] (1, 2) [100] 1 (w6.heap.size + 1) rfl rfl (World.size_alloc w6 _).symm)
 have g7 := World.grownBy_alloc w6 (.cells #[.int .u8 98] 5 (1, 2)) none
 have g8 := World.grownBy_alloc (w6.alloc (.cells #[.int .u8 98] 5 (1, 2))) (.cells #[.int .u8 100] 5 (1, 2)) none
 have G8 := hid_intro (grown_trans g7 g8)
 have T8 := hid_intro (T6.out.kept (FrT.of G8.out))
 refine (range_any p (some ⟨w6.heap.size, 0, none⟩) 1 1 [98] (some ⟨w6.heap.size + 1, 0, none⟩) 1 1 [100] _ (L1.out.keptN g8) L2.out (by decide) (by decide)).mono ?_
 rintro en w9 ⟨A1, A2, A3, rfl, hr9⟩
 have GC := hid_intro (gather_range HW.out hr9 T8.out (btW _ rfl) (btW _ rfl) 9 (by decide) (by decide))
 have G9 := hid_intro (grown_trans G8.out hr9.gr)
 clear hr9 g7 g8 L1 L2
 go_wp2_with fail
 refine GC.out.mono ?_
 rintro en w10 ⟨la, lk, lc, rfl, hm10, hg10⟩
 rw [ex_range] at hm10
 have hlk : lk = 2 := hm10.1.symm
 subst hlk
 have M10 := hid_intro hm10
 have G10 := hid_intro (grown_trans G9.out hg10)
 have T10 := hid_intro (T6.out.kept (FrT.of G10.out))
 clear hm10 hg10 GC T8 G8 G9
 go_wp2_with fail
 have L3 := hid_intro (litW w10 5 #[.int .u8 99] (1, 2) [99] 1 _ rfl rfl rfl)
 have g11 := World.grownBy_alloc w10 (.cells #[.int .u8 99] 5 (1, 2)) none
 have G11 := hid_intro g11
 refine (back_any p none 0 0 [] (some ⟨w10.heap.size, 0, none⟩) 1 1 [99] _ (Byt.empty _) L3.out (by decide) (by decide)).mono ?_
 rintro en w12 ⟨B1, B2, B3, rfl, hr12⟩
 have GC := hid_intro (gather_back HW.out hr12 (T10.out.kept (FrT.of G11.out)) (btW _ rfl) (btW _ rfl) 9 (by decide) (by decide))
 have G12 := hid_intro (grown_trans G11.out hr12.gr)
 clear hr12 g11 L3
 go_wp2_with fail
 refine GC.out.mono ?_
 rintro en w13 ⟨ra, rk, rc, rfl, hm13, hg13⟩
 rw [ex_back] at hm13
 have hrk : rk = 2 := hm13.1.symm
 subst hrk
 have M13 := hid_intro hm13
 have G13 := hid_intro (grown_trans G12.out hg13)
 clear hm13 hg13 GC G11 G12
 have T13 := hid_intro (T10.out.kept (FrT.of G13.out))
 have KW := hid_intro (HW.out.walk (Nat.le_refl _))
 have HFL := hid_intro HW.out.fl
 have NC := hid_intro (nth_ok t p 3 ⟨[100], [52], []⟩ w13 T13.out KW.out (by rw [HFL.out]; rfl))
 go_wp2_with fail
 refine NC.out.mono ?_
 rintro en w14 ⟨kv, vv, lo14, hi14, rfl, hp14, _, _, hg14⟩
 have P14 := hid_intro hp14
 have G14 := hid_intro hg14
 obtain ⟨ka, kc, va, vc, e14, x14, y14⟩ := pv_bp hp14
 injection e14 with e1 e2
 injection e2 with e2 _
 subst e1 e2
 have X14 : Hid (Byt w14 ka 1 kc [100]) := x14
 clear hp14 hg14 NC x14 y14
 have NC := hid_intro (nth_no t p 4 (w14.alloc (.cells #[.slice ka 1 kc, .slice va 1 vc] 30)) (T13.out.kept (FrT.of (grown_al G14.out _))) KW.out (.inr (by rw [HFL.out]; decide)))
 go_wp2_with fail
 refine NC.out.mono ?_
 rintro en w15 ⟨rfl, hg15⟩
 have H14 := hid_intro (heap_kept (heap_at0 w14 #[.slice ka 1 kc, .slice va 1 vc] 30) hg15)
 have G15 := hid_intro (grown_trans G14.out (grown_trans (World.grownBy_alloc w14 (.cells #[.slice ka 1 kc, .slice va 1 vc] 30) none) hg15))
 have X15 := hid_intro (X14.out.keptN (grown_trans (World.grownBy_alloc w14 (.cells #[.slice ka 1 kc, .slice va 1 vc] 30) none) hg15))
 clear hg15 NC G14 X14 P14
 go_wp2_with fail
 obtain ⟨W15, hW15⟩ : ∃ W15, w15.alloc (.cells #[.slice none 0 0, .slice none 0 0] 30) = W15 := ⟨_, rfl⟩
 have gW : w15.grownBy W15 none := by rw [← hW15]; exact World.grownBy_alloc w15 _ none
 have hsW : W15.heap.size = w15.heap.size + 1 := by rw [← hW15]; simp
 have LB := hid_intro (litW W15 5 #[.int .u8 98, .int .u8 98] (2, 3) [98, 98] 2 _ rfl rfl rfl)
 have gB := World.grownBy_alloc W15 (.cells #[.int .u8 98, .int .u8 98] 5 (2, 3)) none
 have GB := hid_intro (grown_trans gW gB)
 have FC := hid_intro (from_any t p (some ⟨W15.heap.size, 0, none⟩) 2 2 [98, 98] _ (T13.out.kept (FrT.of (grown_trans G15.out GB.out))) KW.out LB.out (btW _ rfl) (by decide))
 rw [hsW] at FC
 rw [← hW15] at FC GB
 clear hW15 gW gB LB hsW
 refine FC.out.mono ?_
 rintro en w17 ⟨hg17, hc17⟩
 have hx17 : ∃ (x : PgT) (n0 m : Nat), x.2.2 = ⟨[99], [51], []⟩ ∧ en = .returned (.tuple #[.agg #[x.1, x.2.1], .bool true]) ∧ PxP n0 m x w17 := by
  rcases hc17 with ⟨h0, _⟩ | ⟨x, n0, m, h1, h2, h3, _⟩
  ·rw [HFL.out, ex_from] at h0; cases h0
  ·rw [HFL.out, ex_from] at h1
   exact ⟨x, n0, m, by have := List.prefix_iff_eq_take.1 h1; simpa using this, h2, h3⟩
 clear hc17
 obtain ⟨⟨fk, fv, fp⟩, n0, m, hfp, rfl, hpx⟩ := hx17
 obtain ⟨lo', hi', _, _, hpt⟩ := hpx
 simp only at hfp hpt
 subst hfp
 obtain ⟨fa, fc, ga, gc, e17, x17, y17⟩ := pv_bp hpt
 injection e17 with e1 e2
 injection e2 with e2 _
 subst e1 e2
 have G17 := hid_intro (grown_trans GB.out hg17)
 have GA := hid_intro (grown_trans G15.out G17.out)
 have X17 : Hid (Byt w17 fa 1 fc [99]) := x17
 have gS := World.grownBy_alloc w17 (.cells #[.slice fa 1 fc, .slice ga 1 gc] 30) none
 have rS := heap_at0 w17 #[.slice fa 1 fc, .slice ga 1 gc] 30
 have GS := hid_intro gS
 have RS := hid_intro rS
 have hz14 : w14.heap.size < w17.heap.size := by
  have h1 := (Array.getElem?_eq_some_iff.1 H14.out).1
  have h2 := G17.out.size
  omega
 clear hpt hg17 x17 y17 FC gS rS
 go_upto_region 9 with fail
 generalize w17.alloc (.cells #[.slice fa 1 fc, .slice ga 1 gc] 30) = w18 at *
 have ml := M10.out.cef (CeF.of (grown_trans G13.out (grown_trans GA.out GS.out)))
 have mm := M13.out.cef (CeF.of (grown_trans GA.out GS.out))
 obtain ⟨b, off, p1, q1, _, _, rfl, l0, _, kb0, _⟩ := ml.get (i := 0) rfl
 obtain ⟨b', off', _, _, p2, q2, e, _, l1, _, kb1⟩ := ml.get (i := 1) rfl
 cases e
 obtain ⟨b', off', p3, q3, _, _, rfl, l2, _, kb2, _⟩ := mm.get (i := 0) rfl
 obtain ⟨b'', off'', _, _, p4, q4, e, _, l3, _, kb3⟩ := mm.get (i := 1) rfl
 cases e
 simp only [List.length_cons, List.length_nil, Nat.zero_add, Nat.zero_mul, Nat.add_zero, Nat.one_mul] at l0 l1 l2 l3 kb0 kb1 kb2 kb3
 have s0 := conv_str kb0
 have s1 := conv_str kb1
 have s2 := conv_str kb2
 have s3 := conv_str kb3
 have s4 := conv_str (X15.out.keptN (grown_trans G17.out GS.out))
 have s5 := conv_str (X17.out.keptN GS.out)
 have t98 : strOfNums [98] = (⟨#[98]⟩ : ByteArray) := rfl
 have t51 : strOfNums [51] = (⟨#[51]⟩ : ByteArray) := rfl
 have t49 : strOfNums [49] = (⟨#[49]⟩ : ByteArray) := rfl
 have t100 : strOfNums [100] = (⟨#[100]⟩ : ByteArray) := rfl
 have t99 : strOfNums [99] = (⟨#[99]⟩ : ByteArray) := rfl
 rw [t98] at s0 s2
 rw [t51] at s1
 rw [t49] at s3
 rw [t100] at s4
 rw [t99] at s5
 have h14 := heap_kept H14.out (grown_trans G17.out GS.out)
 have u0 := cell_heap (i := 0) h14 rfl
 have u1 := cell_heap (i := 0) RS.out rfl
 have T18 := hid_intro (T13.out.kept (FrT.of (grown_trans GA.out GS.out)))
 have GZ := hid_intro (grown_trans G6.out (grown_trans G10.out (grown_trans G13.out (grown_trans GA.out GS.out))))
 clear ml mm kb0 kb1 kb2 kb3 h14 t98 t51 t49 t100 t99 M10 M13 X15 X17 RS H14 GS GA G17 G15 G13 GB T13 T10 T6 G10 G6
 generalize w17.heap.size = S17 at *
 generalize w14.heap.size = S14 at *
 clear hz14
 go_wp2_with fail
 refine (num11 0 w18).mono ?_
 rintro en w19 ⟨rfl, hw⟩
 rw [hw]
 clear hw
 go_wp2_with fail
 refine (num11 110 w18).mono ?_
 rintro en w19 ⟨rfl, hw⟩
 rw [hw]
 clear hw l0 l1 l2 l3 s0 s1 s2 s3 s4
 have LB := hid_intro (litW w18 5 #[.int .u8 98, .int .u8 98] (2, 3) [98, 98] 2 _ rfl rfl rfl)
 have GB := hid_intro (World.grownBy_alloc w18 (.cells #[.int .u8 98, .int .u8 98] 5 (2, 3)) none)
 have RC := hid_intro (rank_any t p (some ⟨w18.heap.size, 0, none⟩) 2 2 [98, 98] _ (T18.out.kept (FrT.of GB.out)) KW.out LB.out (btW _ rfl))
 rw [HFL.out, ex_rank] at RC
 go_wp2_with fail
 refine RC.out.mono ?_
 rintro en w20 ⟨rfl, hg20⟩
 have G20 := hid_intro (grown_trans GB.out hg20)
 have CC := hid_intro (count_any t p none 0 0 [] none 0 0 [] w20 (T18.out.kept (FrT.of G20.out)) KW.out (Byt.empty _) (btW _ rfl) (Byt.empty _) (btW _ rfl))
 rw [HFL.out, ex_all] at CC
 clear hg20 RC LB GB
 go_wp2_with fail
 refine CC.out.mono ?_
 rintro en w21 ⟨rfl, hg21⟩
 have G21 := hid_intro (grown_trans GZ.out (grown_trans G20.out hg21))
 clear hg21 CC
 go_wp2
 go_ret
 exact ⟨rfl, G21.out⟩
end Go.Proofs.YtoecgpckkodmcabGreat
