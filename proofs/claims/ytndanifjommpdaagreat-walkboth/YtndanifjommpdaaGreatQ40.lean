import Derived.Test.YtndanifjommpdaaGreatQ32
import Derived.Test.YtndanifjommpdaaGreatQ33
import Derived.Test.YtndanifjommpdaaGreatQ39
import Derived.Test.YtndanifjommpdaaGreatQ28
import Derived.Lib.SlBytesConst
import Derived.Test.YtndanifjommpdaaGreatQ30
namespace Go.Proofs.YtndanifjommpdaaGreat
open Go.RowKit
theorem btW (zs : List Int) (h : (zs.all fun z => decide (0 ≤ z) && decide (z ≤ 255)) = true) : Bt zs := by
 intro z hz
 have := List.all_eq_true.1 h z hz
 simpa using this
theorem within_sub (L : List PrT) (lo hi : List Int) : (withinT L lo hi).Sublist L := (List.drop_sublist _ _).trans (upT_sub L hi)
theorem vp_small {L Q : List PrT} (h : ∀ p ∈ L, Vp p) (hs : ∀ p ∈ Q, p ∈ L) : ∀ p ∈ Q, p.key.length ≤ 100000000 ∧ p.val.length ≤ 100000000 := fun p hp => by
 have hv := h p (hs p hp)
 have h1 := hv.k2
 have h2 := hv.v1
 omega
def GatP (w : World) (L : List PrT) (en : Ending) (w' : World) : Prop := ∃ a k c, en = .returned (.tuple #[.slice a k c, .bool true]) ∧ MpW w' a k c L ∧ w.grownBy w' none
theorem gather_range {t : Option TrT} {L : List PrT} (hG : GwT 400 t L) {p A1 A2 A3 ln hn : Nat} {lo hi : List Int} {w w1 : World} (hr : RgB w w1 p A1 A2 A3 ln hn lo hi) (ht : TreeT w p t) (btl : Bt lo) (bth : Bt hi) (n : Nat) (h1 : 1 ≤ n) (h2 : n ≤ 10000001) :
  Calls Tryz.prog 13 #[.func (.func 33) #[] #[.pointer (some ⟨A1, 0, none⟩), .pointer (some ⟨A2, 0, none⟩), .pointer (some ⟨A3, 0, none⟩)], .int .i64 (n : Nat)] w1 fun en w' => GatP w1 ((withinT L lo hi).take n) en w' := by
 obtain ⟨a2, c2, y2, b2⟩ := hr.k2
 obtain ⟨a3, c3, y3, b3⟩ := hr.k3
 have hfl := hG.fl
 have hs := range1_seq 4 t p A1 A2 A3 a2 ln c2 lo a3 hn c3 hi w1 hr.k1 y2 y3 (ht.kept (FrT.of hr.gr)) (hG.walk (Nat.le_refl _)) b2 btl b3 bth
 rw [hfl] at hs
 exact gather_any n _ w1 (enters_of Tryz.func33 (by kernel_rfl) rfl) hs (Below.refl _ _) h1 h2 (vp_small hG.vp fun q hq => (within_sub L lo hi).mem hq)
theorem gather_back {t : Option TrT} {L : List PrT} (hG : GwT 400 t L) {p A1 A2 A3 ln hn : Nat} {lo hi : List Int} {w w1 : World} (hr : RgB w w1 p A1 A2 A3 ln hn lo hi) (ht : TreeT w p t) (btl : Bt lo) (bth : Bt hi) (n : Nat) (h1 : 1 ≤ n) (h2 : n ≤ 10000001) :
  Calls Tryz.prog 13 #[.func (.func 35) #[] #[.pointer (some ⟨A1, 0, none⟩), .pointer (some ⟨A2, 0, none⟩), .pointer (some ⟨A3, 0, none⟩)], .int .i64 (n : Nat)] w1 fun en w' => GatP w1 ((withinT L lo hi).reverse.take n) en w' := by
 obtain ⟨a2, c2, y2, b2⟩ := hr.k2
 obtain ⟨a3, c3, y3, b3⟩ := hr.k3
 have hfl := hG.fl
 have hs := back1_seq 4 (by decide) t p A1 A2 A3 a2 ln c2 lo a3 hn c3 hi w1 hr.k1 y2 y3 (ht.kept (FrT.of hr.gr)) (hG.walk (Nat.le_refl _)) b2 btl b3 bth
 rw [hfl] at hs
 exact gather_any n _ w1 (enters_of Tryz.func35 (by kernel_rfl) rfl) hs (Below.refl _ _) h1 h2 (vp_small hG.vp fun q hq => (within_sub L lo hi).mem (List.mem_reverse.1 hq))
def ex4 : List CgT := [⟨[99], [51], false⟩, ⟨[97], [49], false⟩, ⟨[100], [52], false⟩, ⟨[98], [50], false⟩]
def exL : List PrT := [⟨[97], [49], []⟩, ⟨[98], [50], []⟩, ⟨[99], [51], []⟩, ⟨[100], [52], []⟩]
theorem ex4_grown : grG ex4 = exL := by rfl
theorem ex_range : (withinT exL [98] [100]).take 9 = [⟨[98], [50], []⟩, ⟨[99], [51], []⟩] := by rfl
theorem ex_back : ((withinT exL [] [99]).reverse).take 9 = [⟨[98], [50], []⟩, ⟨[97], [49], []⟩] := by rfl
theorem ex_from : withinT exL [98, 98] [] = [⟨[99], [51], []⟩, ⟨[100], [52], []⟩] := by rfl
theorem ex_all : (withinT exL [] []).length = 4 := by rfl
theorem ex_rank : findT exL [98, 98] = 2 := by rfl
theorem ex_built {w : World} {a1 a2 a3 a4 b1 b2 b3 b4 : Option Addr} {c1 c2 c3 c4 d1 d2 d3 d4 : Nat} (k1 : Byt w a1 1 c1 [99]) (v1 : Byt w b1 1 d1 [51]) (k2 : Byt w a2 1 c2 [97]) (v2 : Byt w b2 1 d2 [49]) (k3 : Byt w a3 1 c3 [100]) (v3 : Byt w b3 1 d3 [52]) (k4 : Byt w a4 1 c4 [98]) (v4 : Byt w b4 1 d4 [50]) :
  CgW (w.alloc (.cells #[.slice a1 1 c1, .slice b1 1 d1, .bool false, .slice a2 1 c2, .slice b2 1 d2, .bool false, .slice a3 1 c3, .slice b3 1 d3, .bool false, .slice a4 1 c4, .slice b4 1 d4, .bool false] 46)) (some ⟨w.heap.size, 0, none⟩) ex4 := by
 have g := World.grownBy_alloc w (.cells #[.slice a1 1 c1, .slice b1 1 d1, .bool false, .slice a2 1 c2, .slice b2 1 d2, .bool false, .slice a3 1 c3, .slice b3 1 d3, .bool false, .slice a4 1 c4, .slice b4 1 d4, .bool false] 46) none
 have r := heap_at0 w #[.slice a1 1 c1, .slice b1 1 d1, .bool false, .slice a2 1 c2, .slice b2 1 d2, .bool false, .slice a3 1 c3, .slice b3 1 d3, .bool false, .slice a4 1 c4, .slice b4 1 d4, .bool false] 46
 intro i x hx
 match i, hx with
 | 0, hx => cases hx; exact ⟨_, _, _, _, _, _, rfl, cell_heap r rfl, cell_heap r rfl, cell_heap r rfl, k1.keptN g, v1.keptN g, btW _ rfl, btW _ rfl⟩
 | 1, hx => cases hx; exact ⟨_, _, _, _, _, _, rfl, cell_heap r rfl, cell_heap r rfl, cell_heap r rfl, k2.keptN g, v2.keptN g, btW _ rfl, btW _ rfl⟩
 | 2, hx => cases hx; exact ⟨_, _, _, _, _, _, rfl, cell_heap r rfl, cell_heap r rfl, cell_heap r rfl, k3.keptN g, v3.keptN g, btW _ rfl, btW _ rfl⟩
 | 3, hx => cases hx; exact ⟨_, _, _, _, _, _, rfl, cell_heap r rfl, cell_heap r rfl, cell_heap r rfl, k4.keptN g, v4.keptN g, btW _ rfl, btW _ rfl⟩
 | i + 4, hx => simp [ex4] at hx
end Go.Proofs.YtndanifjommpdaaGreat
namespace Go.Proofs.YtndanifjommpdaaGreat
open Go.RowKit
theorem conv_atW (W : World) (C : Array Value) (n c k : Nat) (hk : k = W.heap.size) :
  (convert 23 23 (.slice (some ⟨k, 0, none⟩) n c)).run Tryz.prog (W.alloc (.cells C 5)) = .ok (.slice (some ⟨k, 0, none⟩) n c) (W.alloc (.cells C 5 (C.size, C.size + 1))) := by
 subst hk
 exact Lib.run_convert_bytes_const (P := Tryz.prog) W 23 5 C n c Tryz.underlying23 Tryz.underlying5
theorem litW (w : World) (e : TypeId) (cs : Array Value) (fr : Nat × Nat) (zs : List Int) (n k : Nat) (hn : n = zs.length) (h : cs = (zs.map (Value.int .u8)).toArray) (hk : k = w.heap.size) : Byt (w.alloc (.cells cs e fr)) (some ⟨k, 0, none⟩) n n zs := by
 subst h hn hk
 refine Byt.of_cells rfl fun i hi => ?_
 rw [Nat.zero_add]
 have := cell_of_row (w.alloc (.cells (zs.map (Value.int .u8)).toArray e fr)) w.heap.size i _ e fr (heap_alloc_new w _)
 rw [this]
 simp [List.getD, List.getElem?_eq_getElem hi]
set_option maxHeartbeats 16000000 in
set_option maxRecDepth 100000 in
theorem first11 (w : World) : Calls Tryz.prog 5 #[] w fun en w' => en = .returned (.bool true) ∧ w.grownBy w' none := by
 have v1 := fun (W : World) (C : Array Value) (n c : Nat) => conv_atW W C n c _ rfl
 have v2 := fun (W : World) (o : Obj) (C : Array Value) (n c : Nat) => conv_atW (W.alloc o) C n c (W.heap.size + 1) (World.size_alloc W o).symm
 go_enter Tryz.func5, Tryz.ntmps5
 go_wp2_with fail
 refine (set_any 99 51 w).mono ?_
 rintro en w1 ⟨a1, c1, b1, d1, rfl, hg1, x1, y1⟩
 have G1 := hid_intro hg1
 have X1 := hid_intro x1
 have Y1 := hid_intro y1
 clear hg1 x1 y1
 go_wp2_with fail
 refine (set_any 97 49 w1).mono ?_
 rintro en w2 ⟨a2, c2, b2, d2, rfl, hg2, x2, y2⟩
 have G2 := hid_intro hg2
 have X2 := hid_intro x2
 have Y2 := hid_intro y2
 clear hg2 x2 y2
 go_wp2_with fail
 refine (set_any 100 52 w2).mono ?_
 rintro en w3 ⟨a3, c3, b3, d3, rfl, hg3, x3, y3⟩
 have G3 := hid_intro hg3
 have X3 := hid_intro x3
 have Y3 := hid_intro y3
 clear hg3 x3 y3
 go_wp2_with fail
 refine (set_any 98 50 w3).mono ?_
 rintro en w4 ⟨a4, c4, b4, d4, rfl, hg4, x4, y4⟩
 have G14 := hid_intro (grown_trans (grown_trans (grown_trans G1.out G2.out) G3.out) hg4)
 have CG := hid_intro (ex_built (X1.out.keptN (grown_trans (grown_trans G2.out G3.out) hg4)) (Y1.out.keptN (grown_trans (grown_trans G2.out G3.out) hg4)) (X2.out.keptN (grown_trans G3.out hg4)) (Y2.out.keptN (grown_trans G3.out hg4)) (X3.out.keptN hg4) (Y3.out.keptN hg4) x4 y4)
 have G5 := hid_intro (World.grownBy_alloc w4 (.cells #[.slice a1 1 c1, .slice b1 1 d1, .bool false, .slice a2 1 c2, .slice b2 1 d2, .bool false, .slice a3 1 c3, .slice b3 1 d3, .bool false, .slice a4 1 c4, .slice b4 1 d4, .bool false] 46) none)
 clear hg4 x4 y4 G1 G2 G3 X1 Y1 X2 Y2 X3 Y3
 go_wp2_with fail
 refine (grown_law (some ⟨w4.heap.size, 0, none⟩) 4 4 ex4 _ CG.out rfl).mono ?_
 rintro en w6 ⟨p, t, ma, mn, mc, rfl, ht6, hw6, _, hg6⟩
 rw [ex4_grown] at hw6
 have T6 := hid_intro ht6
 have HW := hid_intro hw6
 have G6 := hid_intro (grown_trans G14.out (grown_trans G5.out hg6))
 clear ht6 hw6 hg6 CG G5 G14
 go_wp2_with fail
 have L1 := hid_intro (litW w6 5 #[.int .u8 98] (1, 2) [98] 1 _ rfl rfl rfl)
 have L2 := hid_intro (litW (w6.alloc (.cells #[.int .u8 98] 5 (1, 2))) 5 #[.int .u8 100] (1, 2) [100] 1 (w6.heap.size + 1) rfl rfl (World.size_alloc w6 _).symm)
 have g7 := World.grownBy_alloc w6 (.cells #[.int .u8 98] 5 (1, 2)) none
 have g8 := World.grownBy_alloc (w6.alloc (.cells #[.int .u8 98] 5 (1, 2))) (.cells #[.int .u8 100] 5 (1, 2)) none
 have G8 := hid_intro (grown_trans g7 g8)
 have T8 := hid_intro (T6.out.kept (FrT.of G8.out))
 refine (range_any p (some ⟨w6.heap.size, 0, none⟩) 1 1 [98] (some ⟨w6.heap.size + 1, 0, none⟩) 1 1 [100] _ (L1.out.keptN g8) L2.out (by decide) (by decide)).mono ?_
 rintro en w9 ⟨A1, A2, A3, rfl, hr9⟩
 have GC := hid_intro (gather_range HW.out hr9 T8.out (btW _ rfl) (btW _ rfl) 9 (by decide) (by decide))
 have G9 := hid_intro (grown_trans G8.out hr9.gr)
 clear hr9 g7 g8 L1 L2
 go_wp2_with fail
 refine GC.out.mono ?_
 rintro en w10 ⟨la, lk, lc, rfl, hm10, hg10⟩
 rw [ex_range] at hm10
 have hlk : lk = 2 := hm10.1.symm
 subst hlk
 have M10 := hid_intro hm10
 have G10 := hid_intro (grown_trans G9.out hg10)
 have T10 := hid_intro (T6.out.kept (FrT.of G10.out))
 clear hm10 hg10 GC T8 G8 G9
 go_wp2_with fail
 have L3 := hid_intro (litW w10 5 #[.int .u8 99] (1, 2) [99] 1 _ rfl rfl rfl)
 have g11 := World.grownBy_alloc w10 (.cells #[.int .u8 99] 5 (1, 2)) none
 have G11 := hid_intro g11
 refine (back_any p none 0 0 [] (some ⟨w10.heap.size, 0, none⟩) 1 1 [99] _ (Byt.empty _) L3.out (by decide) (by decide)).mono ?_
 rintro en w12 ⟨B1, B2, B3, rfl, hr12⟩
 have GC := hid_intro (gather_back HW.out hr12 (T10.out.kept (FrT.of G11.out)) (btW _ rfl) (btW _ rfl) 9 (by decide) (by decide))
 have G12 := hid_intro (grown_trans G11.out hr12.gr)
 clear hr12 g11 L3
 go_wp2_with fail
 refine GC.out.mono ?_
 rintro en w13 ⟨ra, rk, rc, rfl, hm13, hg13⟩
 rw [ex_back] at hm13
 have hrk : rk = 2 := hm13.1.symm
 subst hrk
 have M13 := hid_intro hm13
 have G13 := hid_intro (grown_trans G12.out hg13)
 clear hm13 hg13 GC G11 G12
 have T13 := hid_intro (T10.out.kept (FrT.of G13.out))
 have KW := hid_intro (HW.out.walk (Nat.le_refl _))
 have HFL := hid_intro HW.out.fl
 have NC := hid_intro (nth_ok t p 3 ⟨[100], [52], []⟩ w13 T13.out KW.out (by rw [HFL.out]; rfl))
 go_wp2_with fail
 refine NC.out.mono ?_
 rintro en w14 ⟨kv, vv, lo14, hi14, rfl, hp14, _, _, hg14⟩
 have P14 := hid_intro hp14
 have G14 := hid_intro hg14
 obtain ⟨ka, kc, va, vc, e14, x14, y14⟩ := pv_bp hp14
 injection e14 with e1 e2
 injection e2 with e2 _
 subst e1 e2
 have X14 : Hid (Byt w14 ka 1 kc [100]) := x14
 clear hp14 hg14 NC x14 y14
 have NC := hid_intro (nth_no t p 4 (w14.alloc (.cells #[.slice ka 1 kc, .slice va 1 vc] 35)) (T13.out.kept (FrT.of (grown_al G14.out _))) KW.out (.inr (by rw [HFL.out]; decide)))
 go_wp2_with fail
 refine NC.out.mono ?_
 rintro en w15 ⟨rfl, hg15⟩
 have H14 := hid_intro (heap_kept (heap_at0 w14 #[.slice ka 1 kc, .slice va 1 vc] 35) hg15)
 have G15 := hid_intro (grown_trans G14.out (grown_trans (World.grownBy_alloc w14 (.cells #[.slice ka 1 kc, .slice va 1 vc] 35) none) hg15))
 have X15 := hid_intro (X14.out.keptN (grown_trans (World.grownBy_alloc w14 (.cells #[.slice ka 1 kc, .slice va 1 vc] 35) none) hg15))
 clear hg15 NC G14 X14 P14
 go_wp2_with fail
 obtain ⟨W15, hW15⟩ : ∃ W15, w15.alloc (.cells #[.slice none 0 0, .slice none 0 0] 35) = W15 := ⟨_, rfl⟩
 have gW : w15.grownBy W15 none := by rw [← hW15]; exact World.grownBy_alloc w15 _ none
 have hsW : W15.heap.size = w15.heap.size + 1 := by rw [← hW15]; simp
 have LB := hid_intro (litW W15 5 #[.int .u8 98, .int .u8 98] (2, 3) [98, 98] 2 _ rfl rfl rfl)
 have gB := World.grownBy_alloc W15 (.cells #[.int .u8 98, .int .u8 98] 5 (2, 3)) none
 have GB := hid_intro (grown_trans gW gB)
 have FC := hid_intro (from_any t p (some ⟨W15.heap.size, 0, none⟩) 2 2 [98, 98] _ (T13.out.kept (FrT.of (grown_trans G15.out GB.out))) KW.out LB.out (btW _ rfl) (by decide))
 rw [hsW] at FC
 rw [← hW15] at FC GB
 clear hW15 gW gB LB hsW
 refine FC.out.mono ?_
 rintro en w17 ⟨hg17, hc17⟩
 have hx17 : ∃ (x : PgT) (n0 m : Nat), x.2.2 = ⟨[99], [51], []⟩ ∧ en = .returned (.tuple #[.agg #[x.1, x.2.1], .bool true]) ∧ PxP n0 m x w17 := by
  rcases hc17 with ⟨h0, _⟩ | ⟨x, n0, m, h1, h2, h3, _⟩
  ·rw [HFL.out, ex_from] at h0; cases h0
  ·rw [HFL.out, ex_from] at h1
   exact ⟨x, n0, m, by have := List.prefix_iff_eq_take.1 h1; simpa using this, h2, h3⟩
 clear hc17
 obtain ⟨⟨fk, fv, fp⟩, n0, m, hfp, rfl, hpx⟩ := hx17
 obtain ⟨lo', hi', _, _, hpt⟩ := hpx
 simp only at hfp hpt
 subst hfp
 obtain ⟨fa, fc, ga, gc, e17, x17, y17⟩ := pv_bp hpt
 injection e17 with e1 e2
 injection e2 with e2 _
 subst e1 e2
 have G17 := hid_intro (grown_trans GB.out hg17)
 have GA := hid_intro (grown_trans G15.out G17.out)
 have X17 : Hid (Byt w17 fa 1 fc [99]) := x17
 have gS := World.grownBy_alloc w17 (.cells #[.slice fa 1 fc, .slice ga 1 gc] 35) none
 have rS := heap_at0 w17 #[.slice fa 1 fc, .slice ga 1 gc] 35
 have GS := hid_intro gS
 have RS := hid_intro rS
 have hz14 : w14.heap.size < w17.heap.size := by
  have h1 := (Array.getElem?_eq_some_iff.1 H14.out).1
  have h2 := G17.out.size
  omega
 clear hpt hg17 x17 y17 FC gS rS
 go_upto_region 9 with fail
 generalize w17.alloc (.cells #[.slice fa 1 fc, .slice ga 1 gc] 35) = w18 at *
 have ml := M10.out.cef (CeF.of (grown_trans G13.out (grown_trans GA.out GS.out)))
 have mm := M13.out.cef (CeF.of (grown_trans GA.out GS.out))
 obtain ⟨b, off, p1, q1, _, _, rfl, l0, _, kb0, _⟩ := ml.get (i := 0) rfl
 obtain ⟨b', off', _, _, p2, q2, e, _, l1, _, kb1⟩ := ml.get (i := 1) rfl
 cases e
 obtain ⟨b', off', p3, q3, _, _, rfl, l2, _, kb2, _⟩ := mm.get (i := 0) rfl
 obtain ⟨b'', off'', _, _, p4, q4, e, _, l3, _, kb3⟩ := mm.get (i := 1) rfl
 cases e
 simp only [List.length_cons, List.length_nil, Nat.zero_add, Nat.zero_mul, Nat.add_zero, Nat.one_mul] at l0 l1 l2 l3 kb0 kb1 kb2 kb3
 have s0 := conv_str kb0
 have s1 := conv_str kb1
 have s2 := conv_str kb2
 have s3 := conv_str kb3
 have s4 := conv_str (X15.out.keptN (grown_trans G17.out GS.out))
 have s5 := conv_str (X17.out.keptN GS.out)
 have t98 : strOfNums [98] = (⟨#[98]⟩ : ByteArray) := rfl
 have t51 : strOfNums [51] = (⟨#[51]⟩ : ByteArray) := rfl
 have t49 : strOfNums [49] = (⟨#[49]⟩ : ByteArray) := rfl
 have t100 : strOfNums [100] = (⟨#[100]⟩ : ByteArray) := rfl
 have t99 : strOfNums [99] = (⟨#[99]⟩ : ByteArray) := rfl
 rw [t98] at s0 s2
 rw [t51] at s1
 rw [t49] at s3
 rw [t100] at s4
 rw [t99] at s5
 have h14 := heap_kept H14.out (grown_trans G17.out GS.out)
 have u0 := cell_heap (i := 0) h14 rfl
 have u1 := cell_heap (i := 0) RS.out rfl
 have T18 := hid_intro (T13.out.kept (FrT.of (grown_trans GA.out GS.out)))
 have GZ := hid_intro (grown_trans G6.out (grown_trans G10.out (grown_trans G13.out (grown_trans GA.out GS.out))))
 clear ml mm kb0 kb1 kb2 kb3 h14 t98 t51 t49 t100 t99 M10 M13 X15 X17 RS H14 GS GA G17 G15 G13 GB T13 T10 T6 G10 G6
 generalize w17.heap.size = S17 at *
 generalize w14.heap.size = S14 at *
 clear hz14
 go_wp2_with fail
 refine (num11 0 w18).mono ?_
 rintro en w19 ⟨rfl, hw⟩
 rw [hw]
 clear hw
 go_wp2_with fail
 refine (num11 110 w18).mono ?_
 rintro en w19 ⟨rfl, hw⟩
 rw [hw]
 clear hw l0 l1 l2 l3 s0 s1 s2 s3 s4
 have LB := hid_intro (litW w18 5 #[.int .u8 98, .int .u8 98] (2, 3) [98, 98] 2 _ rfl rfl rfl)
 have GB := hid_intro (World.grownBy_alloc w18 (.cells #[.int .u8 98, .int .u8 98] 5 (2, 3)) none)
 have RC := hid_intro (rank_any t p (some ⟨w18.heap.size, 0, none⟩) 2 2 [98, 98] _ (T18.out.kept (FrT.of GB.out)) KW.out LB.out (btW _ rfl))
 rw [HFL.out, ex_rank] at RC
 go_wp2_with fail
 refine RC.out.mono ?_
 rintro en w20 ⟨rfl, hg20⟩
 have G20 := hid_intro (grown_trans GB.out hg20)
 have CC := hid_intro (count_any t p none 0 0 [] none 0 0 [] w20 (T18.out.kept (FrT.of G20.out)) KW.out (Byt.empty _) (btW _ rfl) (Byt.empty _) (btW _ rfl))
 rw [HFL.out, ex_all] at CC
 clear hg20 RC LB GB
 go_wp2_with fail
 refine CC.out.mono ?_
 rintro en w21 ⟨rfl, hg21⟩
 have G21 := hid_intro (grown_trans GZ.out (grown_trans G20.out hg21))
 clear hg21 CC
 go_wp2
 go_ret
 exact ⟨rfl, G21.out⟩
end Go.Proofs.YtndanifjommpdaaGreat
namespace Go.Proofs.YtndanifjommpdaaGreat
open Go.RowKit
structure RgC (w W : World) (p A1 A2 A3 ln hn : Nat) (lo hi : List Int) : Prop where
 rb : RgB w W p A1 A2 A3 ln hn lo hi
 a1 : w.heap.size ≤ A1 ∧ w.heap.size ≤ A2 ∧ w.heap.size ≤ A3
 k2 : ∃ a c, W.cell? ⟨A2, 0, none⟩ = some (.slice a ln c) ∧ W.ownsRow w.heap.size 5 1 (.slice a ln c) ln (lo.map (Value.int .u8))
 k3 : ∃ a c, W.cell? ⟨A3, 0, none⟩ = some (.slice a hn c) ∧ W.ownsRow w.heap.size 5 1 (.slice a hn c) hn (hi.map (Value.int .u8))
theorem RgC.mk' {w W6 : World} {p s ln hn c5 c6 : Nat} {a5 a6 : Option Addr} {lo hi : List Int} (hg : w.grownBy W6 none) (hs : s = w.heap.size) (k1 : W6.cell? ⟨s, 0, none⟩ = some (.pointer (some ⟨p, 0, none⟩))) (k2 : (W6.cell? ⟨s + 1, 0, none⟩).isSome = true) (k3 : (W6.cell? ⟨s + 2, 0, none⟩).isSome = true)
  (o5 : W6.ownsRow (s + 3) 5 1 (.slice a5 ln c5) ln (lo.map (Value.int .u8))) (o6 : W6.ownsRow (s + 3) 5 1 (.slice a6 hn c6) hn (hi.map (Value.int .u8))) :
  RgC w ((W6.setCell ⟨s + 1, 0, none⟩ (.slice a5 ln c5)).setCell ⟨s + 2, 0, none⟩ (.slice a6 hn c6)) p s (s + 1) (s + 2) ln hn lo hi ∧ RgC w ((W6.setCell ⟨s + 2, 0, none⟩ (.slice a6 hn c6)).setCell ⟨s + 1, 0, none⟩ (.slice a5 ln c5)) p s (s + 1) (s + 2) ln hn lo hi := by
 obtain ⟨r1, r2⟩ := RgB.mk' (p := p) hg hs k1 k2 k3 o5 o6
 refine ⟨⟨r1, by omega, ⟨_, _, cell_set1 (World.cell?_setCell_same' _ _ _ k2) (by omega), own_low (own_set (own_set o5 (by omega)) (by omega)) (by omega)⟩, ⟨_, _, World.cell?_setCell_same' _ _ _ ?_, own_low (own_set (own_set o6 (by omega)) (by omega)) (by omega)⟩⟩,
  ⟨r2, by omega, ⟨_, _, World.cell?_setCell_same' _ _ _ ?_, own_low (own_set (own_set o5 (by omega)) (by omega)) (by omega)⟩, ⟨_, _, cell_set1 (World.cell?_setCell_same' _ _ _ k3) (by omega), own_low (own_set (own_set o6 (by omega)) (by omega)) (by omega)⟩⟩⟩
 ·obtain ⟨v, hv⟩ := Option.isSome_iff_exists.1 k3
  rw [cell_set1 hv (by omega)]; rfl
 ·obtain ⟨v, hv⟩ := Option.isSome_iff_exists.1 k2
  rw [cell_set1 hv (by omega)]; rfl
structure RgK (W : World) (p A1 A2 A3 ln hn : Nat) (lo hi : List Int) : Prop where
 k1 : W.cell? ⟨A1, 0, none⟩ = some (.pointer (some ⟨p, 0, none⟩))
 k2 : ∃ a c, W.cell? ⟨A2, 0, none⟩ = some (.slice a ln c) ∧ Byt W a ln c lo
 k3 : ∃ a c, W.cell? ⟨A3, 0, none⟩ = some (.slice a hn c) ∧ Byt W a hn c hi
theorem RgB.k {w W : World} {p A1 A2 A3 ln hn : Nat} {lo hi : List Int} (h : RgB w W p A1 A2 A3 ln hn lo hi) : RgK W p A1 A2 A3 ln hn lo hi := ⟨h.k1, h.k2, h.k3⟩
theorem RgK.grown {W W' : World} {p A1 A2 A3 ln hn : Nat} {lo hi : List Int} (h : RgK W p A1 A2 A3 ln hn lo hi) (hg : W.grownBy W' none) : RgK W' p A1 A2 A3 ln hn lo hi := by
 obtain ⟨a, c, h2, h3⟩ := h.k2
 obtain ⟨b, d, h4, h5⟩ := h.k3
 exact ⟨hg.cell h.k1 (by simp), ⟨a, c, hg.cell h2 (by simp), h3.keptN hg⟩, ⟨b, d, hg.cell h4 (by simp), h5.keptN hg⟩⟩
theorem RgC.behind {w W X Y Z : World} {p A1 A2 A3 ln hn ga gb : Nat} {lo hi : List Int} (h : RgC w W p A1 A2 A3 ln hn lo hi) (h1 : W.grownBy X none) (h2 : X.grownBy Y (some ga)) (h3 : Y.grownBy Z (some gb)) (ha : ga < w.heap.size) (hb : gb < w.heap.size) : RgK Z p A1 A2 A3 ln hn lo hi := by
 obtain ⟨a, c, e2, o2⟩ := h.k2
 obtain ⟨b, d, e3, o3⟩ := h.k3
 have hA := h.a1
 have ne : ∀ {g A : Nat}, g < w.heap.size → w.heap.size ≤ A → some A ≠ some g := fun h1 h2 e => by have := Option.some.inj e; omega
 have cl : ∀ {A : Nat} {v : Value}, w.heap.size ≤ A → W.cell? ⟨A, 0, none⟩ = some v → Z.cell? ⟨A, 0, none⟩ = some v := fun hw hc => h3.cell (h2.cell (h1.cell hc (by simp)) (ne ha hw)) (ne hb hw)
 have ow : ∀ {v : Value} {n : Nat} {xs : List Value}, W.ownsRow w.heap.size 5 1 v n xs → Z.ownsRow w.heap.size 5 1 v n xs := fun o => by
  have k1 := o.kept h1 (Classical.em _)
  have k2 := own_blk (w' := Z) k1 fun i e ht => by
   have hi := (own_lt10 k1 e).1
   have hl := (own_lt10 k1 e).2.1
   exact (h3.block i (by have := h2.size; omega) (ne hb hi)).trans (h2.block i hl (ne ha hi))
  exact k2
 exact ⟨cl hA.1 h.rb.k1, ⟨a, c, cl hA.2.1 e2, own_bytT (ow o2)⟩, ⟨b, d, cl hA.2.2 e3, own_bytT (ow o3)⟩⟩
theorem rangeK {t : Option TrT} {L : List PrT} (hG : GwT 400 t L) {p A1 A2 A3 ln hn : Nat} {lo hi : List Int} {w1 : World} (hr : RgK w1 p A1 A2 A3 ln hn lo hi) (ht : TreeT w1 p t) (btl : Bt lo) (bth : Bt hi) (n : Nat) (h1 : 1 ≤ n) (h2 : n ≤ 10000001) :
  Calls Tryz.prog 13 #[.func (.func 33) #[] #[.pointer (some ⟨A1, 0, none⟩), .pointer (some ⟨A2, 0, none⟩), .pointer (some ⟨A3, 0, none⟩)], .int .i64 (n : Nat)] w1 fun en w' => GatP w1 ((withinT L lo hi).take n) en w' :=
 gather_range hG (w := w1) ⟨hr.k1, hr.k2, hr.k3, World.grownBy.refl _ _⟩ ht btl bth n h1 h2
theorem backK {t : Option TrT} {L : List PrT} (hG : GwT 400 t L) {p A1 A2 A3 ln hn : Nat} {lo hi : List Int} {w1 : World} (hr : RgK w1 p A1 A2 A3 ln hn lo hi) (ht : TreeT w1 p t) (btl : Bt lo) (bth : Bt hi) (n : Nat) (h1 : 1 ≤ n) (h2 : n ≤ 10000001) :
  Calls Tryz.prog 13 #[.func (.func 35) #[] #[.pointer (some ⟨A1, 0, none⟩), .pointer (some ⟨A2, 0, none⟩), .pointer (some ⟨A3, 0, none⟩)], .int .i64 (n : Nat)] w1 fun en w' => GatP w1 ((withinT L lo hi).reverse.take n) en w' :=
 gather_back hG (w := w1) ⟨hr.k1, hr.k2, hr.k3, World.grownBy.refl _ _⟩ ht btl bth n h1 h2
end Go.Proofs.YtndanifjommpdaaGreat
namespace Go.Proofs.YtndanifjommpdaaGreat
open Go.RowKit Go.Shelf
attribute [local go_sem] Oper.semAt_some
structure GaZ (w : World) (B0 B1 B2 B3 n0 : Nat) (n : Int) (m : Nat) (pre : List PgT) (W : World) : Prop where
 li : W.heap[B0]? = some (.cells #[.int .i64 n] 3 (0, 0))
 ra : W.heap[B1]? = some (.cells #[.slice none 0 0] 26 (0, 0))
 rb : W.heap[B2]? = some (.cells #[.bool false] 4 (0, 0))
 bx : ∃ v es, W.heap[B3]? = some (.cells #[v] 26 (0, 0)) ∧ W.ownsRow m 35 2 v pre.length es.flatten ∧ PoW W m es (pre.map fun x => x.2.2)
 ce : w.grownBy W none
 sz : m ≤ W.heap.size
 nm : n0 ≤ m
theorem GaZ.cef {w : World} {B0 B1 B2 B3 n0 : Nat} {n : Int} {m : Nat} {pre : List PgT} {W W' : World} (h : GaZ w B0 B1 B2 B3 n0 n m pre W) (hc : CeF W W') (hg : w.grownBy W' none) (hs : W.heap.size ≤ W'.heap.size) : GaZ w B0 B1 B2 B3 n0 n m pre W' := by
 obtain ⟨v, es, h1, h2, h3⟩ := h.bx
 exact ⟨hc _ _ _ _ h.li, hc _ _ _ _ h.ra, hc _ _ _ _ h.rb, ⟨v, es, hc _ _ _ _ h1, own_cef h2 hc, h3.same fun b _ ht => tg_same (by decide) hc.frt ht⟩, hg, Nat.le_trans h.sz hs, h.nm⟩
theorem GaZ.fin {w W : World} {B0 B1 B2 B3 n0 m D : Nat} {n : Int} {pre : List PgT} {v : Value} {es : List (List Value)} (h : GaZ w B0 B1 B2 B3 n0 n m pre W) (ho : W.ownsRow m 35 2 v pre.length es.flatten) (hp : PoW W m es (pre.map fun x => x.2.2)) (hB : B0 = w.heap.size ∧ B1 = B0 + 1 ∧ B2 = B1 + 1 ∧ B3 = B2 + 1 ∧ B3 < n0) (hK : W.heap[D]? = some (.deferred (some []))) (hD : w.heap.size ≤ D) :
  ∃ a c, v = .slice a pre.length c ∧ MpW (((W.setCell ⟨B1, 0, none⟩ v).setCell ⟨B2, 0, none⟩ (.bool true)).putObj D (.deferred none)) a pre.length c (pre.map fun x => x.2.2) ∧ w.grownBy (((W.setCell ⟨B1, 0, none⟩ v).setCell ⟨B2, 0, none⟩ (.bool true)).putObj D (.deferred none)) none ∧
   (((W.setCell ⟨B1, 0, none⟩ v).setCell ⟨B2, 0, none⟩ (.bool true)).putObj D (.deferred none)).cell? ⟨B1, 0, none⟩ = some v ∧ (((W.setCell ⟨B1, 0, none⟩ v).setCell ⟨B2, 0, none⟩ (.bool true)).putObj D (.deferred none)).cell? ⟨B2, 0, none⟩ = some (.bool true) ∧ ((W.setCell ⟨B1, 0, none⟩ v).setCell ⟨B2, 0, none⟩ (.bool true)).heap[D]? = some (.deferred (some [])) := by
 have hn := h.nm
 have nd : ∀ b cs t z, W.heap[b]? = some (.cells cs t z) → b ≠ D := fun b cs t z e e2 => by subst e2; rw [hK] at e; cases e
 have s2 : ∀ b, b ≠ B1 → b ≠ B2 → ((W.setCell ⟨B1, 0, none⟩ v).setCell ⟨B2, 0, none⟩ (.bool true)).heap[b]? = W.heap[b]? := fun b h1 h2 => (Below.heap_setCell _ ⟨B2, 0, none⟩ _ b (by exact h2)).trans (Below.heap_setCell _ ⟨B1, 0, none⟩ _ b (by exact h1))
 have s3 : ∀ b cs t z, W.heap[b]? = some (.cells cs t z) → b ≠ B1 → b ≠ B2 → (((W.setCell ⟨B1, 0, none⟩ v).setCell ⟨B2, 0, none⟩ (.bool true)).putObj D (.deferred none)).heap[b]? = W.heap[b]? := fun b cs t z e h1 h2 => (World.putObj_heap_other (nd b cs t z e)).trans (s2 b h1 h2)
 have o2 := own_blk (w' := ((W.setCell ⟨B1, 0, none⟩ v).setCell ⟨B2, 0, none⟩ (.bool true)).putObj D (.deferred none)) ho fun i e ht => by
  obtain ⟨_, _, q⟩ := ht
  have := (own_lt10 ho e).1
  exact s3 i _ _ _ q (by omega) (by omega)
 have p2 : PoW (((W.setCell ⟨B1, 0, none⟩ v).setCell ⟨B2, 0, none⟩ (.bool true)).putObj D (.deferred none)) m es (pre.map fun x => x.2.2) := hp.same fun b h1 ht => by
  obtain ⟨_, _, q⟩ := ht
  exact s3 b _ _ _ q (by omega) (by omega)
 obtain ⟨a, c, e, hm⟩ := MpW.of o2 p2.ps (by simp)
 have dB1 := nd _ _ _ _ h.ra
 have dB2 := nd _ _ _ _ h.rb
 refine ⟨a, c, e, hm, gr_put (gr_set (gr_set h.ce 0 _ (by omega)) 0 _ (by omega)) _ hD, ?_, ?_, ?_⟩
 ·have k1 := heap_setCell_same W B1 0 _ _ v h.ra
  have k2 : (((W.setCell ⟨B1, 0, none⟩ v).setCell ⟨B2, 0, none⟩ (.bool true)).putObj D (.deferred none)).heap[B1]? = some (.cells (#[.slice none 0 0].setIfInBounds 0 v) 26 (0, 0)) := (World.putObj_heap_other dB1).trans ((Below.heap_setCell _ ⟨B2, 0, none⟩ _ B1 (by show B1 ≠ B2; omega)).trans k1)
  exact cell_heap k2 rfl
 ·have k0 : (W.setCell ⟨B1, 0, none⟩ v).heap[B2]? = some (.cells #[.bool false] 4 (0, 0)) := (Below.heap_setCell _ ⟨B1, 0, none⟩ _ B2 (by show B2 ≠ B1; omega)).trans h.rb
  have k1 := heap_setCell_same _ B2 0 _ _ (.bool true) k0
  exact cell_heap ((World.putObj_heap_other dB2).trans k1) rfl
 ·exact (s2 D (fun e => dB1 e.symm) (fun e => dB2 e.symm)).trans hK
end Go.Proofs.YtndanifjommpdaaGreat
namespace Go.Proofs.YtndanifjommpdaaGreat
open Go.RowKit
set_option maxHeartbeats 8000000 in
set_option maxRecDepth 100000 in
theorem refBack11 (a : Option Addr) (n c : Nat) (L : List PrT) (la : Option Addr) (ln lc : Nat) (lo : List Int) (ha : Option Addr) (hn hc : Nat) (hi : List Int) (w : World) (hl : MpW w a n c L) (hlo : Byt w la ln lc lo) (hhi : Byt w ha hn hc hi) (bl : Bt lo) (bh : Bt hi) (bL : ∀ p ∈ L, Bt p.key) (hs : Srt L) (h0 : n ≤ 100000) :
  Calls Tryz.prog 9 #[.slice a n c, .slice la ln lc, .slice ha hn hc] w fun en w' => DoneP w (withinT L lo hi).reverse en w' := by
 obtain ⟨ip, hip, hp0, hp1, hp2⟩ := info_parts info_pair10
 have RC := hid_intro (refRange11 a n c L la ln lc lo ha hn hc hi w hl hlo hhi bl bh bL hs h0)
 have hwl := (within_sub L lo hi).length_le
 have hl1 := hl.1
 clear hl hlo hhi bL hs
 generalize withinT L lo hi = Q at *
 go_enter Tryz.func9, Tryz.ntmps9
 go_wp2_with fail
 refine RC.out.mono ?_
 rintro en w1 ⟨ra, N, rc, rfl, hg1, hm1⟩
 have hQN := hm1.1
 have HM := hid_intro hm1
 have G1 := hid_intro hg1
 have hN : N ≤ 100000 := by omega
 have HQ := hid_intro hQN
 obtain ⟨I0, hI0⟩ : ∃ I0 : Int, (N : Int) - 1 = I0 := ⟨_, rfl⟩
 have w0 : IntKind.i64.wrap ((N : Int) - 1) = I0 := by rw [IntKind.wrap_i64]; omega
 have HI0 := hid_intro hI0
 clear hm1 hg1 RC hwl hl1 hI0 hQN
 go_wp2_with fail
 go_loopw [8, 9] (fun s8 s9 wr => ∃ (k : Nat) (es : List (List Value)), k ≤ N ∧ (∃ I, s9 = .int .i64 I ∧ I = (N : Int) - 1 - (k : Int)) ∧ w1.grownBy wr none ∧ wr.ownsRow w1.heap.size 35 2 s8 k es.flatten ∧ PsW w1 es (Q.reverse.take k)) (fun _ s9 _ => (intOf s9 + 1).toNat)
 case atStart => exact ⟨0, [], Nat.zero_le _, ⟨_, rfl, by have := HI0.out; omega⟩, World.grownBy.refl _ _, ⟨rfl, .inl ⟨rfl, rfl⟩⟩, PsW.nil _⟩
 case round =>
  obtain ⟨k, es, hk, ⟨I, rfl, hI⟩, hg, ho, hps⟩ := hrel
  obtain ⟨ra', rc', hv⟩ := own_shape10 ho
  subst hv
  have HG := hid_intro hg
  have HO := hid_intro ho
  have HPS := hid_intro hps
  have hsz := hg.size
  clear hg ho hps
  by_cases hlt : k < N
  ·obtain ⟨j, hj⟩ : ∃ j, N - 1 - k = j := ⟨_, rfl⟩
   have hIj : I = (j : Int) := by omega
   subst hIj
   obtain ⟨p, hp⟩ : ∃ p, Q[j]? = some p := ⟨_, List.getElem?_eq_getElem (by have := HQ.out; omega)⟩
   obtain ⟨b1, off1, ao1, c1, bo1, d1, rfl, q1, q2, q3, q5⟩ := HM.out.get hp
   have HR := hid_intro (rev_take (ps := Q) (k := k) (j := j) (by have := HQ.out; omega) hp)
   have x1 := HG.out.cell q1 (by simp)
   have x2 := HG.out.cell q2 (by simp)
   have HBP : Hid (BpW w1 [.slice ao1 p.key.length c1, .slice bo1 p.val.length d1] p) := ⟨_, _, _, _, rfl, q3, q5⟩
   have i0 : (0 : Int) ≤ (j : Int) := by omega
   have i1 : (j : Int) < (N : Int) := by omega
   have i2 : (j : Int) ≥ 0 := i0
   obtain ⟨J1, hJ1⟩ : ∃ J1 : Int, (j : Int) - 1 = J1 := ⟨_, rfl⟩
   have v1 : IntKind.i64.wrap ((j : Int) - 1) = J1 := by rw [IntKind.wrap_i64]; omega
   have HJ1 := hid_intro hJ1
   have HJJ := hid_intro hj
   obtain ⟨n1, hn1⟩ : ∃ n1, p.key.length = n1 := ⟨_, rfl⟩
   obtain ⟨m1, hm1⟩ : ∃ m1, p.val.length = m1 := ⟨_, rfl⟩
   rw [hn1] at x1 HBP
   rw [hm1] at x2 HBP
   clear q1 q2 q3 q5 hp hn1 hm1 hJ1 hj hI
   go_wp2_with (at_builtin; refine append_at10 rfl _ _ 26 rfl w1.heap.size 35 ip (.agg #[.slice none 0 0, .slice none 0 0]) 2 48 Tryz.underlying26 hip hp0 hp1 hp2 rfl (by decide) (.slice ra' k rc') k es.flatten rfl (HO.out.alloc _) ⟨wr.heap.size, 0, none⟩ 1 1 [.slice ao1 n1 c1, .slice bo1 m1 d1] rfl rfl ?c1 ?c2 ?c3 ?c4 ?c5 ?_)
   case c1 =>
    intro j u hu
    rw [Addr.add_lit, cell_of_row _ wr.heap.size _ _ _ (0, 0) (heap_alloc_new wr _), Nat.zero_add]
    simpa using hu
   case c2 => simp [Value.oneCell']
   case c3 => unfold maxLen; omega
   case c4 => omega
   case c5 => first | omega | (simp; omega)
   intro v9 w9 ho9 hg9 _
   have O9 := hid_intro ho9
   have G9 : Hid (w1.grownBy w9 none) := gr_turn (grown_al HG.out _) hg9 (fun r e => (own_lt10 HO.out e).1)
   clear ho9 hg9
   go_wp2_with fail
   go_roundw
   case rel => exact ⟨k + 1, es ++ [[.slice ao1 n1 c1, .slice bo1 m1 d1]], by omega, ⟨_, rfl, by have := HJ1.out; have := HJJ.out; omega⟩, G9.out, by simpa using O9.out, by rw [HR.out]; exact HPS.out.app (PsW.one HBP.out)⟩
   case measure => have := HJ1.out; simp [intOf]; omega
  ·have hin : k = N := by omega
   have hIn : I = -1 := by omega
   subst hIn
   have hta : Q.reverse.take k = Q.reverse := List.take_of_length_le (by rw [List.length_reverse]; have := HQ.out; omega)
   rw [hta] at HPS
   have M9 := hid_intro (MpW.of HO.out (HPS.out.cef (CeF.of HG.out)) (by rw [List.length_reverse]; have := HQ.out; omega))
   clear hI hin hta HO HPS
   go_wp2
   go_ret
   obtain ⟨a9, c9, e9, m9⟩ := M9.out
   exact ⟨a9, _, c9, by rw [← e9]; rfl, grown_trans G1.out HG.out, m9⟩
end Go.Proofs.YtndanifjommpdaaGreat
