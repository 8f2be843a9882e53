import Derived.Test.YtepcgckapoljpaaGreatQ44
import Derived.Deep.CutBlock
import Derived.Test.YtepcgckapoljpaaGreatQ45
import Derived.WalkKit
import Derived.ProofKit
import Derived.OpenShut
import Derived.ShutString
import Derived.ChangeOld
import Derived.Below
import Derived.SizedLaws
import Derived.Deep.Slices
import Derived.Test.YtepcgckapoljpaaGreatRows
namespace Go.Proofs.YtepcgckapoljpaaGreat
open Go.RowKit
structure TmI (w wr : World) (Q q k : Nat) (t : Option TrT) : Prop where
 tr : TreeT wr q t
 sd : SdT t
 bk : BkW wr Q ((flatO t).map strP)
 le : (flatO t).length ≤ k
 gr : w.grownBy wr none
set_option maxHeartbeats 32000000 in
set_option maxRecDepth 100000 in
theorem treeMap_walk (a : Option Addr) (n c : Nat) (C : List AcT) (w : World) (hC : AcW w a C) (hn : C.length = n) :
  Calls Tryz.prog 3 #[.slice a n c] w fun en w' => en = .returned (.bool true) ∧ w.grownBy w' none := by
 have HC := hid_intro hC
 have HCN := hid_intro hn
 clear hC hn
 go_enter Tryz.func3, Tryz.ntmps3
 go_wp2_with fail
 refine (first10 w).mono ?_
 rintro en w1 ⟨rfl, hg1⟩
 have G1 := hid_intro hg1
 clear hg1
 go_wp2_with fail
 refine (empty10 w1).mono ?_
 rintro en w2 ⟨p0, rfl, ht2, hg2⟩
 have T2 := hid_intro ht2
 have G2 := hid_intro (grown_trans G1.out hg2)
 clear ht2 hg2
 have ga := World.grownBy_alloc w2 (.cells #[.slice none 0 0] 29) none
 have B3 : Hid (BkW (w2.alloc (.cells #[.slice none 0 0] 29)) w2.heap.size []) := ⟨none, 0, 0, heap_at0 w2 _ _, MpW.nil _⟩
 have T3 := hid_intro (T2.out.kept (FrT.of ga))
 have G3 := hid_intro (grown_trans G2.out ga)
 have hQw : w.heap.size ≤ w2.heap.size := G2.out.size
 clear ga
 go_upto_block 0 with fail
 generalize w2.alloc (.cells #[.slice none 0 0] 29) = w3 at *
 obtain ⟨Q, hQ⟩ : ∃ Q, w2.heap.size = Q := ⟨_, rfl⟩
 rw [hQ] at B3 hQw ⊢
 clear hQ
 go_wp2_with fail
 go_loopw [4, 6, 7, 8, 9, 10, 11, 12, 13, 14] (fun s4 s6 _ _ _ _ _ _ _ _ wr => ∃ (k q : Nat) (t : Option TrT), k ≤ n ∧ k ≤ 2000 ∧ s4 = .pointer (some ⟨q, 0, none⟩) ∧ s6 = .int .i64 (k : Nat) ∧ TmI w wr Q q k t) (fun _ s6 _ _ _ _ _ _ _ _ _ => n - (intOf s6).toNat)
 case atStart => exact ⟨0, p0, none, Nat.zero_le _, Nat.zero_le _, rfl, rfl, T3.out, SdT.start, B3.out, Nat.le_refl _, G3.out⟩
 case round =>
  obtain ⟨k, q, t, hkn, hk2, rfl, rfl, hI⟩ := hrel
  have HI := hid_intro hI
  clear hI
  by_cases hlt : k < n ∧ k < 2000
  ·obtain ⟨l1, l2⟩ := hlt
   have i0 : (0 : Int) ≤ (k : Int) := by omega
   have i1 : (k : Int) < (n : Int) := by omega
   have i2 : (k : Int) < 2000 := by omega
   obtain ⟨x, hx⟩ : ∃ x, C[k]? = some x := ⟨_, List.getElem?_eq_getElem (by have := HCN.out; omega)⟩
   obtain ⟨b, off, ka, kc, va, vc, e⟩ := HC.out k x hx
   have ea := e.a
   subst ea
   have c0 := keep1 e.c0 HI.out.gr
   have c1 := keep1 e.c1 HI.out.gr
   have c2 := keep1 e.c2 HI.out.gr
   have c3 := keep1 e.c3 HI.out.gr
   have c4 := keep1 e.c4 HI.out.gr
   have KW := hid_intro e.k
   have VW := hid_intro e.v
   have KB := hid_intro (e.k.keptN HI.out.gr)
   have VB := hid_intro (e.v.keptN HI.out.gr)
   have BK := hid_intro e.bk
   have BV := hid_intro e.bv
   obtain ⟨ky, vl, gone, mark, no⟩ := x
   simp only at c0 c1 c2 c3 c4 KB VB BK BV KW VW
   obtain ⟨kn, hkl⟩ : ∃ kn, ky.length = kn := ⟨_, rfl⟩
   obtain ⟨vn, hvl⟩ : ∃ vn, vl.length = vn := ⟨_, rfl⟩
   rw [hkl] at c0 KB KW
   rw [hvl] at c1 VB
   clear e hx hkl hvl
   have ga := World.grownBy_alloc wr (.cells #[.slice ka kn kc, .slice va vn vc, .bool gone, .bool mark, .int .i64 no] 32) none
   have X1 := hid_intro (heap_at0 wr #[.slice ka kn kc, .slice va vn vc, .bool gone, .bool mark, .int .i64 no] 32)
   have GA := hid_intro ga
   have K1 := hid_intro (KB.out.keptN ga)
   have V1 := hid_intro (VB.out.keptN ga)
   have SD := hid_intro (st_sd (key := ky) (val := vl) (gone := gone) HI.out.sd BK.out BV.out)
   have hlen : (flatO (stO t ky vl gone)).length ≤ k + 1 := by
    have h1 := congrArg List.length SD.out.2
    have h2 := dos_len (L := (flatO t).map strP) (key := ky) (val := vl) (gone := gone)
    rw [List.length_map] at h1 h2
    have h3 := HI.out.le
    split at h2 <;> omega
   have HLEN := hid_intro hlen
   have AC := hid_intro (act_any t q ka kn kc ky va vn vc vl gone mark no _ (HI.out.tr.kept (FrT.of ga)) HI.out.sd K1.out V1.out BK.out BV.out (by omega))
   clear ga hlen
   go_upto_region 10 with fail
   generalize wr.alloc (.cells #[.slice ka kn kc, .slice va vn vc, .bool gone, .bool mark, .int .i64 no] 32) = w4 at *
   obtain ⟨X, hX⟩ : ∃ X, wr.heap.size = X := ⟨_, rfl⟩
   rw [hX] at X1 ⊢
   have x0 := cell_heap (i := 0) X1.out rfl
   have x1 := cell_heap (i := 1) X1.out rfl
   have x2 := cell_heap (i := 2) X1.out rfl
   have x3 := cell_heap (i := 3) X1.out rfl
   have x4 := cell_heap (i := 4) X1.out rfl
   have HXX := hid_intro hX
   clear hX c0 c1 c2 c3 c4
   go_wp2_with fail
   refine AC.out.mono ?_
   rintro en w5 ⟨q5, u, rfl, ht5, ha5, hg5⟩
   obtain ⟨su, fu⟩ := act_sd HI.out.sd BK.out BV.out ha5
   have T5 := hid_intro ht5
   have SU := hid_intro su
   have FU := hid_intro fu
   have G5 := hid_intro (grown_trans GA.out hg5)
   have y0 := keep1 x0 hg5
   have y1 := keep1 x1 hg5
   have y2 := keep1 x2 hg5
   have y3 := keep1 x3 hg5
   have y4 := keep1 x4 hg5
   have X5 := hid_intro (heap_kept X1.out hg5)
   have DC := hid_intro (does_any Q ((flatO t).map strP) ka kn kc ky va vn vc vl gone mark no w5 (bk_kept HI.out.bk G5.out) (K1.out.keptN hg5) (V1.out.keptN hg5) BK.out (fun p hp => (sd_vp HI.out.sd p hp).kb) (sd_srt HI.out.sd) (by rw [List.length_map]; have := HI.out.le; omega))
   rw [← fu] at DC
   have K5 := hid_intro (K1.out.keptN hg5)
   clear ht5 ha5 hg5 su fu AC x0 x1 x2 x3 x4
   go_wp2_with fail
   refine DC.out.mono ?_
   rintro en w6 ⟨rfl, hb6, hg6⟩
   obtain ⟨ba5, bn5, bc5, hq5, _⟩ := bk_kept HI.out.bk G5.out
   have hQl : Q < wr.heap.size := by
    obtain ⟨_, _, _, h, _⟩ := HI.out.bk
    exact (Array.getElem?_eq_some_iff.1 h).1
   have hQX : X ≠ Q := by have := HXX.out; omega
   have F6 : FrT w5 w6 := FrT.row hg6 (fun g e => ⟨29, by cases e; exact ⟨_, _, hq5⟩, by decide⟩)
   have T6 := hid_intro (T5.out.kept F6)
   have G6 := hid_intro (grown_new (grown_trans HI.out.gr G5.out) hg6 hQw)
   have K6 := hid_intro (KW.out.keptN G6.out)
   have X6 := hid_intro (show w6.heap[X]? = some (.cells #[.slice ka kn kc, .slice va vn vc, .bool gone, .bool mark, .int .i64 no] 32 (0, 0)) by rw [hg6.block X (Array.getElem?_eq_some_iff.1 X5.out).1 (by simp [hQX])]; exact X5.out)
   obtain ⟨ba, bn, bc, hq6, hm6⟩ := hb6
   have hbn : bn = (flatO u).length := by have := hm6.1; rw [List.length_map] at this; exact this.symm
   obtain ⟨M, hM⟩ : ∃ M, (flatO u).length = M := ⟨_, rfl⟩
   rw [hM] at hbn
   subst hbn
   have hML : bn ≤ k + 1 := by
    have h1 := congrArg List.length FU.out
    have h2 := dos_len (L := (flatO t).map strP) (key := ky) (val := vl) (gone := gone)
    rw [List.length_map] at h1 h2
    have h3 := HI.out.le
    split at h2 <;> omega
   have LC := hid_intro (fun (W : World) (h : w6.grownBy W none) => len_any u q5 W (T6.out.kept (FrT.of h)) SU.out.ok (by omega))
   rw [hM] at LC
   have GC := hid_intro (fun (W : World) (h : w6.grownBy W none) => tget_any u q5 ka kn kc ky W (T6.out.kept (FrT.of h)) SU.out.ok (K6.out.keptN h) BK.out)
   rw [get_want SU.out ky] at GC
   have HM := hid_intro hM
   have Q6 := hid_intro hq6
   have M6 := hid_intro hm6
   have bq := cell_heap (i := 0) hq6 rfl
   have hb0 : ((bn : Int) != (bn : Int)) = false := by simp
   obtain ⟨L, hL⟩ : ∃ L, (flatO u).map strP = L := ⟨_, rfl⟩
   rw [hL] at GC M6
   have HLL := hid_intro hL
   clear hg6 hq5 hq6 hm6 hM hL F6 DC y0 y1 y2 y3 y4
   go_upto_region 12 with fail
   go_region_held3 (fun w' => w'.cell? ⟨Q, 0, none⟩ = some (.slice ba bn bc)) (first | exact bq | exact T7 | go_keep) (first
    | (go_at_call 10; refine (LC.out _ ((Qt.refl _).drew.grown none)).mono ?_; rintro en w7 ⟨rfl, hg7⟩; have G7 := hid_intro (show w6.grownBy w7 none from grown_trans ((Qt.refl _).drew.grown none) hg7); clear hg7; have T7 := keep1 bq G7.out)
    | fail)
   have z0 := cell_heap (i := 0) (heap_kept X6.out G7.out) rfl
   go_wp2_with fail
   refine (GC.out _ G7.out).mono ?_
   rintro en w8 ⟨⟨ao, nn, cc, rfl, hb8⟩, hg8⟩
   have G8 := hid_intro (grown_trans G7.out hg8)
   have V8 := hid_intro hb8.b
   have x8 := cell_heap (i := 0) (heap_kept X6.out G8.out) rfl
   have q8 := cell_heap (i := 0) (heap_kept Q6.out G8.out) rfl
   have M8 := hid_intro (M6.out.cef (CeF.of G8.out))
   have K8 := hid_intro (K6.out.keptN G8.out)
   clear hb8 hg8 T7 bq z0
   go_wp2_with fail
   go_loopw [10, 11, 12, 13] (fun s10 s11 s12 _ wj => ∃ (j : Nat) (wa : Option Addr) (wn wc : Nat), j ≤ bn ∧ s12 = .int .i64 (j : Nat) ∧ s10 = .bool (wantF (L.take j) ky).isSome ∧ s11 = .slice wa wn wc ∧ Byt w8 wa wn wc ((wantF (L.take j) ky).getD []) ∧ Qt w8 wj) (fun _ _ s12 _ _ => bn - (intOf s12).toNat)
   case atStart => exact ⟨0, none, 0, 0, Nat.zero_le _, rfl, rfl, rfl, Byt.empty _, Qt.refl _⟩
   case round =>
    obtain ⟨j, wa, wn, wc, hj, rfl, rfl, rfl, hbw, hqt⟩ := hrel
    have HW := hid_intro hbw
    have HQT := hid_intro hqt
    have e8 := (hqt.cell _).trans x8
    have eq := (hqt.cell _).trans q8
    by_cases hjl : j < bn
    ·have j0 : (0 : Int) ≤ (j : Int) := by omega
     have j1 : (j : Int) < (bn : Int) := by omega
     obtain ⟨p, hp⟩ : ∃ p, L[j]? = some p := ⟨_, List.getElem?_eq_getElem (by have := M8.out.1; omega)⟩
     obtain ⟨pb, poff, pa, pc, qa, qc, rfl, d0, d1, b0, b1⟩ := M8.out.get hp
     have y0 := (hqt.cell _).trans d0
     have y1 := (hqt.cell _).trans d1
     have SC := hid_intro (fun (W : World) (hW : W.heap = wr.heap) => sameW pa ka p.key.length kn pc kc p.key ky W (b0.heap (hW.trans hqt.heap)) (K8.out.heap (hW.trans hqt.heap)) (by have := sd_vp SU.out p (by rw [HLL.out]; exact List.mem_of_getElem? hp); exact this.kb) BK.out)
     have WS := hid_intro (want_snoc (L.take j) p ky)
     rw [← takeS hp] at WS
     have PV := hid_intro b1
     obtain ⟨pl, hpl⟩ : ∃ pl, p.key.length = pl := ⟨_, rfl⟩
     obtain ⟨ql, hql⟩ : ∃ ql, p.val.length = ql := ⟨_, rfl⟩
     rw [hpl] at y0 SC
     rw [hql] at y1 PV
     clear hp d0 d1 b0 b1 hqt hbw hpl hql
     obtain ⟨bb, hbb⟩ : ∃ bb, (wantF (L.take j) ky).isSome = bb := ⟨_, rfl⟩
     rw [hbb]
     have HBB := hid_intro hbb
     clear hbb
     by_cases hc : p.key = ky
     ·rw [decide_eq_true hc] at SC
      rw [if_pos hc] at WS
      go_wp2
      go_quiet ((go_at_call 12; exact Calls.quiet_of_same (SC.out _ rfl)))
      generalize hwd : wr.drewN _ = w9 at *
      have q9 : Qt wr w9 := by rw [← hwd]; exact Qt.drewN _ _
      have eq9 := (q9.cell _).trans eq
      have y9 := (q9.cell _).trans y1
      have Q9 := hid_intro (HQT.out.trans q9)
      clear hwd q9 eq e8 y0 y1
      go_wp2_with fail
      go_roundw
      case rel => exact ⟨j + 1, qa, ql, qc, by omega, by go_num, by rw [WS.out]; rfl, rfl, by rw [WS.out]; exact PV.out, Q9.out⟩
      case measure => simp [intOf]; omega
     ·rw [decide_eq_false hc] at SC
      rw [if_neg hc] at WS
      go_wp2
      go_quiet ((go_at_call 12; exact Calls.quiet_of_same (SC.out _ rfl)))
      generalize hwd : wr.drewN _ = w9 at *
      have q9 : Qt wr w9 := by rw [← hwd]; exact Qt.drewN _ _
      have Q9 := hid_intro (HQT.out.trans q9)
      clear hwd q9 eq e8 y0 y1
      go_wp2_with fail
      go_roundw
      case rel => exact ⟨j + 1, wa, wn, wc, by omega, by go_num, by rw [WS.out, HBB.out], rfl, by rw [WS.out]; exact HW.out, Q9.out⟩
      case measure => simp [intOf]; omega
    ·have hjb : j = bn := by omega
     subst hjb
     have j1 : ¬ (j : Int) < (j : Int) := by omega
     have ht : L.take j = L := List.take_of_length_le (by have := M8.out.1; omega)
     rw [ht] at HW ⊢
     have SC := hid_intro (same_yes ao wa nn wn cc wc _ _ wr (V8.out.heap hqt.heap) (HW.out.heap hqt.heap) rfl)
     obtain ⟨bb, hbb⟩ : ∃ bb, (wantF L ky).isSome = bb := ⟨_, rfl⟩
     rw [hbb]
     clear hqt hbw ht hbb
     go_wp2_with fail
     refine SC.out.mono ?_
     rintro en wz ⟨rfl, hwz⟩
     rw [hwz]
     clear hwz SC
     have TT : Hid (TmI w wr Q q5 (k + 1) u) := by
      have g9 := grown_trans G8.out (HQT.out.grown none)
      refine ⟨T6.out.kept (FrT.of g9), SU.out, ?_, by have := HM.out; omega, grown_trans G6.out g9⟩
      rw [HLL.out]
      exact bk_kept (w := w6) ⟨ba, j, bc, Q6.out, M6.out⟩ g9
     cases bb with
     | true =>
      go_wp2_with fail
      go_roundw
      case rel => exact ⟨k + 1, q5, u, by omega, by omega, rfl, by go_num, TT.out⟩
      case measure => simp [intOf]; omega
     | false =>
      go_wp2_with fail
      go_roundw
      case rel => exact ⟨k + 1, q5, u, by omega, by omega, rfl, by go_num, TT.out⟩
      case measure => simp [intOf]; omega
  ·have hf2 : (flatO t).length ≤ 2000 := by have := HI.out.le; omega
   have hlow := low_tree HI.out.sd.ok HI.out.sd.nj HI.out.sd.rk hf2
   have hsz := size_tree HI.out.sd.ok HI.out.sd.nj HI.out.sd.rk hf2
   have htl : (tellO t).length = sizeO t := by
    match t with
    | none => rfl
    | some ⟨lv, x⟩ => exact tell_len lv 0 x
   have hhi : highO t ≤ 1000000 := by
    match t, hlow with
    | none, _ => exact Nat.zero_le _
    | some ⟨lv, x⟩, h =>
     have h' : lv ≤ 6 := h
     show lv + 1 ≤ 1000000
     omega
   have NC := hid_intro (nodes_any t q wr HI.out.tr HI.out.sd.ok HI.out.sd.chk (by omega) hhi)
   have hps := tellO_ps t
   obtain ⟨N, hN⟩ : ∃ N, (tellO t).length = N := ⟨_, rfl⟩
   rw [hN] at NC
   have HN := hid_intro hN
   have HPS := hid_intro hps
   have hNb : N ≤ 14000 := by omega
   have HF2 := hid_intro hf2
   clear hlow hsz htl hhi hps hN hf2
   by_cases hkn2 : k < n
   ·have i1 : (k : Int) < (n : Int) := by omega
    have i2 : ¬ (k : Int) < 2000 := by omega
    go_wp2_with fail
    refine NC.out.mono ?_
    rintro en w5 ⟨v5, es5, rfl, ho5, ht5, hg5⟩
    obtain ⟨va5, vc5, rfl⟩ := own_shape10 ho5
    have RC := hid_intro (row10_any va5 N vc5 _ es5 (tellO t) _ _ w5 ho5 ht5 HN.out (by omega) (by rw [HPS.out]; have := HF2.out; omega))
    rw [HPS.out] at RC
    have G5 := hid_intro hg5
    clear ho5 ht5 hg5
    go_wp2_with fail
    refine RC.out.mono ?_
    rintro en w6 ⟨pa, pn, pc, rfl, hm6, hg6⟩
    obtain ⟨ba, bn, bc, hq6, hb6⟩ := bk_kept HI.out.bk (grown_trans G5.out hg6)
    have bq := cell_heap (i := 0) hq6 rfl
    have e1 : pn = bn := by
     have h1 := hm6.1
     have h2 := hb6.1
     rw [List.length_map] at h2
     omega
    have hpn : pn ≤ 2000 := by have := hm6.1; have := HF2.out; omega
    have SC := hid_intro (samePairs11 pa ba pn pc bc _ w6 (mp_str hm6) (by rw [e1]; exact hb6) (by omega))
    subst e1
    have G6 := hid_intro (grown_trans HI.out.gr (grown_trans G5.out hg6))
    clear hm6 hg6 hq6 hb6 RC
    go_wp2_with fail
    refine SC.out.mono ?_
    rintro en w7 ⟨rfl, hg7⟩
    have G7 := hid_intro (grown_trans G6.out hg7)
    clear hg7 SC
    go_wp2
    go_ret
    exact ⟨rfl, G7.out⟩
   ·have i1 : ¬ (k : Int) < (n : Int) := by omega
    go_wp2_with fail
    refine NC.out.mono ?_
    rintro en w5 ⟨v5, es5, rfl, ho5, ht5, hg5⟩
    obtain ⟨va5, vc5, rfl⟩ := own_shape10 ho5
    have RC := hid_intro (row10_any va5 N vc5 _ es5 (tellO t) _ _ w5 ho5 ht5 HN.out (by omega) (by rw [HPS.out]; have := HF2.out; omega))
    rw [HPS.out] at RC
    have G5 := hid_intro hg5
    clear ho5 ht5 hg5
    go_wp2_with fail
    refine RC.out.mono ?_
    rintro en w6 ⟨pa, pn, pc, rfl, hm6, hg6⟩
    obtain ⟨ba, bn, bc, hq6, hb6⟩ := bk_kept HI.out.bk (grown_trans G5.out hg6)
    have bq := cell_heap (i := 0) hq6 rfl
    have e1 : pn = bn := by
     have h1 := hm6.1
     have h2 := hb6.1
     rw [List.length_map] at h2
     omega
    have hpn : pn ≤ 2000 := by have := hm6.1; have := HF2.out; omega
    have SC := hid_intro (samePairs11 pa ba pn pc bc _ w6 (mp_str hm6) (by rw [e1]; exact hb6) (by omega))
    subst e1
    have G6 := hid_intro (grown_trans HI.out.gr (grown_trans G5.out hg6))
    clear hm6 hg6 hq6 hb6 RC
    go_wp2_with fail
    refine SC.out.mono ?_
    rintro en w7 ⟨rfl, hg7⟩
    have G7 := hid_intro (grown_trans G6.out hg7)
    clear hg7 SC
    go_wp2
    go_ret
    exact ⟨rfl, G7.out⟩
end Go.Proofs.YtepcgckapoljpaaGreat
namespace Go.Proofs.YtepcgckapoljpaaGreat.treeMap
open Go.ChangeShapes Go.WideShapes Go.ChangeAt Go.WideMaps Go.WideElems Go.RowKit Go.Deep
open Go.ChangeMaps (open_string shut_string)
theorem own : ownKnob Tryz.prog.godebug = none := by kernel_rfl
theorem laidOut : laidOutB Tryz.prog = true := by kernel_rfl
theorem bytes_u8 : Tryz.prog.bytesOf 5 = 1 := by kernel_rfl
theorem bytes_i64 : Tryz.prog.bytesOf 3 = 8 := by kernel_rfl
set_option linter.unusedVariables false
set_option maxRecDepth 100000 in
theorem lifted (os : Os) (started : os.Started) (H : Type) (enc : TypeId × Value → H) :
  ReturnsInHanded {} Tryz.checked os 3 .any (Rows.treeMapSpec.pre6 enc Tryz.prog Tryz.f3 Rows.treeMapRow.domain false) (Rows.treeMapSpec.post enc Tryz.prog Tryz.f3 false true false false) := by
 refine returnsInHanded_of_change_sized (C := Tryz.checked) own started (by kernel_rfl) Tryz.func3
  (ChangeSpec.witness6 (enc := enc) (C := Tryz.checked) false ⟨#[], #[.slice none 0 0], []⟩ 8 (by kernel_rfl) (by kernel_rfl) (by kernel_rfl) (by kernel_rfl)) ?_
 intro W base args ds gs before hval0 hW hcnd hsz0 _
 have hval : ∀ (j : Nat) t v, Tryz.f3.params[j]? = some t → args[j]? = some v → Value.okWide Tryz.prog W .any base t v := hval0
 have hsz : (DataW.weightsEach Tryz.prog (Tryz.f3.params.toList ++ Rows.treeMapSpec.plain.varTypes Tryz.prog) (ds ++ gs)).all (· ≤ reachBytes) = true := hsz0
 clear hsz0
 have hW' := hW
 obtain ⟨p, q, hA0, hV, rfl, hfz, hnd⟩ := hW
 have hA : DataW.TrodAll enc Tryz.prog W 0 (fun _ => true) true Tryz.f3.params.toList args.toList ds p := hA0
 rw [Tryz.params3] at hA hval hsz
 obtain ⟨v0, vs0, d0, ds0, p0, q0, hargs, rfl, rfl, h0, r0⟩ := trodAll_cons hA
 obtain ⟨rfl, rfl, rfl⟩ := trodAll_nil r0
 obtain rfl : args = #[v0] := by cases args; simp_all
 obtain ⟨rfl, rfl⟩ := trodVars_none hV
 obtain ⟨a0, len0, cap0, rfl⟩ := okWide_slice Tryz.underlying22 (hval 0 22 v0 rfl rfl)
 have k0 := h0
 have lt0 : ∀ x ∈ p0, x.block < W.heap.size := by obtain ⟨m, hm⟩ := k0; exact DataW.trod_lt m _ _ _ hm
 obtain ⟨z0, b0, e0, l0, c0⟩ : ∃ L, AcW W a0 L ∧ L.length = len0 ∧ len0 ≤ cap0 ∧ cap0 ≤ 9223372036854775807 := by
  obtain ⟨fuel, hf⟩ := h0
  exact acts_open (by simpa [Value.cells] using hf)
 clear hA0 hval0
 refine (treeMap_walk a0 len0 cap0 z0 W b0 e0).mono fun e W' ⟨he, hg⟩ => ?_
 subst he
 have bel := below_ofW hg
 exact ⟨_, rfl, _, _, _, [], _, [], hW', trodAll_mk1 (shut_bool Tryz.underlying4 _), (trodAll_cons_mk (Below.trod laidOut (by kernel_rfl) (of_decide_eq_true (by kernel_rfl)) k0 bel lt0) trodAll_mk0), rfl, bel.frame _, fun h => by cases h⟩
theorem over : Rows.treeMapRow.holds Tryz.pinned (OpenSpec.ofChange Rows.treeMapSpec) :=
 OpenClaim.holds_of_wide 3 Tryz.f3 rfl rfl rfl rfl rfl rfl rfl ⟨rfl, rfl, rfl, rfl, rfl⟩ rfl rfl rfl rfl rfl (by kernel_rfl) Tryz.func3 (by kernel_rfl)
  (of_decide_eq_true (by kernel_rfl)) (by unfold Func.isWrapper; first | (rw [if_pos (by decide +kernel)]; kernel_rfl) | (rw [if_neg (by decide +kernel)]; exact ⟨rfl, rfl⟩))
  (fun os started H enc _ => lifted os started H enc)
end Go.Proofs.YtepcgckapoljpaaGreat.treeMap
namespace Go.Proofs.YtepcgckapoljpaaGreat
theorem treeMap_holds : Rows.TreeMapSaid := treeMap.over
#print axioms treeMap_holds
end Go.Proofs.YtepcgckapoljpaaGreat
