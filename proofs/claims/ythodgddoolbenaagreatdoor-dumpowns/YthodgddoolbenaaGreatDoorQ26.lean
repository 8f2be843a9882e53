import Derived.Test.YthodgddoolbenaaGreatDoorQ8
import Derived.Test.YthodgddoolbenaaGreatDoorQ25
namespace Go.Proofs.YthodgddoolbenaaGreatDoor
open Go.RowKit
set_option maxHeartbeats 1000000 in
set_option maxRecDepth 100000 in
theorem show_pairs (B : Nat) (ps : Int) (hp : 0 ≤ ps ∧ ps ≤ 1) (id : Nat) (idI : Int) (F : Int → Nat → Nat → Value) (S : Nat → Prop) (s : Lst) (v : Value) (w : World) (h : w.cell? ⟨B, 1, none⟩ = some (.int .i64 ps)) (hi : id ≤ 1099511627776) (hs : s.Ok 2) (hsh : s.Shows w (F ps id)) (hm : ∀ x, x < s.N → Lm2 w S ps id x (F ps id x)) (ht : Tz w) (e1 : idI = (id : Int)) (e2 : v = s.v) :
  Calls Tryz.prog 136 #[.pointer (some ⟨B, 0, none⟩), v, .int .i64 idI] w fun en w' => en = .returned (.bool true) ∧ w.grownBy w' none := by
 subst e1 e2
 obtain ⟨ao, hv, hao⟩ := hs.val
 have HC := hid_intro h
 have HS := hid_intro hsh
 have HOK := hid_intro hs
 have HM := hid_intro hm
 have HT := hid_intro ht
 have h1 := hs.le
 have h2 := hs.max
 have HAO := hid_intro hao
 clear h hsh hao hs hm ht
 rw [hv]
 clear hv
 go_enter Tryz.func136, Tryz.ntmps136
 go_wp2
 go_loopw [7] (fun sj wr => ∃ j : Nat, j ≤ s.n ∧ sj = .int .i64 j ∧ w.grownBy wr none) (fun sj _ => s.n - (intOf sj).toNat)
 case atStart => exact ⟨0, Nat.zero_le _, rfl, (Qt.refl _).grown none⟩
 case round =>
  obtain ⟨j, hj, rfl, hg⟩ := hrel
  have HG := hid_intro hg
  clear hg
  by_cases hlt : j < s.n
  ·obtain rfl := HAO.out (by omega)
   have hN0 : j * 2 < s.N := by have := HOK.out.cell hlt (show 0 < 2 by decide); omega
   have hN1 : j * 2 + 1 < s.N := HOK.out.cell hlt (show 1 < 2 by decide)
   obtain ⟨b, n, c, ev, _, _, hby⟩ := (HM.out (j * 2) hN0).key
   have ev1 := (HM.out (j * 2 + 1) hN1).val
   have hc0 := HS.out (j * 2) hN0
   have hc1 := HS.out (j * 2 + 1) hN1
   rw [ev] at hc0
   rw [ev1, ← Nat.add_assoc] at hc1
   have HB := hid_intro hby
   clear hby ev ev1 hN0 hN1
   go_wp2_with fail
   refine (mark_pairs B ps id j _ _ _ (HG.out.cell HC.out (by simp)) hp hi (by omega) rfl rfl (HT.out.keptN HG.out)).mono ?_
   rintro en w1 ⟨⟨b1, n1, c1, rfl, _, _, hb1⟩, hg1⟩
   have ga := World.grownBy_alloc w1 (.cells #[.slice (some ⟨b1, 0, none⟩) n1 c1, .slice none 0 0] 54) none
   have HG1 := hid_intro (grown_trans (grown_trans HG.out hg1) ga)
   have HY := hid_intro (Vp2.new w1 (.slice (some ⟨b1, 0, none⟩) n1 c1) (.slice none 0 0))
   have HB1 := hid_intro (hb1.keptN ga)
   have hn1 := hb1.len
   have hn := HB.out.len
   obtain rfl : n1 = n := by omega
   clear hg1 HG ga hb1 hn1 hn
   go_upto_region 5 with fail
   generalize w1.alloc (.cells #[.slice (some ⟨b1, 0, none⟩) n1 c1, .slice none 0 0] 54) = w2 at *
   generalize w1.heap.size = U at *
   obtain ⟨y0, y1⟩ := HY.out.cells
   have c0 : w2.cell? ⟨s.g, s.o + j * 2, none⟩ = some (.slice (some ⟨b, 0, none⟩) n1 c) := HG1.out.cell hc0 (by simp)
   have c1' : w2.cell? ⟨s.g, s.o + j * 2 + 1, none⟩ = some (.slice none 0 0) := HG1.out.cell hc1 (by simp)
   have HSP := hid_intro (samePair20 (some ⟨b, 0, none⟩) none (some ⟨b1, 0, none⟩) none n1 0 n1 0 c 0 c1 0 (lmark ps id j) [] (lmark ps id j) [] w2.drew ((HB.out.keptN HG1.out).keptN ((Qt.refl _).drew.grown none)) (Byt.empty _) (HB1.out.keptN ((Qt.refl _).drew.grown none)) (Byt.empty _) (lmark_bt _ _ _) Bt.nil (lmark_bt _ _ _) Bt.nil)
   have g0 : (0 : Int) ≤ (j : Int) := by omega
   have g1 : (j : Int) < (s.n : Int) := by omega
   clear hc0 hc1
   go_region_with (go_at_call 22; refine HSP.out.mono ?_; rintro en w3 ⟨rfl, hg3⟩)
   all_goals
    have HG3 := hid_intro (grown_trans HG1.out (grown_trans ((Qt.refl _).drew.grown none) hg3))
    clear hg3 HG1 HSP
    go_wp2
    go_roundw
    case rel => exact ⟨j + 1, by omega, by go_num, HG3.out⟩
    case measure => simp [intOf]; omega
  ·have hjn : j = s.n := by omega
   subst hjn
   go_wp2
   go_ret
   exact ⟨rfl, HG.out⟩
set_option maxHeartbeats 2000000 in
set_option maxRecDepth 100000 in
theorem hold_pairs (B : Nat) (ps : Int) (hp : 0 ≤ ps ∧ ps ≤ 1) (F : Int → Nat → Nat → Value) (S : Nat → Prop) (nk : Nat → Nat) (vb vg : Value) (r c r2 c2 : Nat) (L M : List Lst) (id0 : Nat) (w : World) (hid : id0 ≤ 1000000) (h : Kc (kdP F) w B ps vb r c L) (hg : Kg (kdP F) w B ps vg r2 c2 M id0)
  (hml : M.length = L.length ∨ M.length = 0) (hs : ∀ (k : Nat) (s : Lst), L[k]? = some s → s.Shows w (F ps (id0 + k + 1))) (hlk : Lmk2 w F S ps id0 nk) (hn1 : ∀ (k : Nat) (s : Lst), L[k]? = some s → s.N ≤ nk k) (hn2 : ∀ (k : Nat) (s : Lst), M[k]? = some s → s.N ≤ nk k) (ht : Tz w) :
  Calls Tryz.prog 78 #[.pointer (some ⟨B, 0, none⟩), .int .i64 id0] w fun en w' => en = .returned (.tuple #[.int .i64 ((id0 + L.length : Nat) : Int), .bool true]) ∧ w.grownBy w' none := by
 have hmany := h.many
 obtain ⟨vo, hvb, hvo⟩ := h.row.val
 rw [List.length_map] at hvb hvo
 obtain ⟨go, hvg, hgo⟩ := hg.row.val
 rw [List.length_map] at hvg hgo
 have HVO := hid_intro hvo
 have HGO := hid_intro hgo
 have HB := hid_intro h
 have HG := hid_intro hg
 have HS := hid_intro hs
 have HK := hid_intro hlk
 have HN1 := hid_intro hn1
 have HN2 := hid_intro hn2
 have HT := hid_intro ht
 clear h hg hs hvo hgo hlk hn1 hn2 ht
 subst hvb hvg
 go_enter Tryz.func78, Tryz.ntmps78
 go_wp2
 go_loopw [1, 6, 7] (fun sid sa si wr => ∃ i : Nat, i ≤ L.length ∧ si = .int .i64 i ∧ sa = .bool true ∧ sid = .int .i64 ((id0 + i : Nat) : Int) ∧ w.grownBy wr none) (fun _ _ si _ => L.length - (intOf si).toNat)
 case atStart => exact ⟨0, Nat.zero_le _, rfl, rfl, rfl, (Qt.refl _).grown none⟩
 case round =>
  obtain ⟨i, hi, rfl, rfl, rfl, hgr⟩ := hrel
  have HGR := hid_intro hgr
  have cl : wr.cell? ⟨B, 17, none⟩ = some (.slice vo L.length c) := hgr.cell HB.out.lists (by simp)
  clear hgr
  by_cases hlt : i < L.length
  ·obtain ⟨s, hs⟩ : ∃ s, L[i]? = some s := ⟨L[i], List.getElem?_eq_getElem hlt⟩
   have HSI := hid_intro hs
   obtain rfl := HVO.out (by omega)
   obtain ⟨ao, hsv, hao⟩ := (HB.out.ok s (List.mem_of_getElem? hs)).1.val
   have cr : wr.cell? ⟨r, i, none⟩ = some (.slice ao s.n s.c) := by
    rw [← hsv]; exact HGR.out.cell (HB.out.row.cells i _ (by rw [List.getElem?_map, hs]; rfl)) (by simp)
   have HSV := hid_intro hsv
   clear hs hao hsv
   go_wp2_with fail
   refine (show_pairs B ps hp (id0 + i + 1) _ F S s _ _ (HGR.out.cell HB.out.pass (by simp)) (by omega) (HB.out.ok s (List.mem_of_getElem? HSI.out)).1 ((HS.out i s HSI.out).kept HGR.out (by simp)) (fun x hx => (HK.out i x (Nat.lt_of_lt_of_le hx (HN1.out i s HSI.out))).kept HGR.out (by simp)) (HT.out.keptN HGR.out) (by omega) HSV.out.symm).mono ?_
   rintro en w1 ⟨rfl, hg1⟩
   have HGR1 := hid_intro (grown_trans HGR.out hg1)
   have cg : w1.cell? ⟨B, 19, none⟩ = some (.slice go M.length c2) := HGR1.out.cell HG.out.lists (by simp)
   clear hg1 HGR cl cr
   rcases hml with hml | hml
   ·obtain ⟨t, ht⟩ : ∃ t, M[i]? = some t := ⟨M[i]'(by omega), List.getElem?_eq_getElem (by omega)⟩
    obtain rfl := HGO.out (by omega)
    obtain ⟨ao2, htv, hao2⟩ := (HG.out.ok t (List.mem_of_getElem? ht)).val
    have cr2 : w1.cell? ⟨r2, i, none⟩ = some (.slice ao2 t.n t.c) := by
     rw [← htv]; exact HGR1.out.cell (HG.out.row.cells i _ (by rw [List.getElem?_map, ht]; rfl)) (by simp)
    have HTI := hid_intro ht
    have HTV := hid_intro htv
    have hd : decide ((i : Int) < (M.length : Int)) = true := by simp; omega
    clear ht htv hao2
    go_wp2_with fail
    refine (show_pairs B ps hp (id0 + i + 1) _ F S t _ _ (HGR1.out.cell HB.out.pass (by simp)) (by omega) (HG.out.ok t (List.mem_of_getElem? HTI.out)) ((HG.out.marks i t HTI.out).kept HGR1.out (by simp)) (fun x hx => (HK.out i x (Nat.lt_of_lt_of_le hx (HN2.out i t HTI.out))).kept HGR1.out (by simp)) (HT.out.keptN HGR1.out) (by omega) HTV.out.symm).mono ?_
    rintro en w2 ⟨rfl, hg2⟩
    have HGR2 := hid_intro (grown_trans HGR1.out hg2)
    clear hg2 HGR1
    go_wp2
    go_roundw
    case rel => exact ⟨i + 1, by omega, by go_num, rfl, by go_num, HGR2.out⟩
    case measure => simp [intOf]; omega
   ·have hd : decide ((i : Int) < (M.length : Int)) = false := by simp; omega
    go_wp2
    go_roundw
    case rel => exact ⟨i + 1, by omega, by go_num, rfl, by go_num, HGR1.out⟩
    case measure => simp [intOf]; omega
  ·have hin : i = L.length := by omega
   subst hin
   go_wp2
   go_ret2
   exact ⟨rfl, HGR.out⟩
end Go.Proofs.YthodgddoolbenaaGreatDoor
