import Derived.Test.YthodgddoolbenaaGreatDoorQ4
import Derived.Deep.AppendLies
namespace Go.Proofs.YthodgddoolbenaaGreatDoor
open Go.RowKit
set_option maxHeartbeats 1000000 in
set_option maxRecDepth 100000 in
theorem show_bytes (B : Nat) (ps : Int) (_hp : 0 ≤ ps ∧ ps ≤ 1) (id : Nat) (idI : Int) (s : Lst) (v : Value) (w : World) (h : w.cell? ⟨B, 1, none⟩ = some (.int .i64 ps)) (hi : id ≤ 1099511627776) (hs : s.Ok kdB.W) (hsh : s.Shows w (kdB.f ps id)) (e1 : idI = (id : Int)) (e2 : v = s.v) :
  Calls Tryz.prog 131 #[.pointer (some ⟨B, 0, none⟩), v, .int .i64 idI] w fun en w' => en = .returned (.bool true) ∧ w.grownBy w' none := by
 subst e1 e2
 obtain ⟨ao, hv, hao⟩ := hs.val
 have HC := hid_intro h
 have HS := hid_intro hsh
 have HOK := hid_intro hs
 have h1 := hs.le
 have h2 := hs.max
 have HAO := hid_intro hao
 clear h hsh hao hs
 rw [hv]
 clear hv
 go_enter Tryz.func131, Tryz.ntmps131
 go_wp2
 go_loopw [7] (fun sj wr => ∃ j : Nat, j ≤ s.n ∧ sj = .int .i64 j ∧ w.grownBy wr none) (fun sj _ => s.n - (intOf sj).toNat)
 case atStart => exact ⟨0, Nat.zero_le _, rfl, (Qt.refl _).grown none⟩
 case round =>
  obtain ⟨j, hj, rfl, hg⟩ := hrel
  have HG := hid_intro hg
  clear hg
  by_cases hlt : j < s.n
  ·obtain rfl := HAO.out (by omega)
   go_wp2_with fail
   refine (mark_bytes B ps id j _ _ _ (HG.out.cell HC.out (by simp)) hi (by omega) rfl rfl).mono ?_
   rintro en w1 ⟨rfl, hw1⟩
   subst hw1
   have hcell : w1.cell? ⟨s.g, s.o + j, none⟩ = some (.int .u8 (kmark ps id j)) := HG.out.cell (HS.out j (by have := HOK.out.cell hlt (show 0 < kdB.W by decide); simpa [kdB] using this)) (by simp)
   have hb : (kmark ps id j == kmark ps id j) = true := by simp
   go_wp2
   go_roundw
   case rel => exact ⟨j + 1, by omega, by go_num, HG.out⟩
   case measure => simp [intOf]; omega
  ·have hjn : j = s.n := by omega
   subst hjn
   go_wp2
   go_ret
   exact ⟨rfl, HG.out⟩
set_option maxHeartbeats 2000000 in
set_option maxRecDepth 100000 in
theorem write_bytes (B : Nat) (ps : Int) (_hp : 0 ≤ ps ∧ ps ≤ 1) (vb : Value) (r c : Nat) (L : List Lst) (id0 : Nat) (I : World → Prop) (w : World) (hid : id0 ≤ 1000000) (h : Kc kdB w B ps vb r c L) (hI : I w)
  (hIs : ∀ w s j v, s ∈ L → j < s.C → I w → I (w.setCell ⟨s.g, s.o + j, none⟩ v)) (hIq : ∀ w w', w.grownBy w' none → I w → I w') :
  Calls Tryz.prog 60 #[.pointer (some ⟨B, 0, none⟩), .int .i64 id0] w fun en w' => en = .returned (.int .i64 ((id0 + L.length : Nat) : Int)) ∧ Kwr kdB I w' B ps vb r c L id0 L.length 0 := by
 have hmany := h.many
 obtain ⟨vo, hvb, hvo⟩ := h.row.val
 rw [List.length_map] at hvb hvo
 have HVO := hid_intro hvo
 have HIS := hid_intro hIs
 have HIQ := hid_intro hIq
 have H0 : Hid (Kwr kdB I w B ps vb r c L id0 0 0) := ⟨hI, h, fun k s hk => by omega, fun s hs q hq => by omega⟩
 clear h hI hIs hIq hvo
 subst hvb
 go_enter Tryz.func60, Tryz.ntmps60
 go_wp2
 go_loopw [1, 5] (fun sid si wr => ∃ i : Nat, i ≤ L.length ∧ si = .int .i64 i ∧ sid = .int .i64 ((id0 + i : Nat) : Int) ∧ Kwr kdB I wr B ps (.slice vo L.length c) r c L id0 i 0) (fun _ si _ => L.length - (intOf si).toNat)
 case atStart => exact ⟨0, Nat.zero_le _, rfl, rfl, H0.out⟩
 case round =>
  obtain ⟨i, hi, rfl, rfl, hw⟩ := hrel
  have HW := hid_intro hw
  have cl : wr.cell? ⟨B, 2, none⟩ = some (.slice vo L.length c) := hw.bc.lists
  clear hw
  by_cases hlt : i < L.length
  ·obtain ⟨s, hs⟩ : ∃ s, L[i]? = some s := ⟨L[i], List.getElem?_eq_getElem hlt⟩
   have hok := (HW.out.bc.ok s (List.mem_of_getElem? hs)).1
   obtain ⟨ao, hsv, hao⟩ := hok.val
   have h1 := hok.le
   have h2 := hok.max
   have HOK := hid_intro hok
   have HS := hid_intro hs
   have HAO := hid_intro hao
   have HSV := hid_intro hsv
   obtain rfl := HVO.out (by omega)
   clear hs hok hao hsv
   go_wp2
   go_loopw [6] (fun sj wr => ∃ j : Nat, j ≤ s.n ∧ sj = .int .i64 j ∧ Kwr kdB I wr B ps (.slice (some ⟨r, 0, none⟩) L.length c) r c L id0 i (j * 1)) (fun sj _ => s.n - (intOf sj).toNat)
   case atStart => exact ⟨0, Nat.zero_le _, rfl, by rw [Nat.zero_mul]; exact HW.out⟩
   case round =>
    obtain ⟨j, hj, rfl, hw⟩ := hrel
    have HJ := hid_intro hw
    have cl : wr.cell? ⟨B, 2, none⟩ = some (.slice (some ⟨r, 0, none⟩) L.length c) := hw.bc.lists
    have cr : wr.cell? ⟨r, i, none⟩ = some (.slice ao s.n s.c) := by
     rw [← HSV.out]; exact hw.bc.row.cells i _ (by rw [List.getElem?_map, HS.out]; rfl)
    clear hw
    by_cases hlj : j < s.n
    ·obtain rfl := HAO.out (by omega)
     have hN := HOK.out.cell hlj (show 0 < kdB.W by decide)
     have hN' : j < s.N := by simpa [kdB] using hN
     obtain ⟨⟨u, hu⟩, hf⟩ := (HJ.out.bc.ok s (List.mem_of_getElem? HS.out)).2.1 j (by have := HOK.out.leN; omega)
     have HN := hid_intro (HJ.out.step HIS.out HS.out (by rw [Nat.mul_one]; exact hN') (s.o + j) (by omega) (.int .u8 (kmark ps (id0 + i + 1) j)) (by rw [Nat.mul_one]; rfl))
     have PP : Hid (∀ w' : World, w'.heap = wr.heap → w'.cell? ⟨B, 1, none⟩ = some (.int .i64 ps)) := fun w' e => (World.cell?_of_block (by rw [e])).trans HJ.out.bc.pass
     go_wp2
     go_region_with (go_at_call 118; refine (mark_bytes B ps (id0 + i + 1) j _ _ _ (by exact PP.out _ rfl) (by omega) (by omega) (by omega) (by omega)).mono ?_; rintro en w4 ⟨rfl, rfl⟩)
     all_goals
      go_wp2
      go_roundw
      case rel => exact ⟨j + 1, by omega, by go_num, by rw [show (j + 1) * 1 = j * 1 + 1 by omega]; exact (HN.out.qt HIQ.out ((Qt.refl _).drew.grown none))⟩
      case measure => simp [intOf]; omega
    ·have hjn : j = s.n := by omega
     subst hjn
     have HN := HJ.out
     have eN : s.n * 1 = s.N := HOK.out.hN.symm
     rw [eN] at HN
     have HN := hid_intro (HN.next HS.out)
     clear HJ eN
     go_wp2
     go_roundw
     case rel => exact ⟨i + 1, by omega, by go_num, by go_num, HN.out⟩
     case measure => simp [intOf]; omega
  ·have hin : i = L.length := by omega
   subst hin
   go_wp2
   go_ret
   exact ⟨rfl, HW.out⟩
set_option maxHeartbeats 2000000 in
set_option maxRecDepth 100000 in
theorem hold_bytes (B : Nat) (ps : Int) (hp : 0 ≤ ps ∧ ps ≤ 1) (vb vg : Value) (r c r2 c2 : Nat) (L M : List Lst) (id0 : Nat) (w : World) (hid : id0 ≤ 1000000) (h : Kc kdB w B ps vb r c L) (hg : Kg kdB w B ps vg r2 c2 M id0)
  (hml : M.length = L.length ∨ M.length = 0) (hs : ∀ (k : Nat) (s : Lst), L[k]? = some s → s.Shows w (kdB.f ps (id0 + k + 1))) :
  Calls Tryz.prog 73 #[.pointer (some ⟨B, 0, none⟩), .int .i64 id0] w fun en w' => en = .returned (.tuple #[.int .i64 ((id0 + L.length : Nat) : Int), .bool true]) ∧ w.grownBy w' none := by
 have hmany := h.many
 obtain ⟨vo, hvb, hvo⟩ := h.row.val
 rw [List.length_map] at hvb hvo
 obtain ⟨go, hvg, hgo⟩ := hg.row.val
 rw [List.length_map] at hvg hgo
 have HVO := hid_intro hvo
 have HGO := hid_intro hgo
 have HB := hid_intro h
 have HG := hid_intro hg
 have HS := hid_intro hs
 clear h hg hs hvo hgo
 subst hvb hvg
 go_enter Tryz.func73, Tryz.ntmps73
 go_wp2
 go_loopw [1, 6, 7] (fun sid sa si wr => ∃ i : Nat, i ≤ L.length ∧ si = .int .i64 i ∧ sa = .bool true ∧ sid = .int .i64 ((id0 + i : Nat) : Int) ∧ w.grownBy wr none) (fun _ _ si _ => L.length - (intOf si).toNat)
 case atStart => exact ⟨0, Nat.zero_le _, rfl, rfl, rfl, (Qt.refl _).grown none⟩
 case round =>
  obtain ⟨i, hi, rfl, rfl, rfl, hgr⟩ := hrel
  have HGR := hid_intro hgr
  have cl : wr.cell? ⟨B, 2, none⟩ = some (.slice vo L.length c) := hgr.cell HB.out.lists (by simp)
  clear hgr
  by_cases hlt : i < L.length
  ·obtain ⟨s, hs⟩ : ∃ s, L[i]? = some s := ⟨L[i], List.getElem?_eq_getElem hlt⟩
   have HSI := hid_intro hs
   obtain rfl := HVO.out (by omega)
   obtain ⟨ao, hsv, hao⟩ := (HB.out.ok s (List.mem_of_getElem? hs)).1.val
   have cr : wr.cell? ⟨r, i, none⟩ = some (.slice ao s.n s.c) := by
    rw [← hsv]; exact HGR.out.cell (HB.out.row.cells i _ (by rw [List.getElem?_map, hs]; rfl)) (by simp)
   have HSV := hid_intro hsv
   clear hs hao hsv
   go_wp2_with fail
   refine (show_bytes B ps hp (id0 + i + 1) _ s _ _ (HGR.out.cell HB.out.pass (by simp)) (by omega) (HB.out.ok s (List.mem_of_getElem? HSI.out)).1 ((HS.out i s HSI.out).kept HGR.out (by simp)) (by omega) HSV.out.symm).mono ?_
   rintro en w1 ⟨rfl, hg1⟩
   have HGR1 := hid_intro (grown_trans HGR.out hg1)
   have cg : w1.cell? ⟨B, 4, none⟩ = some (.slice go M.length c2) := HGR1.out.cell HG.out.lists (by simp)
   clear hg1 HGR cl cr
   rcases hml with hml | hml
   ·obtain ⟨t, ht⟩ : ∃ t, M[i]? = some t := ⟨M[i]'(by omega), List.getElem?_eq_getElem (by omega)⟩
    obtain rfl := HGO.out (by omega)
    obtain ⟨ao2, htv, hao2⟩ := (HG.out.ok t (List.mem_of_getElem? ht)).val
    have cr2 : w1.cell? ⟨r2, i, none⟩ = some (.slice ao2 t.n t.c) := by
     rw [← htv]; exact HGR1.out.cell (HG.out.row.cells i _ (by rw [List.getElem?_map, ht]; rfl)) (by simp)
    have HTI := hid_intro ht
    have HTV := hid_intro htv
    have hd : decide ((i : Int) < (M.length : Int)) = true := by simp; omega
    clear ht htv hao2
    go_wp2_with fail
    refine (show_bytes B ps hp (id0 + i + 1) _ t _ _ (HGR1.out.cell HB.out.pass (by simp)) (by omega) (HG.out.ok t (List.mem_of_getElem? HTI.out)) ((HG.out.marks i t HTI.out).kept HGR1.out (by simp)) (by omega) HTV.out.symm).mono ?_
    rintro en w2 ⟨rfl, hg2⟩
    have HGR2 := hid_intro (grown_trans HGR1.out hg2)
    clear hg2 HGR1
    go_wp2
    go_roundw
    case rel => exact ⟨i + 1, by omega, by go_num, rfl, by go_num, HGR2.out⟩
    case measure => simp [intOf]; omega
   ·have hd : decide ((i : Int) < (M.length : Int)) = false := by simp; omega
    go_wp2
    go_roundw
    case rel => exact ⟨i + 1, by omega, by go_num, rfl, by go_num, HGR1.out⟩
    case measure => simp [intOf]; omega
  ·have hin : i = L.length := by omega
   subst hin
   go_wp2
   go_ret2
   exact ⟨rfl, HGR.out⟩
end Go.Proofs.YthodgddoolbenaaGreatDoor
