import Derived.Test.YthodgddoolbenaaGreatDoorQ5
namespace Go.Proofs.YthodgddoolbenaaGreatDoor
open Go.RowKit
set_option maxHeartbeats 4000000 in
set_option maxRecDepth 100000 in
theorem grow_bytes (B : Nat) (ps : Int) (_hp : 0 ≤ ps ∧ ps ≤ 1) (vb vg0 : Value) (r c base id0 : Nat) (L M0 : List Lst) (t : Nat) (Q : Nat → Prop) (HH : Nat) (I : World → Prop) (w : World) (h : Gs kdB Q HH I w B ps vb vg0 r c base id0 L M0 (ktn t 0)) (ht : t ≤ 1000) (hM : if t = 0 then M0 = [] else M0.length = L.length) (hrB : r ≠ B) (hid : id0 ≤ 1000000)
  (hbd : ∀ s ∈ L, s.n + t + 1 ≤ 1099511627776)
  (hIg : ∀ w w' row, I w → w.grownBy w' row → (∀ i, row = some i → Q i) → I w') (hIb : ∀ w v, I w → I (w.setCell ⟨B, kdB.q + 2, none⟩ v)) (hIs : ∀ w s j v, s ∈ L → j < s.C → I w → I (w.setCell ⟨s.g, s.o + j, none⟩ v)) :
  Calls Tryz.prog 86 #[.pointer (some ⟨B, 0, none⟩), .int .i64 id0, .int .i64 t] w fun en w' => en = .returned (.int .i64 ((id0 + L.length : Nat) : Int)) ∧ ∃ vg M, M.length = L.length ∧ Gs kdB Q HH I w' B ps vb vg r c base id0 L M (ktn t L.length) := by
 obtain ⟨i0, hi0, hz0, hz1, hz2⟩ := info_parts kinfo_rows
 obtain ⟨i1, hi1, hj0, hj1, hj2⟩ := info_parts kinfo_u8
 have hmany := h.bc.many
 obtain ⟨vo, hvb, hvo⟩ := h.bc.row.val
 rw [List.length_map] at hvb hvo
 have HVO := hid_intro hvo
 have HIG := hid_intro hIg
 have HIS := hid_intro hIs
 have HIB := hid_intro hIb
 have HBD := hid_intro hbd
 have H0 := hid_intro h
 have HM0 := hid_intro hM
 clear h hvo hIg hIb hIs hbd hM
 subst hvb
 go_enter Tryz.func86, Tryz.ntmps86
 go_wp2
 go_loopw [1, 7] (fun sid si wr => ∃ i : Nat, i ≤ L.length ∧ si = .int .i64 i ∧ sid = .int .i64 ((id0 + i : Nat) : Int) ∧ ∃ vg M, (if t = 0 then M.length = i else M.length = L.length) ∧ Gs kdB Q HH I wr B ps (.slice vo L.length c) vg r c base id0 L M (ktn t i)) (fun _ si _ => L.length - (intOf si).toNat)
 case atStart =>
  refine ⟨0, Nat.zero_le _, rfl, rfl, vg0, M0, ?_, H0.out⟩
  have := HM0.out
  by_cases e : t = 0
  ·rw [if_pos e] at this ⊢; rw [this]; rfl
  ·rw [if_neg e] at this ⊢; exact this
 case round =>
  obtain ⟨i, hi, rfl, rfl, vg, M, hMl, hG⟩ := hrel
  have HG := hid_intro hG
  have k2 : wr.cell? ⟨B, 2, none⟩ = some (.slice vo L.length c) := hG.bc.lists
  have HML := hid_intro hMl
  clear hG hMl H0
  by_cases hlt : i < L.length
  ·obtain ⟨s, hs⟩ : ∃ s, L[i]? = some s := ⟨L[i], List.getElem?_eq_getElem hlt⟩
   have HS := hid_intro hs
   obtain ⟨ao, hsv, hao⟩ := (HG.out.bc.ok s (List.mem_of_getElem? hs)).1.val
   obtain rfl := HVO.out (by omega)
   have cr : wr.cell? ⟨r, i, none⟩ = some (.slice ao s.n s.c) := by
    rw [← hsv]; exact HG.out.bc.row.cells i _ (by rw [List.getElem?_map, hs]; rfl)
   have HSV := hid_intro hsv
   have p0 : (0 : Int) ≤ (i : Int) := by omega
   have p1 : (i : Int) < (L.length : Int) := by omega
   clear hs hao hsv
   go_upto_if 21 with fail
   go_cut [1, 7] from 9 to 64 (fun s1 s7 wx => s1 = .int .i64 ((id0 : Int) + (i : Int) + 1) ∧ s7 = .int .i64 (i : Int) ∧ ∃ vg M, (if t = 0 then M.length = i + 1 else M.length = L.length) ∧ Gs kdB Q HH I wx B ps (.slice (some ⟨r, 0, none⟩) L.length c) vg r c base id0 L M (ktn t i))
   case first =>
    by_cases ht0 : t = 0
    ·subst ht0
     have HMI : Hid (M.length = i) := by have := HML.out; exact hid_intro (by simpa using this)
     have hMle : M.length ≤ 1000000 := by have := HMI.out; omega
     have k4 : wr.cell? ⟨B, 4, none⟩ = some vg := HG.out.gl
     have f4 : wr.frozen? ⟨B, 4, none⟩ = false := HG.out.gz
     have ka4 : ∀ o : Obj, (wr.alloc o).cell? ⟨B, 4, none⟩ = some vg := fun o => by
      rw [World.cell?_alloc_lt _ _ _ (World.block_lt_of_cell? _ _ k4)]; exact k4
     have ka2 : ∀ o : Obj, (wr.alloc o).cell? ⟨B, 2, none⟩ = some (.slice (some ⟨r, 0, none⟩) L.length c) := fun o => by
      rw [World.cell?_alloc_lt _ _ _ (World.block_lt_of_cell? _ _ k2)]; exact k2
     have kar : ∀ o : Obj, (wr.alloc o).cell? ⟨r, i, none⟩ = some (.slice ao s.n s.c) := fun o => by
      rw [World.cell?_alloc_lt _ _ _ (World.block_lt_of_cell? _ _ cr)]; exact cr
     have HOWN : Hid (∀ (w' : World) (o : Obj), w'.heap = (wr.alloc o).heap → w'.ownsRow base 49 1 vg M.length (M.map Lst.v)) := fun w' o e => by
      have := HG.out.own.alloc o
      unfold World.ownsRow at this ⊢
      rw [e]; exact this
     have HONE : Hid (∀ (w' : World) (t : TypeId), w'.heap = (wr.alloc (.cells #[.slice ao s.n s.c] t)).heap → ∀ j u, [Value.slice ao s.n s.c][j]? = some u → w'.cell? ((⟨wr.heap.size, 0, none⟩ : Addr).add j) = some u) := fun w' t e j u hu => by
      rw [World.cell?_of_block (w := wr.alloc (.cells #[.slice ao s.n s.c] t)) (by rw [e])]
      exact cell_one_new wr _ t j u hu
     have hbw := HG.out.rB.2.2.1
     have HVG := hid_intro HG.out.vgB
     have HRB := hid_intro HG.out.rB
     go_wp2
     go_region_law
      ((refine step_append_lies _ (by rfl) _ _ _ (by rfl) base 49 i0 (.slice none 0 0) 1 24 Tryz.underlying28 hi0 hz0 hz1 hz2 (by rfl) (by decide) vg M.length (M.map Lst.v) (by rfl) (by exact HOWN.out _ _ rfl) ⟨wr.heap.size, 0, none⟩ 1 1 [.slice ao s.n s.c] (by rfl) (by rfl) (by exact HONE.out _ _ rfl) (by intro u hu; simp at hu; subst hu; rfl) (by omega) (by unfold maxLen; omega) (by omega) (by simp; omega) (wr.heap.size + 1) (by simp) ?_; intro g1 c1 w1 hown1 hg1 hat1 hlt1; have nB : some B ≠ vg.ownBlock := (fun e => by have := HVG.out B e.symm; have := HRB.out; omega); have nr : some r ≠ vg.ownBlock := (fun e => by have := HVG.out r e.symm; have := HRB.out; omega); have k4w : w1.cell? ⟨B, 4, none⟩ = some vg := hg1.cell (ka4 _) nB; have k2w : w1.cell? ⟨B, 2, none⟩ = some (.slice (some ⟨r, 0, none⟩) L.length c) := hg1.cell (ka2 _) nB; have krw : w1.cell? ⟨r, i, none⟩ = some (.slice ao s.n s.c) := hg1.cell (kar _) nr; have k2s : ∀ v, (w1.setCell ⟨B, 4, none⟩ v).cell? ⟨B, 2, none⟩ = some (.slice (some ⟨r, 0, none⟩) L.length c) := (fun v => by rw [World.cell?_setCell_other _ _ _ _ (off_ne (by omega))]; exact k2w); have krs : ∀ v, (w1.setCell ⟨B, 4, none⟩ v).cell? ⟨r, i, none⟩ = some (.slice ao s.n s.c) := (fun v => by rw [World.cell?_setCell_other _ _ _ _ (fun e => hrB (by injection e with e1; exact e1.symm))]; exact krw); have hg1' := grown_trans ((((Qt.refl (wr.alloc (.cells #[.slice ao s.n s.c] 49))).drew)).grown _) hg1; have f4w : w1.frozen? ⟨B, 4, none⟩ = false := ((hg1'.frozen_far ⟨B, 4, none⟩ (by simpa using Nat.lt_succ_of_lt (World.block_lt_of_cell? _ _ k4)) nB).trans (((World.grownBy_alloc wr (.cells #[.slice ao s.n s.c] 49) none).frozen_far ⟨B, 4, none⟩ (World.block_lt_of_cell? _ _ k4) (by simp)).trans f4))))
     all_goals
      have HE : Hid (Gs kdB Q HH I (w1.setCell ⟨B, 4, none⟩ (.slice (some ⟨g1, 0, none⟩) (M.length + 1) c1)) B ps (.slice (some ⟨r, 0, none⟩) L.length c) (.slice (some ⟨g1, 0, none⟩) (M.length + 1) c1) r c base id0 L (M ++ [s]) (ktn 0 i)) :=
       HG.out.enter (.cells #[.slice ao s.n s.c] 49) (by rw [HMI.out]; exact HS.out) (by rw [HMI.out]; simp [ktn]) HIG.out HIB.out (by decide) hg1' (by rw [HSV.out]; exact hown1) (by
        rcases hat1 with h | h
        ·exact Or.inl h.symm
        ·exact Or.inr ⟨g1, rfl, by omega⟩) hrB
      clear k4w k2w krw k2s krs f4w hg1 hg1' hown1 hat1 hlt1
      go_wp2_with fail
      go_meet
      case rel =>
       exact ⟨rfl, rfl, _, M ++ [s], by simp [HMI.out], HE.out⟩
    ·have htb : ((t : Int) == 0) = false := by simp; omega
     go_wp2_with fail
     go_meet
     case rel =>
      refine ⟨rfl, rfl, vg, M, ?_, HG.out⟩
      have := HML.out
      rw [if_neg ht0] at this ⊢
      exact this
   case rest =>
    obtain ⟨rfl, rfl, vg', MM, hMl', hG'⟩ := hcut
    have HGW := hid_intro hG'
    have HMC := hid_intro hMl'
    have hiM : i < MM.length := by
     by_cases e : t = 0
     ·rw [if_pos e] at hMl'; omega
     ·rw [if_neg e] at hMl'; omega
    obtain ⟨rg, cg, hvg, _, _⟩ := hG'.own.form (by omega)
    subst hvg
    clear hG' hMl' HG HML k2 cr
    obtain ⟨m, hm⟩ : ∃ m, MM[i]? = some m := ⟨MM[i]'(by omega), List.getElem?_eq_getElem (by omega)⟩
    have HMM := hid_intro hm
    clear hm
    have k4 : wc.cell? ⟨B, 4, none⟩ = some (.slice (some ⟨rg, 0, none⟩) MM.length cg) := HGW.out.gl
    have hmk := HGW.out.each i m HMM.out
    obtain ⟨am, hmv, ham⟩ := hmk.1.val
    have cm : wc.cell? ⟨rg, i, none⟩ = some (.slice am m.n m.c) := by
     rw [← hmv]
     have hli := (List.getElem?_eq_some_iff.1 HMM.out).1
     exact (HGW.out.own.cellAt i (by omega)).trans (by rw [List.getElem?_map, HMM.out]; rfl)
    have hliM : (i : Int) < (MM.length : Int) := by omega
    have fm : wc.frozen? ⟨rg, i, none⟩ = false := HGW.out.own.frozenAt i
    have hbdm : m.n + 1 ≤ 1099511627776 := by
     obtain ⟨s', hs', hn', _⟩ := hmk.2.2.2
     have := HBD.out s' (List.mem_of_getElem? hs')
     rw [hn']; unfold ktn; simp; omega
    have hmle := hmk.1.le
    have HNW : Hid (m.N = m.n * 1) := hmk.1.hN
    have HAM := hid_intro ham
    have HMV := hid_intro hmv
    have HIM := hid_intro hiM
    have hrgB : rg ≠ B := by have := HGW.out.vgB rg rfl; have := HGW.out.rB; omega
    clear hmk ham hmv hiM
    go_wp2_with fail
    obtain ⟨mk, hmk'⟩ : ∃ mk : Int, mk = kmark ps (id0 + i + 1) m.n := ⟨_, rfl⟩
    refine (mark_bytes B ps (id0 + i + 1) m.n _ _ _ HGW.out.bc.pass (by omega) (by omega) (by omega) rfl).mono ?_
    rintro en w5 ⟨rfl, hw5⟩
    subst hw5
    rw [← hmk']
    have HVS : Hid (∀ (x : Nat) (v : Value), [Value.int .u8 mk][x]? = some v → v = kdB.f ps (id0 + i + 1) (m.N + x)) := fun x v hx => by
     match x with
     | 0 =>
      have hN := HNW.out
      rw [Nat.mul_one] at hN
      simp only [List.getElem?_cons_zero, Option.some.injEq] at hx
      rw [← hx, hmk', hN]
      rfl
     | x + 1 => simp at hx
    clear hmk'
    go_wp2
    have HX8 : Hid (Gs kdB Q HH I (w5.alloc (.cells #[.int .u8 mk] 5)).drew B ps (.slice (some ⟨r, 0, none⟩) L.length c) (.slice (some ⟨rg, 0, none⟩) MM.length cg) r c base id0 L MM (ktn t i)) :=
     HGW.out.more HIG.out (grown_trans (World.grownBy_alloc _ _ none) ((Qt.refl _).drew.grown none))
    have kb4 : ∀ o : Obj, (w5.alloc o).cell? ⟨B, 4, none⟩ = some (.slice (some ⟨rg, 0, none⟩) MM.length cg) := fun o => by
     rw [World.cell?_alloc_lt _ _ _ (World.block_lt_of_cell? _ _ k4)]; exact k4
    have kbm : ∀ o : Obj, (w5.alloc o).cell? ⟨rg, i, none⟩ = some (.slice am m.n m.c) := fun o => by
     rw [World.cell?_alloc_lt _ _ _ (World.block_lt_of_cell? _ _ cm)]; exact cm
    have HONE : Hid (∀ (w' : World) (ty : TypeId), w'.heap = (w5.alloc (.cells #[.int .u8 mk] ty)).heap → ∀ j u, [Value.int .u8 mk][j]? = some u → w'.cell? ((⟨w5.heap.size, 0, none⟩ : Addr).add j) = some u) := fun w' ty e j u hu => by
     rw [World.cell?_of_block (w := w5.alloc (.cells #[.int .u8 mk] ty)) (by rw [e])]
     exact cell_one_new w5 _ ty j u hu
    rcases Nat.lt_or_ge m.n m.c with hroom | hfull
    ·obtain rfl := HAM.out (by omega)
     have HSP : Hid (∀ (w' : World), w'.heap = (w5.alloc (.cells #[.int .u8 mk] 5)).heap → ∀ j, j < [Value.int .u8 mk].length → (w'.cell? ⟨m.g, m.o + m.n * 1 + j, none⟩).isSome = true ∧ w'.frozen? ⟨m.g, m.o + m.n * 1 + j, none⟩ = false) := fun w' e j hj => by
      have hj0 : j < 1 := by simpa using hj
      have hok := (HX8.out.each i m HMM.out)
      have hr := hok.1.room hroom
      have hN := HNW.out
      obtain ⟨⟨u, hu⟩, hf⟩ := hok.2.1 (m.N + j) (by unfold kdB at hr; simp only at hr; omega)
      rw [show m.o + m.n * 1 + j = m.o + (m.N + j) by omega, World.cell?_of_block (w := (w5.alloc (.cells #[.int .u8 mk] 5)).drew) (by rw [e]; rfl), World.frozen?_of_block (w := (w5.alloc (.cells #[.int .u8 mk] 5)).drew) (by rw [e]; rfl)]
      rw [hu]; exact ⟨rfl, hf⟩
     have HXX : Hid (∀ X, X = (w5.alloc (.cells #[.int .u8 mk] 5)).drew.setCells m.g (m.o + m.n * 1) [.int .u8 mk] → Gs kdB Q HH I X B ps (.slice (some ⟨r, 0, none⟩) L.length c) (.slice (some ⟨rg, 0, none⟩) MM.length cg) r c base id0 L MM (ktn t i) ∧ Kf kdB Q X (.slice (some ⟨rg, 0, none⟩) MM.length cg) base id0 L MM (ktn t i) ps i ⟨.slice (some ⟨m.g, m.o, none⟩) (m.n + 1) m.c, m.g, m.o, m.n + 1, m.c, m.N + kdB.W, m.C⟩) := fun X hX => by
      rw [hX]
      exact HX8.out.room HMM.out hroom hbdm [Value.int .u8 mk] rfl HVS.out _ (by rw [HNW.out]) HIG.out HIS.out
     have HCM : Hid (∀ X, Gs kdB Q HH I X B ps (.slice (some ⟨r, 0, none⟩) L.length c) (.slice (some ⟨rg, 0, none⟩) MM.length cg) r c base id0 L MM (ktn t i) → X.cell? ⟨rg, i, none⟩ = some (.slice (some ⟨m.g, m.o, none⟩) m.n m.c)) := fun X hX => by
      rw [← HMV.out]; exact (hX.own.cellAt i (by have := HIM.out; omega)).trans (by rw [List.getElem?_map, HMM.out]; rfl)
     go_region_law
      ((refine step_append_room_k (by rfl) _ _ _ (by rfl) 5 i1 1 Tryz.underlying49 hi1 hj1 m.g m.o m.n m.c (by rfl) ⟨w5.heap.size, 0, none⟩ 1 1 [.int .u8 mk] (by rfl) (by rfl) (by exact HONE.out _ _ rfl) (by intro u hu; simp at hu; subst hu; rfl) (by omega) (by exact HSP.out _ rfl) ?_; intro X hX; have hXR := HXX.out X hX; have k4X : X.cell? ⟨B, 4, none⟩ = some (.slice (some ⟨rg, 0, none⟩) MM.length cg) := hXR.1.gl; have cmX := HCM.out X hXR.1; have fmX : X.frozen? ⟨rg, i, none⟩ = false := hXR.1.own.frozenAt i; have HXR := hid_intro hXR; clear hXR hX))
     all_goals
      have HP := hid_intro (HXR.out.1.put HXR.out.2 HIM.out HIG.out)
      rw [ktn_next] at HP
      go_wp2
      go_roundw
      case rel =>
       refine ⟨i + 1, by omega, by go_num, by go_num, _, _, ?_, HP.out⟩
       have h3 := HMC.out
       rw [List.length_set]
       exact h3
      case measure => simp [intOf]; omega
    ·have HOLD : Hid (∀ (w' : World), w'.heap = (w5.alloc (.cells #[.int .u8 mk] 5)).heap → ∀ b, am = some b → ∀ j u, ((List.range m.N).map fun j => kdB.f ps (id0 + i + 1) j)[j]? = some u → w'.cell? (b.add j) = some u) := fun w' e b hb j u hu => by
      have hj : j < m.N := by have := (List.getElem?_eq_some_iff.1 hu).1; simpa using this
      have hN := HNW.out
      have hb' := HAM.out (by omega)
      rw [hb] at hb'
      have hb2 := Option.some.inj hb'
      subst hb2
      rw [List.getElem?_map, List.getElem?_range hj] at hu
      have hu' := Option.some.inj hu
      rw [Addr.add_lit, World.cell?_of_block (w := (w5.alloc (.cells #[.int .u8 mk] 5)).drew) (by rw [e]; rfl), ← hu']
      exact HX8.out.mm i m HMM.out j hj
     have HNO : Hid (am = none → m.n = 0 ∧ m.c = 0) := fun e => by
      rcases Nat.eq_zero_or_pos m.c with h0 | h0
      ·omega
      ·have := HAM.out h0; rw [e] at this; cases this
     obtain ⟨OL, hOL⟩ : ∃ OL, OL = (List.range m.N).map fun j => kdB.f ps (id0 + i + 1) j := ⟨_, rfl⟩
     have hOLl : OL.length = m.n * 1 := by rw [hOL]; simpa using HNW.out
     have HFULL : Hid (∀ gX cX X H, (w5.alloc (.cells #[.int .u8 mk] 5)).drew.grownBy X none → (w5.alloc (.cells #[.int .u8 mk] 5)).drew.heap.size ≤ H → X.ownsRow H 5 1 (.slice (some ⟨gX, 0, none⟩) (m.n + 1) cX) (m.n + 1) (OL ++ [.int .u8 mk]) → Gs kdB Q HH I X B ps (.slice (some ⟨r, 0, none⟩) L.length c) (.slice (some ⟨rg, 0, none⟩) MM.length cg) r c base id0 L MM (ktn t i) ∧ Kf kdB Q X (.slice (some ⟨rg, 0, none⟩) MM.length cg) base id0 L MM (ktn t i) ps i ⟨.slice (some ⟨gX, 0, none⟩) (m.n + 1) cX, gX, 0, m.n + 1, cX, m.N + kdB.W, cX * kdB.W⟩) := fun gX cX X H h1 h2 h3 => by
      rw [hOL] at h3
      exact HX8.out.full HMM.out [Value.int .u8 mk] rfl HVS.out HIG.out h1 h2 hbdm h3
     rw [← hOL] at HOLD
     clear hOL
     have HCM : Hid (∀ X, Gs kdB Q HH I X B ps (.slice (some ⟨r, 0, none⟩) L.length c) (.slice (some ⟨rg, 0, none⟩) MM.length cg) r c base id0 L MM (ktn t i) → X.cell? ⟨rg, i, none⟩ = some (.slice am m.n m.c)) := fun X hX => by
      rw [← HMV.out]; exact (hX.own.cellAt i (by have := HIM.out; omega)).trans (by rw [List.getElem?_map, HMM.out]; rfl)
     go_region_law
      ((refine step_append_grows (by rfl) _ _ _ (by rfl) 5 i1 (.int .u8 0) 1 1 Tryz.underlying49 hi1 hj0 hj1 hj2 (by rfl) (by decide) am m.n m.c OL (by rfl) HNO.out hOLl (by exact HOLD.out _ rfl) ⟨w5.heap.size, 0, none⟩ 1 1 [.int .u8 mk] (by rfl) (by rfl) (by exact HONE.out _ _ rfl) (by intro u hu; simp at hu; subst hu; rfl) (by omega) (by unfold maxLen; omega) (by omega) ?_; intro v' X hownX hgX; obtain ⟨gX, cX, hvX, _, _⟩ := hownX.form (by omega); subst hvX; have hXR := HFULL.out gX cX X _ hgX (by exact Nat.le_refl _) hownX; have k4X : X.cell? ⟨B, 4, none⟩ = some (.slice (some ⟨rg, 0, none⟩) MM.length cg) := hXR.1.gl; have cmX := HCM.out X hXR.1; have fmX : X.frozen? ⟨rg, i, none⟩ = false := hXR.1.own.frozenAt i; have HXR := hid_intro hXR; clear hXR hownX hgX))
     all_goals
      have HP := hid_intro (HXR.out.1.put HXR.out.2 HIM.out HIG.out)
      rw [ktn_next] at HP
      go_wp2
      go_roundw
      case rel =>
       refine ⟨i + 1, by omega, by go_num, by go_num, _, _, ?_, HP.out⟩
       have h3 := HMC.out
       rw [List.length_set]
       exact h3
      case measure => simp [intOf]; omega
  ·have hin : i = L.length := by omega
   subst hin
   go_wp2
   go_ret
   refine ⟨rfl, vg, M, ?_, HG.out⟩
   have := HML.out
   by_cases e : t = 0
   ·rwa [if_pos e] at this
   ·rwa [if_neg e] at this
end Go.Proofs.YthodgddoolbenaaGreatDoor
