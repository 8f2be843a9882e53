import Derived.Test.YtnfelndfpmnkmaaGreatDoorQ35
import Derived.Test.YtnfelndfpmnkmaaGreatDoorQ28
namespace Go.Proofs.YtnfelndfpmnkmaaGreatDoor
open Go.RowKit
theorem kinfo_listsK : (Tryz.prog.info? 22).map (fun i => (i.zero, i.size, i.bytes)) = some (some (.slice none 0 0), 1, 24) := by kernel_rfl
set_option maxHeartbeats 4000000 in
set_option maxRecDepth 100000 in
theorem kst_lists {kd : Nat → Kdk} {Same : Nat → World → Nat → (Nat → Value) → Lst → Value → Prop} (hK : Kds kd Same) {w : World} {B base : Nat} {cs : Nat → Value} {L : Nat → List Lst} {ys : Nat → List Value} (h : Kst kd Same w B base cs L ys) (ek0 : kd 0 = kdB) (es0 : Same 0 = SameB) (F : Int → Nat → Nat → Value) (ek : kd 3 = kdL F) (es : Same 3 = SameL) (a : Option Addr) (n cap : Nat) (Z : List (List Int)) (D : List Lst) (htl : Tl w base cs a Z) (hbt : ∀ z ∈ Z, Bt z) (hzn : Z.length = n) (hn : n ≤ 5000) (hzs : ∀ z ∈ Z, z.length ≤ 100000)
  (hDl : D.length = n) (hD : ∀ i, i < n → ∃ b off k, a = some ⟨b, off, none⟩ ∧ D[i]? = some k ∧ w.cell? ⟨b, off + i, none⟩ = some k.v)
  (hDo : ∀ s ∈ D, Rdy w base cs 1 5 s) (hDp : D.Pairwise Lst.Apart) (hDa : ∀ t ∈ L 0, ∀ s ∈ D, t.Apart s) (hm : (L 0).length + n ≤ 1000000) (hm3 : (L 3).length ≤ 1000000) :
  Calls Tryz.prog 17 #[.pointer (some ⟨B, 0, none⟩), .slice a n cap] w fun en w' => en = .returned (.tuple #[]) ∧ ∃ cs' YY y, Kfr w w' B base cs cs' ∧ (∀ s : Lst, s.v = .slice a n cap → s.n = n → s.c = cap → Rdy w base cs (kd 3).W (kd 3).et s → (∀ t ∈ lsn L 0 D 3, t.Apart s) → Kst kd Same w' B base cs' (lsn (lsn L 0 D) 3 [s]) (ysn YY 3 [y])) ∧ (n = 0 → cap = 0 → ∃ s, w.heap.size ≤ s.g ∧ s.C = 0 ∧ Kst kd Same w' B base cs' (lsn (lsn L 0 D) 3 [s]) (ysn YY 3 [y])) := by
 obtain ⟨i0, hi, hz0, hz1, hz2⟩ := info_parts kinfo_listsK
 have S0 : Hid (∃ cz YY, Kst kd Same w B base cz (lsn L 0 (D.take 0)) YY ∧ Kfr w w B base cs cz) := ⟨cs, ys, by rw [List.take_zero, lsn_nil]; exact h, Kfr.of ((Qt.refl _).grown none)⟩
 have HD := hid_intro hD
 have HDO := hid_intro hDo
 have HTL0 := hid_intro htl
 have AP : Hid (∀ j k, D[j]? = some k → ∀ t ∈ lsn L 0 (D.take j) 0, t.Apart k) := fun j k hk t ht => by
  rw [lsn_same] at ht
  rcases List.mem_append.1 ht with h | h
  ·exact hDa t h k (List.mem_of_getElem? hk)
  ·obtain ⟨i, hi⟩ := List.mem_iff_getElem?.1 h
   have hil := (List.getElem?_eq_some_iff.1 hi).1
   rw [List.length_take] at hil
   rw [List.getElem?_take, if_pos (by omega)] at hi
   exact ls_pair hDp hi hk (by omega)
 clear h htl hD hDo hDp hDa
 go_enter Tryz.func17, Tryz.ntmps17
 go_wp2
 go_loopw [4] (fun si wr => ∃ i : Nat, i ≤ n ∧ si = .int .i64 i ∧ ∃ cz YY, Kst kd Same wr B base cz (lsn L 0 (D.take i)) YY ∧ Kfr w wr B base cs cz) (fun si _ => n - (intOf si).toNat)
 case atStart => exact ⟨0, Nat.zero_le _, rfl, S0.out⟩
 case round =>
  obtain ⟨i, hi', rfl, cz, YY, hT, hkf⟩ := hrel
  have HT := hid_intro hT
  have HKF := hid_intro hkf
  clear hT hkf S0
  by_cases hlt : i < n
  ·obtain ⟨b, off, k, rfl, hk, ck⟩ := HD.out i hlt
   obtain ⟨b', off', ao, m, c, e, q1, q2, q3, q4, q5⟩ := HTL0.out.row i (by omega)
   simp only [Option.some.injEq, Addr.mk.injEq, and_true] at e
   obtain ⟨rfl, rfl⟩ := e
   have hkr := HDO.out k (List.mem_of_getElem? hk)
   obtain ⟨ak, ek', _⟩ := hkr.ok.val
   have ck2 := ck
   rw [q1] at ck2
   have e1 := Option.some.inj ck2
   rw [ek'] at e1
   simp only [Value.slice.injEq] at e1
   obtain ⟨rfl, rfl, rfl⟩ := e1
   have c1 := HKF.out.toKee.cell q1 q5
   have HQ := hid_intro (q2.kee HKF.out.toKee)
   have HKR := hid_intro (hkr.kee HKF.out.toKee)
   have HEK := hid_intro ek'
   have HK := hid_intro hk
   have g0 : (0 : Int) ≤ (i : Int) := by omega
   have g1 : (i : Int) < (n : Int) := by omega
   have hLk : (lsn L 0 (D.take i) 0).length ≤ 1000000 := by rw [lsn_same, List.length_append, List.length_take]; omega
   have hkn := hkr.n
   clear ck ck2 q1 q2 q5 hkr hk ek'
   go_wp2_with fail
   refine (kst_bytes hK HT.out ek0 es0 ao k.n k.c _ HQ.out hkn hLk).mono ?_
   rintro en w1 ⟨rfl, c1', y1, k1, k2, _⟩
   have HT1 := hid_intro (k2 k HEK.out rfl rfl (by rw [ek0]; exact HKR.out) (AP.out i k HK.out))
   have HKF1 := hid_intro (HKF.out.trans k1)
   have etk : D.take (i + 1) = D.take i ++ [k] := by
    rw [List.take_add_one, HK.out]; rfl
   rw [lsn_lsn, ← etk] at HT1
   clear k1 k2 etk HT HKF HQ HKR c1
   go_wp2
   go_roundw
   case rel => exact ⟨i + 1, by omega, by go_num, _, _, HT1.out, HKF1.out⟩
   case measure => simp [intOf]; omega
  ·have hin : n = i := by omega
   subst hin
   have etl : D.take n = D := List.take_of_length_le (by omega)
   rw [etl] at HT
   clear etl
   have HTL := hid_intro (HTL0.out.kee HKF.out.toKee)
   have hmj : (lsn L 0 D 3).length ≤ 1000000 := by rw [lsn_far _ _ (by omega)]; exact hm3
   have HX := hid_intro HT.out.t.box
   have HOB : Hid (wr.ownsRow base 22 1 (cz 11) (lsn L 0 D 3).length ((lsn L 0 D 3).map Lst.v)) := by have := (HT.out.k 3 (by omega)).ob; rw [ek] at this; exact this
   have HOW : Hid (wr.ownsRow base 22 1 (cz 12) (lsn L 0 D 3).length (YY 3)) := by have := (HT.out.k 3 (by omega)).ow; rw [ek] at this; exact this
   have hB1 := HT.out.t.notB 11 (by omega)
   have hB2 := HT.out.t.notB 12 (by omega)
   have hbase := HT.out.t.bB.2
   have hBb := HT.out.t.bB.1
   have hbw : ∀ i, (cz 11).ownBlock = some i → (cz 12).ownBlock ≠ some i := HT.out.t.un 11 12 (by omega) (by omega) (by omega)
   have HBW := hid_intro hbw
   have k2 := HX.out.cell 11 (by omega)
   obtain ⟨LJ, hLJ⟩ : ∃ LJ, LJ = lsn L 0 D 3 := ⟨_, rfl⟩
   obtain ⟨YJ, hYJ⟩ : ∃ YJ, YJ = YY 3 := ⟨_, rfl⟩
   rw [← hLJ] at HOB HOW hmj
   rw [← hYJ] at HOW
   have ELJ := hid_intro hLJ
   have EYJ := hid_intro hYJ
   clear hLJ hYJ
   go_wp2_with (at_builtin; refine wpList_append_lies _ rfl _ _ 32 rfl base 22 i0 (.slice none 0 0) 1 24 Tryz.underlying32 hi hz0 hz1 hz2 rfl (by decide) (cz 11) LJ.length (LJ.map Lst.v) rfl (HOB.out.alloc _) ⟨wr.heap.size, 0, none⟩ 1 1 [.slice a n cap] rfl rfl (cell_one_new _ _ _) (by intro u hu; simp at hu; subst hu; rfl) (by omega) (by unfold maxLen; omega) (by omega) (by simp; omega) (wr.heap.size + 1) (by simp) ?_)
   intro g1 c1 w1 hown1 hg1 hat1 hlt1
   have X1 : Hid (Kbx w1 B cz) := (HX.out.kept (World.grownBy_alloc _ _ none) (by simp)).kept hg1 (Ne.symm hB1)
   have X2 : Hid (Kbx (w1.setCell ⟨B, 11, none⟩ (.slice (some ⟨g1, 0, none⟩) (LJ.length + 1) c1)) B (kup cz 11 (.slice (some ⟨g1, 0, none⟩) (LJ.length + 1) c1))) := X1.out.set 11 (by omega) _
   have k2' := X1.out.cell 11 (by omega)
   have f2' := X1.out.fz 11 (by omega)
   have k3' : (w1.setCell ⟨B, 11, none⟩ (.slice (some ⟨g1, 0, none⟩) (LJ.length + 1) c1)).cell? ⟨B, 12, none⟩ = some (cz 12) := (X2.out.cell 12 (by omega)).trans (by rw [kup_far _ _ (by omega)])
   have f3' := X2.out.fz 12 (by omega)
   have H1 := hid_intro hown1
   have HG1 := hid_intro hg1
   clear hown1 hg1
   go_wp2
   obtain ⟨w2, hw2⟩ : ∃ w2, w2 = w1.setCell ⟨B, 11, none⟩ (.slice (some ⟨g1, 0, none⟩) (LJ.length + 1) c1) := ⟨_, rfl⟩
   rw [← hw2] at X2 k3' f3' ⊢
   have HW2 := hid_intro hw2
   clear hw2
   have hs12 : w2.heap.size = w1.heap.size := by rw [HW2.out]; simp
   have hs01 : wr.heap.size < w1.heap.size := by have := HG1.out.size; simp at this; omega
   have hgw2 : w1.grownBy w2 (some B) := by rw [HW2.out]; exact kset_grown _ _ _ _
   have KF2 : Hid (Kee wr w2 base cz cz) := ⟨by omega, fun d hd hf => ⟨(hgw2.block d (by omega) (fun e => by have := hf.1; have := Option.some.inj e; omega)).trans ((HG1.out.block d (by simp; omega) (fun e => hf.2 11 (by omega) e.symm)).trans ((World.grownBy_alloc wr _ none).block d hd (by simp))), hf⟩⟩
   have Y2 : Hid (∀ w' : World, w'.heap = w2.heap → Lz w' a Z) := fun w' e => (HTL.out.kee KF2.out).lz.heap e
   have O2 : Hid (w2.ownsRow base 22 1 (cz 12) LJ.length YJ) :=
    (((HOW.out.alloc _).kept HG1.out (by
     cases hvw : (cz 12).ownBlock with
     | none => exact Or.inl rfl
     | some i => exact Or.inr (fun e => hbw i e.symm hvw))).kept hgw2 (Or.inr hB2))
   have P2 : Hid (w2.ownsRow base 22 1 (.slice (some ⟨g1, 0, none⟩) (LJ.length + 1) c1) (LJ.length + 1) (LJ.map Lst.v ++ [.slice a n cap])) :=
    H1.out.kept hgw2 (Or.inr (fun e => by
     have e' : g1 = B := Option.some.inj e
     have := HX.out.lt
     rcases hat1 with h | h
     ·exact hB1 (by rw [h, e'])
     ·omega))
   have HGW2 := hid_intro hgw2
   clear hgw2
   have HS12 := hid_intro hs12
   have hb2 : base ≤ w2.heap.size := by omega
   have HVW := hid_intro (fun i e => (HOW.out.lt i e).2 : ∀ i, (cz 12).ownBlock = some i → i < wr.heap.size)
   clear hs12
   generalize hvw : cz 12 = vw at *
   go_region_law
    ((first
     | (go_simp; go_at_call 33; refine (refLists_new a n cap Z _ (by exact Y2.out _ rfl) hzn hn hzs).mono ?_; rintro en w3 ⟨⟨v3, xs3, rfl, ho3, hsy3⟩, hg3, hbl3⟩; obtain ⟨bo, cb, rfl⟩ := own_sl ho3; have kk3 : w3.cell? ⟨B, 12, none⟩ = some vw := hg3.cell (by simpa using k3') (by simp); have nn3 := World.new_ne w3 ⟨B, 12, none⟩ kk3; have kk3o : ∀ o : Obj, (w3.alloc o).cell? ⟨B, 12, none⟩ = some vw := (fun o => by rw [World.cell?_alloc_lt _ _ _ (World.block_lt_of_cell? _ _ kk3)]; exact kk3); have ff3 : w3.frozen? ⟨B, 12, none⟩ = false := (hg3.frozen_far ⟨B, 12, none⟩ (by simpa using World.block_lt_of_cell? _ _ k3') (by simp)).trans (by simpa using f3'))
     | (refine step_append_lies _ (by rfl) _ _ _ (by rfl) base 22 i0 (.slice none 0 0) 1 24 Tryz.underlying32 hi hz0 hz1 hz2 (by rfl) (by decide) vw LJ.length YJ (by rfl) (by exact ((O2.out.kept ((Qt.refl w2).drew.grown none) (by cases vw.ownBlock <;> simp)).kept hg3 (by cases vw.ownBlock <;> simp)).alloc _) ⟨w3.heap.size, 0, none⟩ 1 1 [.slice bo n cb] (by rfl) (by rfl) (by exact cell_one_new _ _ _) (by intro u hu; simp at hu; subst hu; rfl) (by omega) (by unfold maxLen; omega) (by omega) (by have h9 := hg3.size; simp at h9; simp; omega) (w3.heap.size + 1) (by simp) ?_; intro g4 c4 w4 hown4 hg4 hat4 hlt4; have kk4 : w4.cell? ⟨B, 12, none⟩ = some vw := hg4.cell (by rw [World.cell?_alloc_lt _ _ _ (World.block_lt_of_cell? _ _ kk3)]; exact kk3) (Ne.symm hB2); have ff4 : w4.frozen? ⟨B, 12, none⟩ = false := (hg4.frozen_far ⟨B, 12, none⟩ (by have := World.block_lt_of_cell? _ _ kk3; simp at this ⊢; omega) (Ne.symm hB2)).trans ((World.frozen?_of_block ((World.grownBy_alloc w3 _ none).block B (World.block_lt_of_cell? _ _ kk3) (by simp))).trans ff3))))
   all_goals
    refine Go.Great.bodyPost_end0 rfl rfl ?_
    subst hvw
    have hs3' : w2.heap.size ≤ w3.heap.size := by have := hg3.size; simpa using this
    have hset := kset_grown w4 B 12 (.slice (some ⟨g4, 0, none⟩) (LJ.length + 1) c4)
    have hKP := Kpk.make (q := 11) (by omega) HX.out.lt HOW.out hB1 hB2 HBW.out HG1.out hat1 hlt1 HGW2.out HS12.out X2.out P2.out hg3 hs3' hown4 hg4 hat4
    have hBl := HX.out.lt
    have hS := HS12.out
    have hVW := HVW.out
    have hKP' : Kpk (kd 3).lt 11 wr (w4.setCell ⟨B, 12, none⟩ (.slice (some ⟨g4, 0, none⟩) (LJ.length + 1) c4)) B cz base (lsn L 0 D 3).length ((lsn L 0 D 3).map Lst.v) (YY 3) (.slice a n cap) (.slice bo n cb) (.slice (some ⟨g1, 0, none⟩) (LJ.length + 1) c1) (.slice (some ⟨g4, 0, none⟩) (LJ.length + 1) c4) := by rw [← ELJ.out, ← EYJ.out, ek]; exact hKP
    obtain ⟨s1, s2, s3⟩ := HT.out.snoc hK 3 11 (by omega) (by rw [ek]; rfl) hKP'
    have hg4l : g4 < w2.heap.size ∨ w3.heap.size ≤ g4 := by
     rcases hat4 with h | h
     ·exact Or.inl (by have := hVW g4 h; omega)
     ·exact Or.inr (by omega)
    have FC : ∀ b, w2.heap.size ≤ b → b < w3.heap.size → Fre base (kup (kup cz 11 (.slice (some ⟨g1, 0, none⟩) (LJ.length + 1) c1)) (11 + 1) (.slice (some ⟨g4, 0, none⟩) (LJ.length + 1) c4)) b := fun b h1 h2 => fre_copy HT.out.t (lo := w2.heap.size) (hi := w3.heap.size) (by omega) (by omega) hg4l h1 h2
    have KO : ∀ {H W : Nat} {t : TypeId} {v : Value} {m : Nat} {xs : List Value}, w3.ownsRow H t W v m xs → w2.heap.size ≤ H → (w4.setCell ⟨B, 12, none⟩ (.slice (some ⟨g4, 0, none⟩) (LJ.length + 1) c4)).ownsRow H t W v m xs := fun {H W t v m xs} ho hH => by
     have hne : ∀ i, v.ownBlock = some i → w2.heap.size ≤ i := fun i e => by have := (ho.lt i e).1; omega
     have h5 := (ho.alloc (.cells #[.slice bo n cb] 22)).kept hg4 (by
      cases hv : v.ownBlock with
      | none => exact Or.inl rfl
      | some i => exact Or.inr (fun e => by have := hne i hv; have := hVW i e.symm; omega))
     exact h5.kept hset (by
      cases hv : v.ownBlock with
      | none => exact Or.inl rfl
      | some i => exact Or.inr (fun e => by have := hne i hv; have := Option.some.inj e; omega))
    have hs3 : w2.heap.size < w3.heap.size ∨ 0 < n := by
     rcases Nat.eq_zero_or_pos n with h0 | h0
     ·exact Or.inl (hbl3 h0).lt
     ·exact Or.inr h0
    have SM : (∀ (s : Lst), s.v = .slice a n cap → s.n = n → s.c = cap → Same 3 (w4.setCell ⟨B, 12, none⟩ (.slice (some ⟨g4, 0, none⟩) (LJ.length + 1) c4)) base (kup (kup cz 11 (.slice (some ⟨g1, 0, none⟩) (LJ.length + 1) c1)) (11 + 1) (.slice (some ⟨g4, 0, none⟩) (LJ.length + 1) c4)) s (.slice bo n cb)) := fun s e1 e2 e3 => by
     subst e2 e3
     rw [es]
     have hsy : Sy (w4.setCell ⟨B, 12, none⟩ (.slice (some ⟨g4, 0, none⟩) (LJ.length + 1) c4)) w2.drew.heap.size xs3 Z := ⟨hsy3.len, fun j hj => by
      obtain ⟨g, H, k0, k1, k2⟩ := hsy3.el j hj
      exact ⟨g, H, k0, k1, KO k2 k0⟩⟩
     have ht3 : Tl w3 base (kup (kup cz 11 (.slice (some ⟨g1, 0, none⟩) (LJ.length + 1) c1)) (11 + 1) (.slice (some ⟨g4, 0, none⟩) (LJ.length + 1) c4)) bo Z := tl_own ho3 hsy3 (fun z hz => by have := hzs z hz; omega) (fun i h1 h2 => FC i h1 h2)
     refine ⟨a, bo, cb, Z, e1, rfl, (HTL.out.kee s2.toKee), ⟨fun i hi => ?_⟩, hbt, hzn⟩
     obtain ⟨b, off, ao, m, c, q1, q2, q3, q4, q5, q6⟩ := ht3.row i hi
     have ho3' := KO ho3 (Nat.le_refl _)
     obtain ⟨g, H, k0, k1, k2⟩ := hsy.el i hi
     have hl : xs3.length = s.n := by have := ho3.1; simpa using this
     have hl2 := hsy3.len
     rcases ho3.2 with ⟨e, h0⟩ | ⟨gg, cap', cur, e, _⟩
     ·omega
     ·injection e with e4
      subst e4
      have hc := ho3'.cellAt i (by omega)
      simp only [Option.some.injEq, Addr.mk.injEq, and_true] at q1
      obtain ⟨rfl, rfl⟩ := q1
      have b2 := (hsy3.el i hi)
      obtain ⟨g', H', k0', k1', k2'⟩ := b2
      rw [k1] at k1'
      have ege : g = g' := by injection k1' with k1'; injection k1' with k1'; injection k1' with k1'; injection k1'
      subst ege
      have b3 := k2'.lt g rfl
      have hzl := hzs _ (lgetC hi)
      exact ⟨gg, 0, _, _, _, rfl, by rw [Nat.zero_add, hc]; exact k1, ⟨Byt.of_owns k2, fun ad e _ => by obtain rfl := Option.some.inj e; have k0'' : w2.heap.size ≤ H' := k0'; exact FC g (by omega) b3.2⟩, Nat.le_refl _, by omega, q6⟩
    refine ⟨rfl, _, YY, .slice bo n cb, HKF.out.trans s2, fun s e1 e2 e3 hr hap => ?_, fun e1 e2 => ⟨lsz (.slice a n cap) w2.heap.size, by have := HKF.out.size; show _ ≤ w2.heap.size; omega, rfl, ?_⟩⟩
    ·have hr' := hr.kee HKF.out.toKee
     exact s3 s e1 hr'.ok (s2.toKee.there hr'.th hr'.fr) hr'.n (hr'.bl.kee s2.toKee hr'.fr) (s2.block s.g hr'.bl.lt hr'.fr).2 hap (SM s e1 e2 e3)
    ·subst e1 e2
     refine s3 (lsz (.slice a 0 0) w2.heap.size) rfl (lsz_ok _ _ _) (lsz_there _ _ _) (by simp [lsz]) ?_ (FC _ (Nat.le_refl _) (hbl3 rfl).lt) (fun t _ => lsz_apart _ _ _) (SM _ rfl rfl rfl)
     have hb9 : Blk w3 26 w2.heap.size := hbl3 rfl
     rw [ek]
     exact ((hb9.row' (World.grownBy_alloc _ _ none) (by simp)).row' hg4 (fun e => by have := hVW _ e.symm; omega)).row' hset (fun e => by have := Option.some.inj e; omega)
end Go.Proofs.YtnfelndfpmnkmaaGreatDoor
