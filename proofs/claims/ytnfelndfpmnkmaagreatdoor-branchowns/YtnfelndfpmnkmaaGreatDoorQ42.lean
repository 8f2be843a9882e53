import Derived.Test.YtnfelndfpmnkmaaGreatDoorQ16
import Derived.Test.YtnfelndfpmnkmaaGreatDoorQ39
import Derived.Test.YtnfelndfpmnkmaaGreatDoorQ35
namespace Go.Proofs.YtnfelndfpmnkmaaGreatDoor
open Go.RowKit
theorem info_kidC : (Tryz.prog.info? 61).map (fun i => (i.zero, i.size, i.bytes)) = some (some (.agg #[.int .i64 0, .int .i64 0]), 2, 16) := by kernel_rfl
structure Ty (w : World) (base : Nat) (cs : Nat → Value) (a : Option Addr) (Z : List Kd) : Prop where
 row : ∀ i, i < Z.length → ∃ b off, a = some ⟨b, off, none⟩ ∧ w.cell? ⟨b, off + i * 2, none⟩ = some (.int .i64 (Z.getD i kd0).no) ∧ w.cell? ⟨b, off + i * 2 + 1, none⟩ = some (.int .i64 (Z.getD i kd0).keys) ∧ Fre base cs b
theorem Ty.kee {w w' : World} {base : Nat} {cs cs' : Nat → Value} {a : Option Addr} {Z : List Kd} (h : Ty w base cs a Z) (k : Kee w w' base cs cs') : Ty w' base cs' a Z := by
 refine ⟨fun i hi => ?_⟩
 obtain ⟨b, off, h1, h2, h3, h4⟩ := h.row i hi
 exact ⟨b, off, h1, k.cell h2 h4, k.cell h3 h4, (k.block b (World.block_lt_of_cell? w _ h2) h4).2⟩
theorem Ty.kl {w : World} {base : Nat} {cs : Nat → Value} {a : Option Addr} {Z : List Kd} (h : Ty w base cs a Z) : Kl w a Z := by
 refine ⟨fun i hi => ?_⟩
 obtain ⟨b, off, h1, h2, h3, _⟩ := h.row i hi
 exact ⟨b, off, h1, h2, h3⟩
theorem ty_own {w : World} {H base n cb : Nat} {cs : Nat → Value} {bo : Option Addr} {Z : List Kd} (h : w.ownsRow H 61 2 (.slice bo n cb) n (kc Z)) (hf : ∀ i, (Value.slice bo n cb).ownBlock = some i → Fre base cs i) : Ty w base cs bo Z := by
 obtain ⟨a, cap, e, hk, hl, _, _⟩ := kc_kl h
 injection e with e1 _ _
 subst e1
 refine ⟨fun i hi => ?_⟩
 obtain ⟨b, off, h1, h2, h3⟩ := hk.row i hi
 exact ⟨b, off, h1, h2, h3, hf b (by rw [h1]; rfl)⟩
def SameY (w : World) (base : Nat) (cs : Nat → Value) (s : Lst) (y : Value) : Prop := ∃ ao bo cb, ∃ Z : List Kd, s.v = .slice ao s.n s.c ∧ y = .slice bo s.n cb ∧ Ty w base cs ao Z ∧ Ty w base cs bo Z ∧ Z.length = s.n
theorem SameY.kee {w w' : World} {base : Nat} {cs cs' : Nat → Value} (k : Kee w w' base cs cs') : ∀ s y, SameY w base cs s y → SameY w' base cs' s y := by
 rintro s y ⟨ao, bo, cb, zs, h1, h2, h3, h4, h5⟩
 exact ⟨ao, bo, cb, zs, h1, h2, h3.kee k, h4.kee k, h5⟩
set_option maxHeartbeats 1000000 in
set_option maxRecDepth 100000 in
theorem refKids_own (a : Option Addr) (n cap : Nat) (K : List Kd) (w : World) (hl : Kl w a K) (hn : K.length = n) (hm : n ≤ 5000) :
  Calls Tryz.prog 27 #[.slice a n cap] w fun en w' => (∃ v, en = .returned v ∧ w'.ownsRow w.heap.size 61 2 v n (kc K)) ∧ w.grownBy w' none ∧ w.heap.size < w'.heap.size ∧ (n = 0 → Blk w' 61 w.heap.size) := by
 obtain ⟨i1, hi1, hy0, hy1, hy2⟩ := info_parts info_kidC
 have HL := hid_intro hl
 clear hl
 go_enter Tryz.func27, Tryz.ntmps27
 go_wp2_with (at_make; refine wpList_make_own _ rfl _ _ 23 rfl w.heap.size 61 i1 (.agg #[.int .i64 0, .int .i64 0]) 2 Tryz.underlying23 hi1 hy0 hy1 _ _ _ n rfl rfl rfl ?b2 ?b3 (Nat.le_refl _) ?_)
 case b2 => rw [hy2]; omega
 case b3 => unfold maxLen; omega
 intro w0 hown0 hg0
 have hs0 : w.heap.size < w0.heap.size := (hown0.lt w.heap.size rfl).2
 have O0 := hid_intro hown0
 have HB0 := hid_intro (blk_own hown0 w.heap.size rfl)
 have G0 := hid_intro hg0
 clear hown0 hg0
 go_wp2
 go_loopw [3, 4] (fun sl si wr => ∃ i : Nat, i ≤ n ∧ si = .int .i64 i ∧ wr.ownsRow w.heap.size 61 2 sl i (kc (K.take i)) ∧ w.grownBy wr none ∧ w.heap.size < wr.heap.size ∧ (i = 0 → Blk wr 61 w.heap.size)) (fun _ si _ => n - (intOf si).toNat)
 case atStart => exact ⟨0, Nat.zero_le _, rfl, O0.out, G0.out, hs0, fun _ => HB0.out⟩
 case round =>
  obtain ⟨i, hi', rfl, hown, hg, hs, hbl⟩ := hrel
  have HBL := hid_intro hbl
  clear hbl HB0
  have HO := hid_intro hown
  have HG := hid_intro hg
  clear hown hg O0 G0
  by_cases hlt : i < n
  ·obtain ⟨b1, off, rfl, q2, q3⟩ := HL.out.row i (by omega)
   have c0 := HG.out.cell q2 (by simp)
   have c1 := HG.out.cell q3 (by simp)
   have HTK : Hid (kc (K.take (i + 1)) = kc (K.take i) ++ [.int .i64 (K.getD i kd0).no, .int .i64 (K.getD i kd0).keys]) := by
    show _ = _
    rw [← kc_snoc, List.take_add_one, List.getElem?_eq_getElem (show i < K.length by omega)]
    simp [List.getD, List.getElem?_eq_getElem (show i < K.length by omega)]
   clear q2 q3
   generalize (K.getD i kd0).no = no at *
   generalize (K.getD i kd0).keys = ks at *
   go_wp2_with (at_builtin; refine wpList_append_own _ rfl _ _ 23 rfl w.heap.size 61 i1 (.agg #[.int .i64 0, .int .i64 0]) 2 16 Tryz.underlying23 hi1 hy0 hy1 hy2 rfl (by decide) _ i (kc (K.take i)) rfl (HO.out.alloc _) ⟨wr.heap.size, 0, none⟩ 1 1 [.int .i64 no, .int .i64 ks] rfl rfl (cell_two_new _ _ _ _) (by intro u hu; simp at hu; rcases hu with rfl | rfl <;> rfl) (by unfold maxLen; omega) (by omega) (by have := HG.out.size; simp; omega) ?_)
   intro v' w10 ho hg10 _
   have HO1 := hid_intro ho
   have HG1 := hid_intro (grown_appC HG.out HO.out (Nat.le_refl _) hg10)
   have hs1 : w.heap.size < w10.heap.size := by have := hg10.size; simp at this; omega
   clear ho hg10 HO HG c0 c1
   go_wp2
   go_roundw
   case rel => exact ⟨i + 1, by omega, by go_num, by rw [HTK.out]; exact HO1.out, HG1.out, hs1, fun e => by omega⟩
   case measure => simp [intOf]; omega
  ·have hin : i = n := by omega
   subst hin
   have e : K.take i = K := by rw [← hn, List.take_length]
   rw [e] at HO
   go_wp2
   go_ret
   exact ⟨⟨_, rfl, HO.out⟩, HG.out, hs, HBL.out⟩
theorem kinfo_kidsK : (Tryz.prog.info? 23).map (fun i => (i.zero, i.size, i.bytes)) = some (some (.slice none 0 0), 1, 24) := by kernel_rfl
set_option maxHeartbeats 4000000 in
set_option maxRecDepth 100000 in
theorem kst_kids {kd : Nat → Kdk} {Same : Nat → World → Nat → (Nat → Value) → Lst → Value → Prop} (hK : Kds kd Same) {wr : World} {B base : Nat} {cz : Nat → Value} {LL : Nat → List Lst} {YY : Nat → List Value} (h : Kst kd Same wr B base cz LL YY) (ek : kd 7 = kdY) (es : Same 7 = SameY) (a : Option Addr) (n cap : Nat) (Z : List Kd) (htn : Ty wr base cz a Z) (hzn : Z.length = n) (hn : n ≤ 5000) (hm : (LL 7).length ≤ 1000000) :
  Calls Tryz.prog 18 #[.pointer (some ⟨B, 0, none⟩), .slice a n cap] wr fun en w' => en = .returned (.tuple #[]) ∧ ∃ cs' y, Kfr wr w' B base cz cs' ∧ (∀ s : Lst, s.v = .slice a n cap → s.n = n → s.c = cap → Rdy wr base cz (kd 7).W (kd 7).et s → (∀ t ∈ LL 7, t.Apart s) → Kst kd Same w' B base cs' (lsn LL 7 [s]) (ysn YY 7 [y])) ∧ (n = 0 → cap = 0 → ∃ s, wr.heap.size ≤ s.g ∧ s.C = 0 ∧ Kst kd Same w' B base cs' (lsn LL 7 [s]) (ysn YY 7 [y])) := by
 obtain ⟨i0, hi, hz0, hz1, hz2⟩ := info_parts kinfo_kidsK
 have HT := hid_intro h
 have HTN := hid_intro htn
 have hmj := hm
 clear h htn hm
 go_enter Tryz.func18, Tryz.ntmps18
 have HX := hid_intro HT.out.t.box
 have HOB : Hid (wr.ownsRow base 23 1 (cz 23) (LL 7).length ((LL 7).map Lst.v)) := by have := (HT.out.k 7 (by omega)).ob; rw [ek] at this; exact this
 have HOW : Hid (wr.ownsRow base 23 1 (cz 24) (LL 7).length (YY 7)) := by have := (HT.out.k 7 (by omega)).ow; rw [ek] at this; exact this
 have hB1 := HT.out.t.notB 23 (by omega)
 have hB2 := HT.out.t.notB 24 (by omega)
 have hbase := HT.out.t.bB.2
 have hBb := HT.out.t.bB.1
 have hbw : ∀ i, (cz 23).ownBlock = some i → (cz 24).ownBlock ≠ some i := HT.out.t.un 23 24 (by omega) (by omega) (by omega)
 have HBW := hid_intro hbw
 have k2 := HX.out.cell 23 (by omega)
 obtain ⟨LJ, hLJ⟩ : ∃ LJ, LJ = LL 7 := ⟨_, rfl⟩
 obtain ⟨YJ, hYJ⟩ : ∃ YJ, YJ = YY 7 := ⟨_, rfl⟩
 rw [← hLJ] at HOB HOW hmj
 rw [← hYJ] at HOW
 have ELJ := hid_intro hLJ
 have EYJ := hid_intro hYJ
 clear hLJ hYJ
 go_wp2_with (at_builtin; refine wpList_append_lies _ rfl _ _ 36 rfl base 23 i0 (.slice none 0 0) 1 24 Tryz.underlying36 hi hz0 hz1 hz2 rfl (by decide) (cz 23) LJ.length (LJ.map Lst.v) rfl (HOB.out.alloc _) ⟨wr.heap.size, 0, none⟩ 1 1 [.slice a n cap] rfl rfl (cell_one_new _ _ _) (by intro u hu; simp at hu; subst hu; rfl) (by omega) (by unfold maxLen; omega) (by omega) (by simp; omega) (wr.heap.size + 1) (by simp) ?_)
 intro g1 c1 w1 hown1 hg1 hat1 hlt1
 have X1 : Hid (Kbx w1 B cz) := (HX.out.kept (World.grownBy_alloc _ _ none) (by simp)).kept hg1 (Ne.symm hB1)
 have X2 : Hid (Kbx (w1.setCell ⟨B, 23, none⟩ (.slice (some ⟨g1, 0, none⟩) (LJ.length + 1) c1)) B (kup cz 23 (.slice (some ⟨g1, 0, none⟩) (LJ.length + 1) c1))) := X1.out.set 23 (by omega) _
 have k2' := X1.out.cell 23 (by omega)
 have f2' := X1.out.fz 23 (by omega)
 have k3' : (w1.setCell ⟨B, 23, none⟩ (.slice (some ⟨g1, 0, none⟩) (LJ.length + 1) c1)).cell? ⟨B, 24, none⟩ = some (cz 24) := (X2.out.cell 24 (by omega)).trans (by rw [kup_far _ _ (by omega)])
 have f3' := X2.out.fz 24 (by omega)
 have H1 := hid_intro hown1
 have HG1 := hid_intro hg1
 clear hown1 hg1
 go_wp2
 obtain ⟨w2, hw2⟩ : ∃ w2, w2 = w1.setCell ⟨B, 23, none⟩ (.slice (some ⟨g1, 0, none⟩) (LJ.length + 1) c1) := ⟨_, rfl⟩
 rw [← hw2] at X2 k3' f3' ⊢
 have HW2 := hid_intro hw2
 clear hw2
 have hs12 : w2.heap.size = w1.heap.size := by rw [HW2.out]; simp
 have hs01 : wr.heap.size < w1.heap.size := by have := HG1.out.size; simp at this; omega
 have hgw2 : w1.grownBy w2 (some B) := by rw [HW2.out]; exact kset_grown _ _ _ _
 have KF2 : Hid (Kee wr w2 base cz cz) := ⟨by omega, fun d hd hf => ⟨(hgw2.block d (by omega) (fun e => by have := hf.1; have := Option.some.inj e; omega)).trans ((HG1.out.block d (by simp; omega) (fun e => hf.2 23 (by omega) e.symm)).trans ((World.grownBy_alloc wr _ none).block d hd (by simp))), hf⟩⟩
 have Y2 : Hid (∀ w' : World, w'.heap = w2.heap → Kl w' a Z) := fun w' e => (HTN.out.kee KF2.out).kl.heap e
 have O2 : Hid (w2.ownsRow base 23 1 (cz 24) LJ.length YJ) :=
  (((HOW.out.alloc _).kept HG1.out (by
   cases hvw : (cz 24).ownBlock with
   | none => exact Or.inl rfl
   | some i => exact Or.inr (fun e => hbw i e.symm hvw))).kept hgw2 (Or.inr hB2))
 have P2 : Hid (w2.ownsRow base 23 1 (.slice (some ⟨g1, 0, none⟩) (LJ.length + 1) c1) (LJ.length + 1) (LJ.map Lst.v ++ [.slice a n cap])) :=
  H1.out.kept hgw2 (Or.inr (fun e => by
   have e' : g1 = B := Option.some.inj e
   have := HX.out.lt
   rcases hat1 with h | h
   ·exact hB1 (by rw [h, e'])
   ·omega))
 have HGW2 := hid_intro hgw2
 clear hgw2
 have HS12 := hid_intro hs12
 have hb2 : base ≤ w2.heap.size := by omega
 have HVW := hid_intro (fun i e => (HOW.out.lt i e).2 : ∀ i, (cz 24).ownBlock = some i → i < wr.heap.size)
 clear hs12
 generalize hvw : cz 24 = vw at *
 go_region_law
  ((first
   | (go_simp; go_at_call 27; refine (refKids_own a n cap Z _ (by exact Y2.out _ rfl) hzn hn).mono ?_; rintro en w3 ⟨⟨v3, rfl, ho3⟩, hg3, hs3, hbl3⟩; obtain ⟨bo, cb, rfl⟩ := own_sl ho3; have kk3 : w3.cell? ⟨B, 24, none⟩ = some vw := hg3.cell (by simpa using k3') (by simp); have nn3 := World.new_ne w3 ⟨B, 24, none⟩ kk3; have kk3o : ∀ o : Obj, (w3.alloc o).cell? ⟨B, 24, none⟩ = some vw := (fun o => by rw [World.cell?_alloc_lt _ _ _ (World.block_lt_of_cell? _ _ kk3)]; exact kk3); have ff3 : w3.frozen? ⟨B, 24, none⟩ = false := (hg3.frozen_far ⟨B, 24, none⟩ (by simpa using World.block_lt_of_cell? _ _ k3') (by simp)).trans (by simpa using f3'))
   | (refine step_append_lies _ (by rfl) _ _ _ (by rfl) base 23 i0 (.slice none 0 0) 1 24 Tryz.underlying36 hi hz0 hz1 hz2 (by rfl) (by decide) vw LJ.length YJ (by rfl) (by exact ((O2.out.kept ((Qt.refl w2).drew.grown none) (by cases vw.ownBlock <;> simp)).kept hg3 (by cases vw.ownBlock <;> simp)).alloc _) ⟨w3.heap.size, 0, none⟩ 1 1 [.slice bo n cb] (by rfl) (by rfl) (by exact cell_one_new _ _ _) (by intro u hu; simp at hu; subst hu; rfl) (by omega) (by unfold maxLen; omega) (by omega) (by have h9 := hg3.size; simp at h9; simp; omega) (w3.heap.size + 1) (by simp) ?_; intro g4 c4 w4 hown4 hg4 hat4 hlt4; have kk4 : w4.cell? ⟨B, 24, none⟩ = some vw := hg4.cell (by rw [World.cell?_alloc_lt _ _ _ (World.block_lt_of_cell? _ _ kk3)]; exact kk3) (Ne.symm hB2); have ff4 : w4.frozen? ⟨B, 24, none⟩ = false := (hg4.frozen_far ⟨B, 24, none⟩ (by have := World.block_lt_of_cell? _ _ kk3; simp at this ⊢; omega) (Ne.symm hB2)).trans ((World.frozen?_of_block ((World.grownBy_alloc w3 _ none).block B (World.block_lt_of_cell? _ _ kk3) (by simp))).trans ff3))))
 all_goals
  refine Go.Great.bodyPost_end0 rfl rfl ?_
  subst hvw
  have hs3' : w2.heap.size ≤ w3.heap.size := by have := hg3.size; simpa using this
  have hset := kset_grown w4 B 24 (.slice (some ⟨g4, 0, none⟩) (LJ.length + 1) c4)
  have hKP := Kpk.make (q := 23) (by omega) HX.out.lt HOW.out hB1 hB2 HBW.out HG1.out hat1 hlt1 HGW2.out HS12.out X2.out P2.out hg3 hs3' hown4 hg4 hat4
  have hBl := HX.out.lt
  have hS := HS12.out
  have hVW := HVW.out
  have hKP' : Kpk (kd 7).lt 23 wr (w4.setCell ⟨B, 24, none⟩ (.slice (some ⟨g4, 0, none⟩) (LJ.length + 1) c4)) B cz base (LL 7).length ((LL 7).map Lst.v) (YY 7) (.slice a n cap) (.slice bo n cb) (.slice (some ⟨g1, 0, none⟩) (LJ.length + 1) c1) (.slice (some ⟨g4, 0, none⟩) (LJ.length + 1) c4) := by rw [← ELJ.out, ← EYJ.out, ek]; exact hKP
  obtain ⟨s1, s2, s3⟩ := HT.out.snoc hK 7 23 (by omega) (by rw [ek]; rfl) hKP'
  have hg4l : g4 < w2.heap.size ∨ w3.heap.size ≤ g4 := by
   rcases hat4 with h | h
   ·exact Or.inl (by have := hVW g4 h; omega)
   ·exact Or.inr (by omega)
  have FC : ∀ b, w2.heap.size ≤ b → b < w3.heap.size → Fre base (kup (kup cz 23 (.slice (some ⟨g1, 0, none⟩) (LJ.length + 1) c1)) (23 + 1) (.slice (some ⟨g4, 0, none⟩) (LJ.length + 1) c4)) b := fun b h1 h2 => fre_copy HT.out.t (lo := w2.heap.size) (hi := w3.heap.size) (by omega) (by omega) hg4l h1 h2
  have KO : ∀ {H W : Nat} {t : TypeId} {v : Value} {m : Nat} {xs : List Value}, w3.ownsRow H t W v m xs → w2.heap.size ≤ H → (w4.setCell ⟨B, 24, none⟩ (.slice (some ⟨g4, 0, none⟩) (LJ.length + 1) c4)).ownsRow H t W v m xs := fun {H W t v m xs} ho hH => by
   have hne : ∀ i, v.ownBlock = some i → w2.heap.size ≤ i := fun i e => by have := (ho.lt i e).1; omega
   have h5 := (ho.alloc (.cells #[.slice bo n cb] 23)).kept hg4 (by
    cases hv : v.ownBlock with
    | none => exact Or.inl rfl
    | some i => exact Or.inr (fun e => by have := hne i hv; have := hVW i e.symm; omega))
   exact h5.kept hset (by
    cases hv : v.ownBlock with
    | none => exact Or.inl rfl
    | some i => exact Or.inr (fun e => by have := hne i hv; have := Option.some.inj e; omega))
  have SM : (∀ (s : Lst), s.v = .slice a n cap → s.n = n → s.c = cap → Same 7 (w4.setCell ⟨B, 24, none⟩ (.slice (some ⟨g4, 0, none⟩) (LJ.length + 1) c4)) base (kup (kup cz 23 (.slice (some ⟨g1, 0, none⟩) (LJ.length + 1) c1)) (23 + 1) (.slice (some ⟨g4, 0, none⟩) (LJ.length + 1) c4)) s (.slice bo n cb)) := fun s e1 e2 e3 => by
   subst e2 e3
   rw [es]
   exact ⟨a, bo, cb, Z, e1, rfl, HTN.out.kee s2.toKee, ty_own (KO ho3 (Nat.le_refl _)) (fun i hi => by have := ho3.lt i hi; exact FC i this.1 this.2), hzn⟩
  refine ⟨rfl, _, _, s2, fun s e1 e2 e3 hr hap => s3 s e1 hr.ok (s2.toKee.there hr.th hr.fr) hr.n (hr.bl.kee s2.toKee hr.fr) (s2.block s.g hr.bl.lt hr.fr).2 hap (SM s e1 e2 e3), fun e1 e2 => ⟨lsz (.slice a n cap) w2.heap.size, by show _ ≤ w2.heap.size; omega, rfl, ?_⟩⟩
  subst e1 e2
  refine s3 (lsz (.slice a 0 0) w2.heap.size) rfl (lsz_ok _ _ _) (lsz_there _ _ _) (by simp [lsz]) ?_ (FC _ (Nat.le_refl _) (by show w2.heap.size < w3.heap.size; simpa using hs3)) (fun t _ => lsz_apart _ _ _) (SM _ rfl rfl rfl)
  have hb9 : Blk w3 61 w2.heap.size := hbl3 rfl
  rw [ek]
  exact ((hb9.row' (World.grownBy_alloc _ _ none) (by simp)).row' hg4 (fun e => by have := hVW _ e.symm; omega)).row' hset (fun e => by have := Option.some.inj e; omega)
end Go.Proofs.YtnfelndfpmnkmaaGreatDoor
