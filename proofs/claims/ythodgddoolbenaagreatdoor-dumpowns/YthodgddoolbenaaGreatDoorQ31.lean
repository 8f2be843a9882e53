import Derived.Test.YthodgddoolbenaaGreatDoorQ30
import Derived.Deep.RegionLaw
namespace Go.Proofs.YthodgddoolbenaaGreatDoor
open Go.RowKit
theorem kinfo_bytesK : (Tryz.prog.info? 49).map (fun i => (i.zero, i.size, i.bytes)) = some (some (.slice none 0 0), 1, 24) := by kernel_rfl
set_option maxHeartbeats 4000000 in
set_option maxRecDepth 100000 in
theorem kst_bytes {kd : Nat → Kdk} {Same : Nat → World → Nat → (Nat → Value) → Lst → Value → Prop} (hK : Kds kd Same) {wr : World} {B base : Nat} {cz : Nat → Value} {LL : Nat → List Lst} {YY : Nat → List Value} (h : Kst kd Same wr B base cz LL YY) (ek : kd 0 = kdB) (es : Same 0 = SameB) (a : Option Addr) (n cap : Nat) (zs : List Int) (htn : Tb wr base cz a n cap zs) (hn : n ≤ 1099511620000) (hm : (LL 0).length ≤ 1000000) :
  Calls Tryz.prog 13 #[.pointer (some ⟨B, 0, none⟩), .slice a n cap] wr fun en w' => en = .returned (.tuple #[]) ∧ ∃ cs' y, Kfr wr w' B base cz cs' ∧ (∀ s : Lst, s.v = .slice a n cap → s.n = n → s.c = cap → Rdy wr base cz (kd 0).W (kd 0).et s → (∀ t ∈ LL 0, t.Apart s) → Kst kd Same w' B base cs' (lsn LL 0 [s]) (ysn YY 0 [y])) ∧ (n = 0 → cap = 0 → ∃ s, wr.heap.size ≤ s.g ∧ s.C = 0 ∧ Kst kd Same w' B base cs' (lsn LL 0 [s]) (ysn YY 0 [y])) := by
 obtain ⟨i0, hi, hz0, hz1, hz2⟩ := info_parts kinfo_bytesK
 have HT := hid_intro h
 have HTN := hid_intro htn
 have hmj := hm
 clear h htn hm
 go_enter Tryz.func13, Tryz.ntmps13
 have HX := hid_intro HT.out.t.box
 have HOB : Hid (wr.ownsRow base 49 1 (cz 2) (LL 0).length ((LL 0).map Lst.v)) := by have := (HT.out.k 0 (by omega)).ob; rw [ek] at this; exact this
 have HOW : Hid (wr.ownsRow base 49 1 (cz 3) (LL 0).length (YY 0)) := by have := (HT.out.k 0 (by omega)).ow; rw [ek] at this; exact this
 have hB1 := HT.out.t.notB 2 (by omega)
 have hB2 := HT.out.t.notB 3 (by omega)
 have hbase := HT.out.t.bB.2
 have hBb := HT.out.t.bB.1
 have hbw : ∀ i, (cz 2).ownBlock = some i → (cz 3).ownBlock ≠ some i := HT.out.t.un 2 3 (by omega) (by omega) (by omega)
 have HBW := hid_intro hbw
 have k2 := HX.out.cell 2 (by omega)
 obtain ⟨LJ, hLJ⟩ : ∃ LJ, LJ = LL 0 := ⟨_, rfl⟩
 obtain ⟨YJ, hYJ⟩ : ∃ YJ, YJ = YY 0 := ⟨_, rfl⟩
 rw [← hLJ] at HOB HOW hmj
 rw [← hYJ] at HOW
 have ELJ := hid_intro hLJ
 have EYJ := hid_intro hYJ
 clear hLJ hYJ
 go_wp2_with (at_builtin; refine wpList_append_lies _ rfl _ _ 28 rfl base 49 i0 (.slice none 0 0) 1 24 Tryz.underlying28 hi hz0 hz1 hz2 rfl (by decide) (cz 2) LJ.length (LJ.map Lst.v) rfl (HOB.out.alloc _) ⟨wr.heap.size, 0, none⟩ 1 1 [.slice a n cap] rfl rfl (cell_one_new _ _ _) (by intro u hu; simp at hu; subst hu; rfl) (by omega) (by unfold maxLen; omega) (by omega) (by simp; omega) (wr.heap.size + 1) (by simp) ?_)
 intro g1 c1 w1 hown1 hg1 hat1 hlt1
 have X1 : Hid (Kbx w1 B cz) := (HX.out.kept (World.grownBy_alloc _ _ none) (by simp)).kept hg1 (Ne.symm hB1)
 have X2 : Hid (Kbx (w1.setCell ⟨B, 2, none⟩ (.slice (some ⟨g1, 0, none⟩) (LJ.length + 1) c1)) B (kup cz 2 (.slice (some ⟨g1, 0, none⟩) (LJ.length + 1) c1))) := X1.out.set 2 (by omega) _
 have k2' := X1.out.cell 2 (by omega)
 have f2' := X1.out.fz 2 (by omega)
 have k3' : (w1.setCell ⟨B, 2, none⟩ (.slice (some ⟨g1, 0, none⟩) (LJ.length + 1) c1)).cell? ⟨B, 3, none⟩ = some (cz 3) := (X2.out.cell 3 (by omega)).trans (by rw [kup_far _ _ (by omega)])
 have f3' := X2.out.fz 3 (by omega)
 have H1 := hid_intro hown1
 have HG1 := hid_intro hg1
 clear hown1 hg1
 go_wp2
 obtain ⟨w2, hw2⟩ : ∃ w2, w2 = w1.setCell ⟨B, 2, none⟩ (.slice (some ⟨g1, 0, none⟩) (LJ.length + 1) c1) := ⟨_, rfl⟩
 rw [← hw2] at X2 k3' f3' ⊢
 have HW2 := hid_intro hw2
 clear hw2
 have hs12 : w2.heap.size = w1.heap.size := by rw [HW2.out]; simp
 have hs01 : wr.heap.size < w1.heap.size := by have := HG1.out.size; simp at this; omega
 have hgw2 : w1.grownBy w2 (some B) := by rw [HW2.out]; exact kset_grown _ _ _ _
 have KF2 : Hid (Kee wr w2 base cz cz) := ⟨by omega, fun d hd hf => ⟨(hgw2.block d (by omega) (fun e => by have := hf.1; have := Option.some.inj e; omega)).trans ((HG1.out.block d (by simp; omega) (fun e => hf.2 2 (by omega) e.symm)).trans ((World.grownBy_alloc wr _ none).block d hd (by simp))), hf⟩⟩
 have Y2 : Hid (∀ w' : World, w'.heap = w2.heap → Byt w' a n cap zs) := fun w' e => (HTN.out.kee KF2.out).by'.heap e
 have O2 : Hid (w2.ownsRow base 49 1 (cz 3) LJ.length YJ) :=
  (((HOW.out.alloc _).kept HG1.out (by
   cases hvw : (cz 3).ownBlock with
   | none => exact Or.inl rfl
   | some i => exact Or.inr (fun e => hbw i e.symm hvw))).kept hgw2 (Or.inr hB2))
 have P2 : Hid (w2.ownsRow base 49 1 (.slice (some ⟨g1, 0, none⟩) (LJ.length + 1) c1) (LJ.length + 1) (LJ.map Lst.v ++ [.slice a n cap])) :=
  H1.out.kept hgw2 (Or.inr (fun e => by
   have e' : g1 = B := Option.some.inj e
   have := HX.out.lt
   rcases hat1 with h | h
   ·exact hB1 (by rw [h, e'])
   ·omega))
 have HGW2 := hid_intro hgw2
 clear hgw2
 have HS12 := hid_intro hs12
 have hb2 : base ≤ w2.heap.size := by omega
 have HVW := hid_intro (fun i e => (HOW.out.lt i e).2 : ∀ i, (cz 3).ownBlock = some i → i < wr.heap.size)
 clear hs12
 generalize hvw : cz 3 = vw at *
 go_region_law
  ((first
   | (go_simp; go_at_call 25; refine (refBytes_any a n cap zs _ (by exact Y2.out _ rfl) (by omega)).mono ?_; rintro en w3 ⟨rfl, ho3, hg3, hs3⟩; have kk3 : w3.cell? ⟨B, 3, none⟩ = some vw := hg3.cell (by simpa using k3') (by simp); have nn3 := World.new_ne w3 ⟨B, 3, none⟩ kk3; have kk3o : ∀ o : Obj, (w3.alloc o).cell? ⟨B, 3, none⟩ = some vw := (fun o => by rw [World.cell?_alloc_lt _ _ _ (World.block_lt_of_cell? _ _ kk3)]; exact kk3); have ff3 : w3.frozen? ⟨B, 3, none⟩ = false := (hg3.frozen_far ⟨B, 3, none⟩ (by simpa using World.block_lt_of_cell? _ _ k3') (by simp)).trans (by simpa using f3'))
   | (refine step_append_lies _ (by rfl) _ _ _ (by rfl) base 49 i0 (.slice none 0 0) 1 24 Tryz.underlying28 hi hz0 hz1 hz2 (by rfl) (by decide) vw LJ.length YJ (by rfl) (by exact ((O2.out.kept ((Qt.refl w2).drew.grown none) (by cases vw.ownBlock <;> simp)).kept hg3 (by cases vw.ownBlock <;> simp)).alloc _) ⟨w3.heap.size, 0, none⟩ 1 1 [.slice (some ⟨w2.heap.size, 0, none⟩) n n] (by rfl) (by rfl) (by exact cell_one_new _ _ _) (by intro u hu; simp at hu; subst hu; rfl) (by omega) (by unfold maxLen; omega) (by omega) (by have h9 := hg3.size; simp at h9; simp; omega) (w3.heap.size + 1) (by simp) ?_; intro g4 c4 w4 hown4 hg4 hat4 hlt4; have kk4 : w4.cell? ⟨B, 3, none⟩ = some vw := hg4.cell (by rw [World.cell?_alloc_lt _ _ _ (World.block_lt_of_cell? _ _ kk3)]; exact kk3) (Ne.symm hB2); have ff4 : w4.frozen? ⟨B, 3, none⟩ = false := (hg4.frozen_far ⟨B, 3, none⟩ (by have := World.block_lt_of_cell? _ _ kk3; simp at this ⊢; omega) (Ne.symm hB2)).trans ((World.frozen?_of_block ((World.grownBy_alloc w3 _ none).block B (World.block_lt_of_cell? _ _ kk3) (by simp))).trans ff3))))
 all_goals
  refine Go.Great.bodyPost_end0 rfl rfl ?_
  subst hvw
  have hs3' : w2.heap.size ≤ w3.heap.size := by have := hg3.size; simpa using this
  have hset := kset_grown w4 B 3 (.slice (some ⟨g4, 0, none⟩) (LJ.length + 1) c4)
  have hKP := Kpk.make (q := 2) (by omega) HX.out.lt HOW.out hB1 hB2 HBW.out HG1.out hat1 hlt1 HGW2.out HS12.out X2.out P2.out hg3 hs3' hown4 hg4 hat4
  have hBl := HX.out.lt
  have hS := HS12.out
  have hVW := HVW.out
  have hKP' : Kpk (kd 0).lt 2 wr (w4.setCell ⟨B, 3, none⟩ (.slice (some ⟨g4, 0, none⟩) (LJ.length + 1) c4)) B cz base (LL 0).length ((LL 0).map Lst.v) (YY 0) (.slice a n cap) (.slice (some ⟨w2.heap.size, 0, none⟩) n n) (.slice (some ⟨g1, 0, none⟩) (LJ.length + 1) c1) (.slice (some ⟨g4, 0, none⟩) (LJ.length + 1) c4) := by rw [← ELJ.out, ← EYJ.out, ek]; exact hKP
  obtain ⟨s1, s2, s3⟩ := HT.out.snoc hK 0 2 (by omega) (by rw [ek]; rfl) hKP'
  have hg4l : g4 < w2.heap.size ∨ w3.heap.size ≤ g4 := by
   rcases hat4 with h | h
   ·exact Or.inl (by have := hVW g4 h; omega)
   ·exact Or.inr (by omega)
  have FC : ∀ b, w2.heap.size ≤ b → b < w3.heap.size → Fre base (kup (kup cz 2 (.slice (some ⟨g1, 0, none⟩) (LJ.length + 1) c1)) (2 + 1) (.slice (some ⟨g4, 0, none⟩) (LJ.length + 1) c4)) b := fun b h1 h2 => fre_copy HT.out.t (lo := w2.heap.size) (hi := w3.heap.size) (by omega) (by omega) hg4l h1 h2
  have KO : ∀ {H W : Nat} {t : TypeId} {v : Value} {m : Nat} {xs : List Value}, w3.ownsRow H t W v m xs → w2.heap.size ≤ H → (w4.setCell ⟨B, 3, none⟩ (.slice (some ⟨g4, 0, none⟩) (LJ.length + 1) c4)).ownsRow H t W v m xs := fun {H W t v m xs} ho hH => by
   have hne : ∀ i, v.ownBlock = some i → w2.heap.size ≤ i := fun i e => by have := (ho.lt i e).1; omega
   have h5 := (ho.alloc (.cells #[.slice (some ⟨w2.heap.size, 0, none⟩) n n] 49)).kept hg4 (by
    cases hv : v.ownBlock with
    | none => exact Or.inl rfl
    | some i => exact Or.inr (fun e => by have := hne i hv; have := hVW i e.symm; omega))
   exact h5.kept hset (by
    cases hv : v.ownBlock with
    | none => exact Or.inl rfl
    | some i => exact Or.inr (fun e => by have := hne i hv; have := Option.some.inj e; omega))
  have SM : (∀ (s : Lst), s.v = .slice a n cap → s.n = n → s.c = cap → Same 0 (w4.setCell ⟨B, 3, none⟩ (.slice (some ⟨g4, 0, none⟩) (LJ.length + 1) c4)) base (kup (kup cz 2 (.slice (some ⟨g1, 0, none⟩) (LJ.length + 1) c1)) (2 + 1) (.slice (some ⟨g4, 0, none⟩) (LJ.length + 1) c4)) s (.slice (some ⟨w2.heap.size, 0, none⟩) n n)) := fun s e1 e2 e3 => by
   subst e2 e3
   rw [es]
   exact ⟨a, _, _, zs, e1, rfl, HTN.out.kee s2.toKee, ⟨Byt.of_owns (KO ho3 (Nat.le_refl _)), fun ad e _ => by obtain rfl := Option.some.inj e; have := ho3.lt _ rfl; exact FC _ this.1 this.2⟩⟩
  refine ⟨rfl, _, _, s2, fun s e1 e2 e3 hr hap => s3 s e1 hr.ok (s2.toKee.there hr.th hr.fr) hr.n (hr.bl.kee s2.toKee hr.fr) (s2.block s.g hr.bl.lt hr.fr).2 hap (SM s e1 e2 e3), fun e1 e2 => ⟨lsz (.slice a n cap) w2.heap.size, by show _ ≤ w2.heap.size; omega, rfl, ?_⟩⟩
  subst e1 e2
  refine s3 (lsz (.slice a 0 0) w2.heap.size) rfl (lsz_ok _ _ _) (lsz_there _ _ _) (by simp [lsz]) ?_ (FC _ (Nat.le_refl _) (by show w2.heap.size < w3.heap.size; simpa using hs3)) (fun t _ => lsz_apart _ _ _) (SM _ rfl rfl rfl)
  have hb9 : Blk w3 5 w2.heap.size := blk_own ho3 _ rfl
  rw [ek]
  exact ((hb9.row' (World.grownBy_alloc _ _ none) (by simp)).row' hg4 (fun e => by have := hVW _ e.symm; omega)).row' hset (fun e => by have := Option.some.inj e; omega)
end Go.Proofs.YthodgddoolbenaaGreatDoor
