import Derived.Test.YtedpeggdbedmiaaGreatDoorQ22
import Derived.Test.YtedpeggdbedmiaaGreatDoorQ12
namespace Go.Proofs.YtedpeggdbedmiaaGreatDoor
open Go.RowKit Go.MuLone
structure Tv (w : World) (base : Nat) (cs : Nat → Value) (a : Option Addr) (Z : List (Nat × Nat × List Int)) : Prop where
 row : ∀ j p, Z[j]? = some p → ∃ b, a = some ⟨b, 0, none⟩ ∧ w.cell? ⟨b, j * 2, none⟩ = some (.int .i64 p.1) ∧ w.cell? ⟨b, j * 2 + 1, none⟩ = some (.slice (some ⟨p.2.1, 0, none⟩) 4096 4096) ∧ Tb w base cs (some ⟨p.2.1, 0, none⟩) 4096 4096 p.2.2 ∧ Fre base cs b
theorem Tv.kee {w w' : World} {base : Nat} {cs cs' : Nat → Value} {a : Option Addr} {Z : List (Nat × Nat × List Int)} (h : Tv w base cs a Z) (k : Kee w w' base cs cs') : Tv w' base cs' a Z := by
 refine ⟨fun j p hj => ?_⟩
 obtain ⟨b, h1, h2, h3, h4, h5⟩ := h.row j p hj
 exact ⟨b, h1, k.cell h2 h5, k.cell h3 h5, h4.kee k, (k.block b (World.block_lt_of_cell? w _ h2) h5).2⟩
theorem Tv.wc {w : World} {base : Nat} {cs : Nat → Value} {a : Option Addr} {Z : List (Nat × Nat × List Int)} (h : Tv w base cs a Z) : Wc w a Z := by
 refine ⟨fun j p hj => ?_⟩
 obtain ⟨b, h1, h2, h3, h4, h5⟩ := h.row j p hj
 exact ⟨b, h1, h2, h3, h4.by'⟩
theorem Wc.heap {w w' : World} {a : Option Addr} {Z : List (Nat × Nat × List Int)} (h : Wc w a Z) (e : w'.heap = w.heap) : Wc w' a Z := by
 refine ⟨fun j p hj => ?_⟩
 obtain ⟨b, h1, h2, h3, h4⟩ := h.ats j p hj
 exact ⟨b, h1, (World.cell?_of_block (by rw [e])).trans h2, (World.cell?_of_block (by rw [e])).trans h3, h4.heap e⟩
theorem Wy.far {w0 w w' : World} {Y : List (Nat × Nat × List Int)} {row : Option Nat} (h : Wy w0 w Y) (hg : w.grownBy w' row) (hr : ∀ i, row = some i → i < w0.heap.size) : Wy w0 w' Y :=
 ⟨fun p hp => ⟨(hg.block p.2.1 (h.rw p hp).1.lt (fun e => by have := hr _ e.symm; have := (h.rw p hp).2.1; omega)).trans (h.rw p hp).1, (h.rw p hp).2⟩⟩
theorem tv_own {w0 w3 w : World} {base A n : Nat} {cs : Nat → Value} {Y : List (Nat × Nat × List Int)} (ho : w.ownsRow w0.heap.size 78 2 (.slice (some ⟨A, 0, none⟩) n n) n (wcells Y)) (hy : Wy w0 w Y) (hy3 : Wy w0 w3 Y) (hA : w0.heap.size ≤ A ∧ A < w3.heap.size) (hf : ∀ d, w0.heap.size ≤ d → d < w3.heap.size → Fre base cs d) : Tv w base cs (some ⟨A, 0, none⟩) Y := by
 refine ⟨fun j p hj => ?_⟩
 obtain ⟨q1, q2⟩ := wcells_at Y j p hj
 have hl := ho.1
 rw [wcells_len] at hl
 have hjn : j < n := by have := (List.getElem?_eq_some_iff.1 hj).1; omega
 have hm := List.mem_of_getElem? hj
 obtain ⟨r1, r2, r3⟩ := hy.rw p hm
 have r4 := (hy3.rw p hm).1.lt
 exact ⟨A, rfl, by rw [ho.cellAt (j * 2) (by omega), Nat.mul_comm]; exact q1, by rw [ho.cellAt (j * 2 + 1) (by omega), Nat.mul_comm j 2]; exact q2, ⟨r1.all 4096 4096 r3.symm, fun ad e _ => by obtain rfl := Option.some.inj e; exact hf _ r2 r4⟩, hf A hA.1 hA.2⟩
def SameV (w : World) (base : Nat) (cs : Nat → Value) (s : Lst) (y : Value) : Prop := ∃ ao bo cb, ∃ Z Y : List (Nat × Nat × List Int), s.v = .slice ao s.n s.c ∧ y = .slice bo s.n cb ∧ Tv w base cs ao Z ∧ Tv w base cs bo Y ∧ Z.map ab12 = Y.map ab12 ∧ Z.length = s.n
theorem SameV.kee {w w' : World} {base : Nat} {cs cs' : Nat → Value} (k : Kee w w' base cs cs') : ∀ s y, SameV w base cs s y → SameV w' base cs' s y := by
 rintro s y ⟨ao, bo, cb, Z, Y, h1, h2, h3, h4, h5⟩
 exact ⟨ao, bo, cb, Z, Y, h1, h2, h3.kee k, h4.kee k, h5⟩
theorem kinfo_writesK : (Tryz.prog.info? 54).map (fun i => (i.zero, i.size, i.bytes)) = some (some (.slice none 0 0), 1, 24) := by kernel_rfl
set_option maxHeartbeats 4000000 in
set_option maxRecDepth 100000 in
theorem kst_writes {kd : Nat → Kdk} {Same : Nat → World → Nat → (Nat → Value) → Lst → Value → Prop} (hK : Kds kd Same) {w : World} {B base : Nat} {cs : Nat → Value} {L : Nat → List Lst} {ys : Nat → List Value} (h : Kst kd Same w B base cs L ys) (ek0 : kd 0 = kdB) (es0 : Same 0 = SameB) (ek : kd 9 = kdV) (es : Same 9 = SameV) (a : Option Addr) (n cap : Nat) (Z : List (Nat × Nat × List Int)) (D : List Lst) (hti : Tv w base cs a Z) (hzn : Z.length = n) (hn : n ≤ 5000) (hzs : ∀ p ∈ Z, p.2.2.length = 4096)
  (hDl : D.length = n) (hD : ∀ i, i < n → ∃ b k, a = some ⟨b, 0, none⟩ ∧ D[i]? = some k ∧ w.cell? ⟨b, i * 2 + 1, none⟩ = some k.v)
  (hDo : ∀ s ∈ D, Rdy w base cs 1 5 s) (hDp : D.Pairwise Lst.Apart) (hDa : ∀ t ∈ L 0, ∀ s ∈ D, t.Apart s) (hm : (L 0).length + n ≤ 1000000) (hm6 : (L 9).length ≤ 1000000) :
  Calls Tryz.prog 11 #[.pointer (some ⟨B, 0, none⟩), .slice a n cap] w fun en w' => en = .returned (.tuple #[]) ∧ ∃ cs' YY y, Kfr w w' B base cs cs' ∧ (∀ s : Lst, s.v = .slice a n cap → s.n = n → s.c = cap → Rdy w base cs (kd 9).W (kd 9).et s → (∀ t ∈ lsn L 0 D 9, t.Apart s) → Kst kd Same w' B base cs' (lsn (lsn L 0 D) 9 [s]) (ysn YY 9 [y])) ∧ (n = 0 → cap = 0 → ∃ s, w.heap.size ≤ s.g ∧ s.C = 0 ∧ Kst kd Same w' B base cs' (lsn (lsn L 0 D) 9 [s]) (ysn YY 9 [y])) := by
 obtain ⟨i0, hi, hz0, hz1, hz2⟩ := info_parts kinfo_writesK
 have S0 : Hid (∃ cz YY, Kst kd Same w B base cz (lsn L 0 (D.take 0)) YY ∧ Kfr w w B base cs cz) := ⟨cs, ys, by rw [List.take_zero, lsn_nil]; exact h, Kfr.of ((Qt.refl _).grown none)⟩
 have HD := hid_intro hD
 have HDO := hid_intro hDo
 have HTL0 := hid_intro hti
 have AP : Hid (∀ j k, D[j]? = some k → ∀ t ∈ lsn L 0 (D.take j) 0, t.Apart k) := fun j k hk t ht => by
  rw [lsn_same] at ht
  rcases List.mem_append.1 ht with h | h
  ·exact hDa t h k (List.mem_of_getElem? hk)
  ·obtain ⟨i, hi⟩ := List.mem_iff_getElem?.1 h
   have hil := (List.getElem?_eq_some_iff.1 hi).1
   rw [List.length_take] at hil
   rw [List.getElem?_take, if_pos (by omega)] at hi
   exact ls_pair hDp hi hk (by omega)
 clear h hti hD hDo hDp hDa
 go_enter Tryz.func11, Tryz.ntmps11
 go_wp2
 go_loopw [4] (fun si wr => ∃ i : Nat, i ≤ n ∧ si = .int .i64 i ∧ ∃ cz YY, Kst kd Same wr B base cz (lsn L 0 (D.take i)) YY ∧ Kfr w wr B base cs cz) (fun si _ => n - (intOf si).toNat)
 case atStart => exact ⟨0, Nat.zero_le _, rfl, S0.out⟩
 case round =>
  obtain ⟨i, hi', rfl, cz, YY, hT, hkf⟩ := hrel
  have HT := hid_intro hT
  have HKF := hid_intro hkf
  clear hT hkf S0
  by_cases hlt : i < n
  ·obtain ⟨b, k, rfl, hk, ck⟩ := HD.out i hlt
   obtain ⟨p, hp⟩ : ∃ p, Z[i]? = some p := ⟨_, List.getElem?_eq_getElem (by omega)⟩
   obtain ⟨b', e, q1, q2, q6, q12⟩ := HTL0.out.row i p hp
   simp only [Option.some.injEq, Addr.mk.injEq, and_true] at e
   subst e
   have hkr := HDO.out k (List.mem_of_getElem? hk)
   obtain ⟨ak, ekv, _⟩ := hkr.ok.val
   have ck2 := ck
   rw [q2] at ck2
   have e1 := Option.some.inj ck2
   rw [ekv] at e1
   simp only [Value.slice.injEq] at e1
   obtain ⟨e1, e2, e3⟩ := e1
   subst e1
   rw [← e2, ← e3] at ekv
   have c2 := HKF.out.toKee.cell q2 q12
   have HQ6 := hid_intro (q6.kee HKF.out.toKee)
   have HKR := hid_intro (hkr.kee HKF.out.toKee)
   have HEK := hid_intro ekv
   have HK := hid_intro hk
   have g0 : (0 : Int) ≤ (i : Int) := by omega
   have g1 : (i : Int) < (n : Int) := by omega
   have hLk : (lsn L 0 (D.take i) 0).length ≤ 1000000 := by rw [lsn_same, List.length_append, List.length_take]; omega
   have E2 := hid_intro (And.intro e2 e3)
   clear ck ck2 q1 q2 q6 q12 hkr hk ekv e2 e3 hp
   go_wp2_with fail
   refine (kst_bytes hK HT.out ek0 es0 (some ⟨p.2.1, 0, none⟩) 4096 4096 _ HQ6.out (by omega) hLk).mono ?_
   rintro en w1 ⟨rfl, cz1, y1, k1, k2, _⟩
   have HT1 := hid_intro (k2 k HEK.out E2.out.1.symm E2.out.2.symm (by rw [ek0]; exact HKR.out) (AP.out _ k HK.out))
   have HKF1 := hid_intro (HKF.out.trans k1)
   have etk : D.take (i + 1) = D.take i ++ [k] := by
    rw [List.take_add_one, HK.out]; rfl
   rw [lsn_lsn, ← etk] at HT1
   clear k1 k2 etk HT HKF HQ6 HKR c2
   go_wp2
   go_roundw
   case rel => exact ⟨i + 1, by omega, by go_num, _, _, HT1.out, HKF1.out⟩
   case measure => simp [intOf]; omega
  ·have hin : n = i := by omega
   subst hin
   have etl : D.take n = D := List.take_of_length_le (by omega)
   rw [etl] at HT
   clear etl
   have HTL := hid_intro (HTL0.out.kee HKF.out.toKee)
   have hmj : (lsn L 0 D 9).length ≤ 1000000 := by rw [lsn_far _ _ (by omega)]; exact hm6
   have HX := hid_intro HT.out.t.box
   have HOB : Hid (wr.ownsRow base 54 1 (cz 29) (lsn L 0 D 9).length ((lsn L 0 D 9).map Lst.v)) := by have := (HT.out.k 9 (by omega)).ob; rw [ek] at this; exact this
   have HOW : Hid (wr.ownsRow base 54 1 (cz 30) (lsn L 0 D 9).length (YY 9)) := by have := (HT.out.k 9 (by omega)).ow; rw [ek] at this; exact this
   have hB1 := HT.out.t.notB 29 (by omega)
   have hB2 := HT.out.t.notB 30 (by omega)
   have hbase := HT.out.t.bB.2
   have hBb := HT.out.t.bB.1
   have hbw : ∀ i, (cz 29).ownBlock = some i → (cz 30).ownBlock ≠ some i := HT.out.t.un 29 30 (by omega) (by omega) (by omega)
   have HBW := hid_intro hbw
   have k2 := HX.out.cell 29 (by omega)
   obtain ⟨LJ, hLJ⟩ : ∃ LJ, LJ = lsn L 0 D 9 := ⟨_, rfl⟩
   obtain ⟨YJ, hYJ⟩ : ∃ YJ, YJ = YY 9 := ⟨_, rfl⟩
   rw [← hLJ] at HOB HOW hmj
   rw [← hYJ] at HOW
   have ELJ := hid_intro hLJ
   have EYJ := hid_intro hYJ
   clear hLJ hYJ
   go_wp2_with (at_builtin; refine wpList_append_lies _ rfl _ _ 34 rfl base 54 i0 (.slice none 0 0) 1 24 Tryz.underlying34 hi hz0 hz1 hz2 rfl (by decide) (cz 29) LJ.length (LJ.map Lst.v) rfl (HOB.out.alloc _) ⟨wr.heap.size, 0, none⟩ 1 1 [.slice a n cap] rfl rfl (cell_one_new _ _ _) (by intro u hu; simp at hu; subst hu; rfl) (by omega) (by unfold maxLen; omega) (by omega) (by simp; omega) (wr.heap.size + 1) (by simp) ?_)
   intro g1 c1 w1 hown1 hg1 hat1 hlt1
   have X1 : Hid (Kbx w1 B cz) := (HX.out.kept (World.grownBy_alloc _ _ none) (by simp)).kept hg1 (Ne.symm hB1)
   have X2 : Hid (Kbx (w1.setCell ⟨B, 29, none⟩ (.slice (some ⟨g1, 0, none⟩) (LJ.length + 1) c1)) B (kup cz 29 (.slice (some ⟨g1, 0, none⟩) (LJ.length + 1) c1))) := X1.out.set 29 (by omega) _
   have k2' := X1.out.cell 29 (by omega)
   have f2' := X1.out.fz 29 (by omega)
   have k3' : (w1.setCell ⟨B, 29, none⟩ (.slice (some ⟨g1, 0, none⟩) (LJ.length + 1) c1)).cell? ⟨B, 30, none⟩ = some (cz 30) := (X2.out.cell 30 (by omega)).trans (by rw [kup_far _ _ (by omega)])
   have f3' := X2.out.fz 30 (by omega)
   have H1 := hid_intro hown1
   have HG1 := hid_intro hg1
   clear hown1 hg1
   go_wp2
   obtain ⟨w2, hw2⟩ : ∃ w2, w2 = w1.setCell ⟨B, 29, none⟩ (.slice (some ⟨g1, 0, none⟩) (LJ.length + 1) c1) := ⟨_, rfl⟩
   rw [← hw2] at X2 k3' f3' ⊢
   have HW2 := hid_intro hw2
   clear hw2
   have hs12 : w2.heap.size = w1.heap.size := by rw [HW2.out]; simp
   have hs01 : wr.heap.size < w1.heap.size := by have := HG1.out.size; simp at this; omega
   have hgw2 : w1.grownBy w2 (some B) := by rw [HW2.out]; exact kset_grown _ _ _ _
   have KF2 : Hid (Kee wr w2 base cz cz) := ⟨by omega, fun d hd hf => ⟨(hgw2.block d (by omega) (fun e => by have := hf.1; have := Option.some.inj e; omega)).trans ((HG1.out.block d (by simp; omega) (fun e => hf.2 29 (by omega) e.symm)).trans ((World.grownBy_alloc wr _ none).block d hd (by simp))), hf⟩⟩
   have Y2 : Hid (∀ w' : World, w'.heap = w2.heap → Wc w' a Z) := fun w' e => (HTL.out.kee KF2.out).wc.heap e
   have O2 : Hid (w2.ownsRow base 54 1 (cz 30) LJ.length YJ) :=
    (((HOW.out.alloc _).kept HG1.out (by
     cases hvw : (cz 30).ownBlock with
     | none => exact Or.inl rfl
     | some i => exact Or.inr (fun e => hbw i e.symm hvw))).kept hgw2 (Or.inr hB2))
   have P2 : Hid (w2.ownsRow base 54 1 (.slice (some ⟨g1, 0, none⟩) (LJ.length + 1) c1) (LJ.length + 1) (LJ.map Lst.v ++ [.slice a n cap])) :=
    H1.out.kept hgw2 (Or.inr (fun e => by
     have e' : g1 = B := Option.some.inj e
     have := HX.out.lt
     rcases hat1 with h | h
     ·exact hB1 (by rw [h, e'])
     ·omega))
   have HGW2 := hid_intro hgw2
   clear hgw2
   have HS12 := hid_intro hs12
   have hb2 : base ≤ w2.heap.size := by omega
   have HVW := hid_intro (fun i e => (HOW.out.lt i e).2 : ∀ i, (cz 30).ownBlock = some i → i < wr.heap.size)
   clear hs12
   generalize hvw : cz 30 = vw at *
   go_region_law
    ((first
     | (go_simp; go_at_call 28; refine (refWrites_own a n cap Z _ (by exact Y2.out _ rfl) hzn hzs (by omega)).mono ?_; rintro en w3 ⟨Y3, rfl, hq3, hwy3, hm3, hg3⟩; have kk3 : w3.cell? ⟨B, 30, none⟩ = some vw := hg3.cell (by simpa using k3') (by simp); have nn3 := World.new_ne w3 ⟨B, 30, none⟩ kk3; have kk3o : ∀ o : Obj, (w3.alloc o).cell? ⟨B, 30, none⟩ = some vw := (fun o => by rw [World.cell?_alloc_lt _ _ _ (World.block_lt_of_cell? _ _ kk3)]; exact kk3); have ff3 : w3.frozen? ⟨B, 30, none⟩ = false := (hg3.frozen_far ⟨B, 30, none⟩ (by simpa using World.block_lt_of_cell? _ _ k3') (by simp)).trans (by simpa using f3'))
     | (refine step_append_lies _ (by rfl) _ _ _ (by rfl) base 54 i0 (.slice none 0 0) 1 24 Tryz.underlying34 hi hz0 hz1 hz2 (by rfl) (by decide) vw LJ.length YJ (by rfl) (by exact ((O2.out.kept ((Qt.refl w2).drew.grown none) (by cases vw.ownBlock <;> simp)).kept hg3 (by cases vw.ownBlock <;> simp)).alloc _) ⟨w3.heap.size, 0, none⟩ 1 1 [.slice (some ⟨w2.heap.size, 0, none⟩) n n] (by rfl) (by rfl) (by exact cell_one_new _ _ _) (by intro u hu; simp at hu; subst hu; rfl) (by omega) (by unfold maxLen; omega) (by omega) (by have h9 := hg3.size; simp at h9; simp; omega) (w3.heap.size + 1) (by simp) ?_; intro g4 c4 w4 hown4 hg4 hat4 hlt4; have kk4 : w4.cell? ⟨B, 30, none⟩ = some vw := hg4.cell (by rw [World.cell?_alloc_lt _ _ _ (World.block_lt_of_cell? _ _ kk3)]; exact kk3) (Ne.symm hB2); have ff4 : w4.frozen? ⟨B, 30, none⟩ = false := (hg4.frozen_far ⟨B, 30, none⟩ (by have := World.block_lt_of_cell? _ _ kk3; simp at this ⊢; omega) (Ne.symm hB2)).trans ((World.frozen?_of_block ((World.grownBy_alloc w3 _ none).block B (World.block_lt_of_cell? _ _ kk3) (by simp))).trans ff3))))
   all_goals
    refine Go.Great.bodyPost_end0 rfl rfl ?_
    subst hvw
    have hs3' : w2.heap.size ≤ w3.heap.size := by have := hg3.size; simpa using this
    have hset := kset_grown w4 B 30 (.slice (some ⟨g4, 0, none⟩) (LJ.length + 1) c4)
    have hKP := Kpk.make (q := 29) (by omega) HX.out.lt HOW.out hB1 hB2 HBW.out HG1.out hat1 hlt1 HGW2.out HS12.out X2.out P2.out hg3 hs3' hown4 hg4 hat4
    have hBl := HX.out.lt
    have hS := HS12.out
    have hVW := HVW.out
    have hKP' : Kpk (kd 9).lt 29 wr (w4.setCell ⟨B, 30, none⟩ (.slice (some ⟨g4, 0, none⟩) (LJ.length + 1) c4)) B cz base (lsn L 0 D 9).length ((lsn L 0 D 9).map Lst.v) (YY 9) (.slice a n cap) (.slice (some ⟨w2.heap.size, 0, none⟩) n n) (.slice (some ⟨g1, 0, none⟩) (LJ.length + 1) c1) (.slice (some ⟨g4, 0, none⟩) (LJ.length + 1) c4) := by rw [← ELJ.out, ← EYJ.out, ek]; exact hKP
    obtain ⟨s1, s2, s3⟩ := HT.out.snoc hK 9 29 (by omega) (by rw [ek]; rfl) hKP'
    have hg4l : g4 < w2.heap.size ∨ w3.heap.size ≤ g4 := by
     rcases hat4 with h | h
     ·exact Or.inl (by have := hVW g4 h; omega)
     ·exact Or.inr (by omega)
    have FC : ∀ b, w2.heap.size ≤ b → b < w3.heap.size → Fre base (kup (kup cz 29 (.slice (some ⟨g1, 0, none⟩) (LJ.length + 1) c1)) (29 + 1) (.slice (some ⟨g4, 0, none⟩) (LJ.length + 1) c4)) b := fun b h1 h2 => fre_copy HT.out.t (lo := w2.heap.size) (hi := w3.heap.size) (by omega) (by omega) hg4l h1 h2
    have KO : ∀ {H W : Nat} {t : TypeId} {v : Value} {m : Nat} {xs : List Value}, w3.ownsRow H t W v m xs → w2.heap.size ≤ H → (w4.setCell ⟨B, 30, none⟩ (.slice (some ⟨g4, 0, none⟩) (LJ.length + 1) c4)).ownsRow H t W v m xs := fun {H W t v m xs} ho hH => by
     have hne : ∀ i, v.ownBlock = some i → w2.heap.size ≤ i := fun i e => by have := (ho.lt i e).1; omega
     have h5 := (ho.alloc (.cells #[.slice (some ⟨w2.heap.size, 0, none⟩) n n] 54)).kept hg4 (by
      cases hv : v.ownBlock with
      | none => exact Or.inl rfl
      | some i => exact Or.inr (fun e => by have := hne i hv; have := hVW i e.symm; omega))
     exact h5.kept hset (by
      cases hv : v.ownBlock with
      | none => exact Or.inl rfl
      | some i => exact Or.inr (fun e => by have := hne i hv; have := Option.some.inj e; omega))
    have hq6 := KO (H := w2.drew.heap.size) hq3 (Nat.le_refl w2.heap.size)
    have hwy4 := hwy3.keptN (World.grownBy_alloc w3 (.cells #[.slice (some ⟨w2.heap.size, 0, none⟩) n n] 54) none)
    have hwy5 := hwy4.far hg4 (fun i hv => by have := hVW i hv; show i < w2.heap.size; omega)
    have hwy6 := hwy5.far hset (fun i e => by have := Option.some.inj e; show i < w2.heap.size; omega)
    have hA3 := hq3.lt w2.heap.size rfl
    have SM : (∀ (s : Lst), s.v = .slice a n cap → s.n = n → s.c = cap → Same 9 (w4.setCell ⟨B, 30, none⟩ (.slice (some ⟨g4, 0, none⟩) (LJ.length + 1) c4)) base (kup (kup cz 29 (.slice (some ⟨g1, 0, none⟩) (LJ.length + 1) c1)) (29 + 1) (.slice (some ⟨g4, 0, none⟩) (LJ.length + 1) c4)) s (.slice (some ⟨w2.heap.size, 0, none⟩) n n)) := fun s e1 e2 e3 => by
     subst e2 e3
     rw [es]
     exact ⟨a, some ⟨w2.heap.size, 0, none⟩, _, Z, Y3, e1, rfl, HTL.out.kee s2.toKee, tv_own hq6 hwy6 hwy3 ⟨Nat.le_refl _, hA3.2⟩ (fun d h1 h2 => FC d h1 h2), hm3.symm, hzn⟩
    refine ⟨rfl, _, YY, .slice (some ⟨w2.heap.size, 0, none⟩) n n, HKF.out.trans s2, fun s e1 e2 e3 hr hap => ?_, fun e1 e2 => ⟨lsz (.slice a n cap) w2.heap.size, by have := HKF.out.size; show _ ≤ w2.heap.size; omega, rfl, ?_⟩⟩
    ·have hr' := hr.kee HKF.out.toKee
     exact s3 s e1 hr'.ok (s2.toKee.there hr'.th hr'.fr) hr'.n (hr'.bl.kee s2.toKee hr'.fr) (s2.block s.g hr'.bl.lt hr'.fr).2 hap (SM s e1 e2 e3)
    ·have hbA := blk_own hq6 w2.heap.size rfl
     have hsm := SM (lsz (.slice a n cap) w2.heap.size) rfl (by rw [e1]; rfl) (by rw [e2]; rfl)
     subst e1 e2
     refine s3 (lsz (.slice a 0 0) w2.heap.size) rfl (lsz_ok _ _ _) (lsz_there _ _ _) (by simp [lsz]) ?_ (FC _ (Nat.le_refl _) hA3.2) (fun t _ => lsz_apart _ _ _) hsm
     rw [ek]
     exact hbA
end Go.Proofs.YtedpeggdbedmiaaGreatDoor
