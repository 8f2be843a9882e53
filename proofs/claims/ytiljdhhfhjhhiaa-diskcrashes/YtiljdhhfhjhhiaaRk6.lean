import Derived.Test.YtiljdhhfhjhhiaaRk5
namespace Go.Proofs.Ytiljdhhfhjhhiaa
open Go.RowKit Go.MuLone

set_option maxHeartbeats 8000000 in
set_option maxRecDepth 8000 in
theorem rcrash_b {w : World} {B : Nat} {F : Nat → Prop} {d : Dd} (hk : Rk w B F d) (ao : Option Addr) (fn fc : Nat) (fs : List (Int × Int)) (hF : Fl w ao fs) (hfl : fs.length = fn) (hfz : ∀ b off, ao = some ⟨b, off, none⟩ → 0 < fn → ¬ F b) (hd : d.done < 1099511627776) :
    Calls Try.prog 56 #[.pointer (some ⟨B, 0, none⟩), .slice ao fn fc] w fun e w' => e = .returned (.tuple #[]) ∧ ∃ v bl, Rk w' B (Nf F w w') (d.crash v bl) ∧ Kp w w' F ∧ bl.map (·.2) = landF (d.bl.map (·.2)) (d.pl.zip fs) := by
  have hpl : d.pl.length < 1099511627776 := Nat.lt_of_le_of_lt hk.dm.pc hd
  have HK := hid_intro hk
  have HF := hid_intro hF
  have HZ := hid_intro hfz
  clear hk hF hfz
  go_enter Try.func56, Try.ntmps56
  go_wp2_with fail
  go_loopg [4] d.pl.length (fun g si wr => ∃ (k : Nat) (v : Value) (bl : List (Nat × List Int)), g = d.pl.length - k ∧ k ≤ d.pl.length ∧ k ≤ fn ∧ si = .int .i64 (k : Int) ∧ Rx wr B { d with vL := v, bl := bl } ∧ Rm wr (Nf F w wr) { d with vL := v, bl := bl } ∧ Kp w wr F ∧ bl.map (·.2) = landF (d.bl.map (·.2)) ((d.pl.zip fs).take k))
  case atStart =>
    exact ⟨0, d.vL, d.bl, rfl, Nat.zero_le _, Nat.zero_le _, rfl, HK.out.bx, HK.out.dm.wide (fun k hk => .inl hk) (fun k hk => hk.elim (HK.out.dm.low k) (fun x => x.2)), Kp.refl _ _, rfl⟩
  case round =>
    obtain ⟨k, v, bl, hgk, hkl, hkf, rfl, hb, hm, hkp, hmap⟩ := hrel
    have hblen : bl.length ≤ pgs d.bl.length d.pl := by
      have := congrArg List.length hmap
      rw [List.length_map] at this
      rw [this]
      have h := landF_len (d.bl.map (·.2)) d.pl fs k
      rw [List.length_map] at h
      exact h
    have hbl2 : bl.length < 524288 := by
      have h2 := HK.out.le
      have h3 := HK.out.cap
      omega
    have c2 := hb.c2
    have c3 := hb.c3
    have c4 := hb.c4
    have f2 := hb.fz 2
    have f3 := hb.fz 3
    have f4 := hb.fz 4
    obtain ⟨ap, cp, evP⟩ := owns_slice hm.pr
    simp only at c2 evP c3 c4
    rw [evP] at c2
    have HGK := hid_intro hgk
    clear hgk
    by_cases hlt : k < d.pl.length ∧ k < fn
    · obtain ⟨hlt1, hlt2⟩ := hlt
      have hlt' : (k : Int) < (d.pl.length : Int) := by omega
      have hlt2' : (k : Int) < (fn : Int) := by omega
      have hp : d.pl[k]? = some d.pl[k] := List.getElem?_eq_getElem hlt1
      revert hp
      generalize d.pl[k] = p
      intro hp
      obtain ⟨no, h, z⟩ := p
      have hf : fs[k]? = some fs[k] := List.getElem?_eq_getElem (by omega)
      revert hf
      generalize fs[k] = f
      intro hf
      obtain ⟨fk, fa⟩ := f
      obtain ⟨fb, foff, rfl, hfb, x0, x1⟩ := HF.out.ats k _ hf
      have y0 : wr.cell? ⟨fb, foff + k * 2, none⟩ = some (.int .i64 fk) := by rw [World.cell?_of_block (hkp.block fb hfb (HZ.out fb foff rfl (by omega)))]; exact x0
      have y1 : wr.cell? ⟨fb, foff + k * 2 + 1, none⟩ = some (.int .i64 fa) := by rw [World.cell?_of_block (hkp.block fb hfb (HZ.out fb foff rfl (by omega)))]; exact x1
      have hzip : (d.pl.zip fs)[k]? = some ((no, h, z), (fk, fa)) := by rw [List.getElem?_zip_eq_some]; exact ⟨hp, hf⟩
      obtain ⟨gP, capP, curP, hv, _, hgP, _⟩ := hm.pr.2.resolve_left (fun e => by have := e.2; simp only at this; omega)
      simp only at hv
      rw [evP] at hv
      simp only [Value.slice.injEq] at hv
      obtain ⟨rfl, _, rfl⟩ := hv
      have own := hm.pr
      simp only at own
      rw [evP] at own
      have q0 : wr.cell? ⟨gP, k * 2, none⟩ = some (.int .i64 no) := by
        rw [own.cellAt (k * 2) (by omega), Nat.mul_comm]; exact (wcells_at _ _ _ hp).1
      have q1 : wr.cell? ⟨gP, k * 2 + 1, none⟩ = some (.slice (some ⟨h, 0, none⟩) 4096 4096) := by
        rw [own.cellAt (k * 2 + 1) (by omega), Nat.mul_comm]; exact (wcells_at _ _ _ hp).2
      have HM := hid_intro hm
      have HB := hid_intro hb
      have HKP := hid_intro hkp
      have HMP := hid_intro hmap
      have HP := hid_intro hp
      have HZP := hid_intro hzip
      -- what a landing leaves
      have LAND : Hid (∀ (at_ : Int) (n : Nat) (W : World), Qt wr W → rch 2 at_ = n → fateL (bl.map (·.2)) (no, h, z) (fk, fa) = landL (bl.map (·.2)) no z n → Calls Try.prog 55 #[.pointer (some ⟨B, 0, none⟩), .agg #[.int .i64 no, .slice (some ⟨h, 0, none⟩) 4096 4096], .int .i64 at_] W fun e w5 => e = .returned (.tuple #[]) ∧ ∃ v bl, Rx w5 B { d with vL := v, bl := bl } ∧ Rm w5 (Nf F w w5) { d with vL := v, bl := bl } ∧ Kp w w5 F ∧ bl.map (·.2) = landF (d.bl.map (·.2)) ((d.pl.zip fs).take (k + 1))) := by
        intro at_ n W hW hn hfl
        have eN : Nf F w W = Nf F w wr := by unfold Nf; rw [hW.heap]
        have mW : Rm W (Nf F w wr) { d with vL := v, bl := bl } := HM.out.same (by rw [hW.heap]; exact Nat.le_refl _) (fun _ _ => by rw [hW.heap])
        have sW : W.heap.size = wr.heap.size := by rw [hW.heap]
        have := rlasts_b (HB.out.same (by rw [hW.heap])) mW (.inl HK.out.fb) no h z at_ (List.mem_of_getElem? HP.out) hbl2
        rw [pv_eq] at this
        refine this.mono ?_
        rintro e w5 ⟨rfl, v5, bl5, hb5, hm5, hk5, hmap5⟩
        have s0 := HKP.out.size
        have s5 := hk5.size
        refine ⟨rfl, v5, bl5, hb5, hm5.wide (G := Nf F w w5) (fun k hk => hk.elim (fun x => x.elim .inl (fun y => .inr ⟨y.1, by have := y.2; omega⟩)) (fun x => .inr ⟨by have := x.1; omega, x.2⟩)) (fun k hk => hk.elim (fun x => by have := HM.out.low k (.inl x); omega) (fun x => x.2)), ?_, ?_⟩
        · have kq : Kp w W F := ⟨hW.os.trans HKP.out.os, hW.tape.trans HKP.out.tape, hW.output.trans HKP.out.output, by rw [sW]; exact s0, fun i hi hf => by rw [hW.heap]; exact HKP.out.block i hi hf⟩
          exact kq.trans hk5 (fun i hi => hi.imp id (fun x => x.1))
        · rw [List.take_add_one, HZP.out, Option.toList_some, landF_snoc, ← HMP.out, hmap5, hfl, hn]
      clear hm hb hkp hmap hp own hgP evP hzip hf
      by_cases f1 : fk = 1
      · subst f1
        go_wp2_with fail
        refine (LAND.out 4096 4096 _ (Qt.refl _) (by decide) (fateL_yes (.inl rfl))).mono ?_
        rintro e w5 ⟨rfl, v5, bl5, hb5, hm5, hk5, hmap5⟩
        have FIN := hid_intro (And.intro hb5 (And.intro hm5 (And.intro hk5 hmap5)))
        clear hb5 hm5 hk5 hmap5
        go_wp2
        go_roundg (d.pl.length - (k + 1))
        case measure => have := HGK.out; omega
        case rel => exact ⟨k + 1, v5, bl5, rfl, by omega, by omega, by go_num, FIN.out.1, FIN.out.2.1, FIN.out.2.2.1, FIN.out.2.2.2⟩
      · by_cases f2 : fk = 2
        · subst f2
          go_wp2_with fail
          go_region_with (go_at_call 55; refine (LAND.out fa (rch 2 fa) _ (Qt.refl _).drew rfl (fateL_yes (.inr rfl))).mono ?_; rintro e w5 ⟨rfl, v5, bl5, hb5, hm5, hk5, hmap5⟩; have FIN := hid_intro (And.intro hb5 (And.intro hm5 (And.intro hk5 hmap5))); clear hb5 hm5 hk5 hmap5)
          all_goals
            go_wp2
            go_roundg (d.pl.length - (k + 1))
            case measure => have := HGK.out; omega
            case rel => exact ⟨k + 1, v5, bl5, rfl, by omega, by omega, by go_num, FIN.out.1, FIN.out.2.1, FIN.out.2.2.1, FIN.out.2.2.2⟩
        · go_wp2
          go_roundg (d.pl.length - (k + 1))
          case measure => have := HGK.out; omega
          case rel =>
            refine ⟨k + 1, v, bl, rfl, by omega, by omega, by go_num, HB.out, HM.out, HKP.out, ?_⟩
            rw [List.take_add_one, HZP.out, Option.toList_some, landF_snoc, ← HMP.out, fateL_no (fun e => e.elim f1 f2)]
    · have hend : (d.pl.zip fs).take k = d.pl.zip fs := List.take_of_length_le (by rw [List.length_zip]; omega)
      rw [hend] at hmap
      have HM := hid_intro hm
      have HB := hid_intro hb
      have HKP := hid_intro hkp
      have HMP := hid_intro hmap
      have B1 : Hid (Rx (((wr.setCell ⟨B, 2, none⟩ (.slice none 0 0)).setCell ⟨B, 3, none⟩ (.bool false)).setCell ⟨B, 4, none⟩ (.int .i64 0)) B (d.crash v bl)) :=
        ((HB.out.set 2 (.slice none 0 0) { d with vL := v, bl := bl, vP := .slice none 0 0, pl := [] } rfl).set 3 (.bool false) { d with vL := v, bl := bl, vP := .slice none 0 0, pl := [], off := false } rfl).set 4 (.int .i64 0) _ rfl
      have fin : ∀ W, W = (((wr.setCell ⟨B, 2, none⟩ (.slice none 0 0)).setCell ⟨B, 3, none⟩ (.bool false)).setCell ⟨B, 4, none⟩ (.int .i64 0)) → ∃ v bl, Rk W B (Nf F w W) (d.crash v bl) ∧ Kp w W F ∧ bl.map (·.2) = landF (d.bl.map (·.2)) (d.pl.zip fs) := by
        rintro W rfl
        have gs : wr.grownBy (((wr.setCell ⟨B, 2, none⟩ (.slice none 0 0)).setCell ⟨B, 3, none⟩ (.bool false)).setCell ⟨B, 4, none⟩ (.int .i64 0)) (some B) := grown_trans (grown_trans (grown_cell _ _ _ _) (grown_cell _ _ _ _)) (grown_cell _ _ _ _)
        have sz : (((wr.setCell ⟨B, 2, none⟩ (.slice none 0 0)).setCell ⟨B, 3, none⟩ (.bool false)).setCell ⟨B, 4, none⟩ (.int .i64 0)).heap.size = wr.heap.size := by simp
        have eN : Nf F w (((wr.setCell ⟨B, 2, none⟩ (.slice none 0 0)).setCell ⟨B, 3, none⟩ (.bool false)).setCell ⟨B, 4, none⟩ (.int .i64 0)) = Nf F w wr := by unfold Nf; rw [sz]
        refine ⟨v, bl, ?_, HKP.out.trans (Kp.of (F := F) gs (fun k e => by rw [← Option.some.inj e]; exact HK.out.fb)) (fun k hk => .inl hk), HMP.out⟩
        rw [eN]
        refine ⟨B1.out, (HM.out.box HB.out gs).clear12.scal rfl rfl rfl rfl (Nat.le_refl _), .inl HK.out.fb, HK.out.cap, ?_⟩
        show bl.length ≤ d.cap
        have h2 := HK.out.le
        omega
      have FIN := hid_intro fin
      clear hm hb hkp hmap evP hend fin
      by_cases g1 : k < d.pl.length
      · have g1' : (k : Int) < (d.pl.length : Int) := by omega
        have g2' : ¬ (k : Int) < (fn : Int) := by omega
        go_wp2
        go_end0
        exact ⟨rfl, FIN.out _ rfl⟩
      · have g1' : ¬ (k : Int) < (d.pl.length : Int) := by omega
        go_wp2
        go_end0
        exact ⟨rfl, FIN.out _ rfl⟩
end Go.Proofs.Ytiljdhhfhjhhiaa
