import Derived.Test.YtiljdhhfhjhhiaaRk4
namespace Go.Proofs.Ytiljdhhfhjhhiaa
open Go.RowKit Go.MuLone

/-- Nothing pends any more. -/
theorem Rm.clear12 {w : World} {F : Nat → Prop} {d : Dd} (h : Rm w F d) : Rm w F { d with vP := .slice none 0 0, pl := [] } :=
  ⟨h.lr, h.fl, ⟨rfl, .inl ⟨rfl, rfl⟩⟩, (fun g e => by cases e), h.bp, (fun p hp => by cases hp), Nat.zero_le _, h.low⟩

set_option maxHeartbeats 800000 in
theorem rsync_off {w : World} {B : Nat} {F : Nat → Prop} {d : Dd} (hk : Rk w B F d) (ho : d.off = true) : Calls Try.prog 37 #[.pointer (some ⟨B, 0, none⟩)] w fun e w' => e = .returned (.int .i64 123) ∧ w' = w := by
  have c3 := hk.bx.c3
  rw [ho] at c3
  go_enter Try.func37, Try.ntmps37
  go_wp2
  go_ret
  exact ⟨rfl, rfl⟩
set_option maxHeartbeats 800000 in
theorem rsync_fail {w : World} {B : Nat} {F : Nat → Prop} {d : Dd} (hk : Rk w B F d) (ho : d.off = false) (hl : d.left = 1) (hd : d.done < 1099511627776) : Calls Try.prog 37 #[.pointer (some ⟨B, 0, none⟩)] w fun e w' => e = .returned (.int .i64 123) ∧ Rk w' B F d.spend ∧ w.grownBy w' (some B) := by
  have c3 := hk.bx.c3
  rw [ho] at c3
  go_enter Try.func37, Try.ntmps37
  go_wp2_with fail
  refine (rfails_b hk ho hd (by omega)).mono ?_
  rintro e w2 ⟨rfl, hk2, hg2⟩
  rw [show (d.left == 1) = true by rw [hl]; rfl]
  go_wp2
  go_ret
  exact ⟨rfl, hk2, hg2⟩

set_option maxHeartbeats 4000000 in
set_option maxRecDepth 4000 in
theorem rsync_ok {w : World} {B : Nat} {F : Nat → Prop} {d : Dd} (hk : Rk w B F d) (ho : d.off = false) (hl : d.left ≠ 1) (hd : d.done < 1099511627776) (hl2 : d.left < 9223372036854775808) : Calls Try.prog 37 #[.pointer (some ⟨B, 0, none⟩)] w fun e w' => e = .returned (.int .i64 0) ∧ ∃ v bl, Rk w' B (Nf F w w') (d.sync v bl) ∧ Kp w w' F ∧ bl.map (·.2) = landA (d.bl.map (·.2)) d.pl := by
  have c3 := hk.bx.c3
  rw [ho] at c3
  have hpl : d.pl.length < 1099511627776 := Nat.lt_of_le_of_lt hk.dm.pc hd
  have HK := hid_intro hk
  clear hk
  go_enter Try.func37, Try.ntmps37
  go_wp2_with fail
  refine (rfails_b HK.out ho hd hl2).mono ?_
  rintro e w2 ⟨rfl, hk2, hg2⟩
  rw [show (d.left == 1) = false from beq_eq_false_iff_ne.2 hl]
  have K2 := hid_intro hk2
  have G2 := hid_intro hg2
  clear hk2 hg2 c3
  go_wp2_with fail
  go_loopw [4] (fun si wr => ∃ (k : Nat) (v : Value) (bl : List (Nat × List Int)), k ≤ d.pl.length ∧ si = .int .i64 (k : Int) ∧ Rx wr B { d.spend with vL := v, bl := bl } ∧ Rm wr (Nf F w wr) { d.spend with vL := v, bl := bl } ∧ Kp w wr F ∧ bl.map (·.2) = landA (d.bl.map (·.2)) (d.pl.take k)) (fun si _ => d.pl.length - (intOf si).toNat)
  case atStart =>
    refine ⟨0, d.vL, d.bl, Nat.zero_le _, rfl, K2.out.bx, K2.out.dm.wide (fun k hk => .inl hk) (fun k hk => hk.elim (K2.out.dm.low k) (fun x => x.2)), Kp.of G2.out (fun k e => by rw [← Option.some.inj e]; exact HK.out.fb), rfl⟩
  case round =>
    obtain ⟨k, v, bl, hkl, rfl, hb, hm, hkp, hmap⟩ := hrel
    have hblen : bl.length = pgs d.bl.length (d.pl.take k) := by
      have := congrArg List.length hmap
      rw [List.length_map, landA_len, List.length_map] at this
      exact this
    have hbl2 : bl.length < 524288 := by
      have h1 := pgs_take d.bl.length k d.pl
      have h2 := HK.out.le
      have h3 := HK.out.cap
      omega
    have c2 := hb.c2
    have f2 := hb.fz 2
    obtain ⟨ap, cp, evP⟩ := owns_slice hm.pr
    simp only at c2 evP
    rw [evP] at c2
    rw [show d.spend.pl.length = d.pl.length from rfl] at c2 evP
    by_cases hlt : k < d.pl.length
    · have hlt' : (k : Int) < (d.pl.length : Int) := by omega
      have hp : d.pl[k]? = some d.pl[k] := List.getElem?_eq_getElem hlt
      revert hp
      generalize d.pl[k] = p
      intro hp
      obtain ⟨no, h, z⟩ := p
      obtain ⟨gP, capP, curP, hv, _, hgP, _⟩ := hm.pr.2.resolve_left (fun e => by have := e.2; simp only at this; change d.pl.length = 0 at this; omega)
      simp only at hv
      rw [evP, show d.spend.pl.length = d.pl.length from rfl] at hv
      simp only [Value.slice.injEq] at hv
      obtain ⟨rfl, _, rfl⟩ := hv
      have own := hm.pr
      simp only at own
      rw [evP] at own
      have q0 : wr.cell? ⟨gP, k * 2, none⟩ = some (.int .i64 no) := by
        rw [own.cellAt (k * 2) (by change k * 2 < d.pl.length * 2; omega), Nat.mul_comm]; exact (wcells_at _ _ _ hp).1
      have q1 : wr.cell? ⟨gP, k * 2 + 1, none⟩ = some (.slice (some ⟨h, 0, none⟩) 4096 4096) := by
        rw [own.cellAt (k * 2 + 1) (by change k * 2 + 1 < d.pl.length * 2; omega), Nat.mul_comm]; exact (wcells_at _ _ _ hp).2
      have HM := hid_intro hm
      have HB := hid_intro hb
      have HKP := hid_intro hkp
      have HMP := hid_intro hmap
      have HP := hid_intro hp
      clear hm hb hkp hmap hp own hgP evP
      go_wp2_with fail
      refine (rlasts_b HB.out HM.out (.inl HK.out.fb) no h z 4096 (List.mem_of_getElem? HP.out) hbl2).mono ?_
      rintro e w5 ⟨rfl, v5, bl5, hb5, hm5, hk5, hmap5⟩
      have s0 := HKP.out.size
      have s5 := hk5.size
      have B5 := hid_intro hb5
      have M5 := hid_intro (hm5.wide (G := Nf F w w5) (fun k hk => hk.elim (fun x => x.elim .inl (fun y => .inr ⟨y.1, by omega⟩)) (fun x => .inr ⟨by omega, x.2⟩)) (fun k hk => hk.elim (fun x => by have := K2.out.dm.low k x; have := HM.out.low k (.inl x); omega) (fun x => x.2)))
      have K5 := hid_intro (HKP.out.trans hk5 (fun i hi => hi.imp id (fun x => x.1)))
      have L5 := hid_intro hmap5
      clear hb5 hm5 hk5 hmap5
      go_wp2
      go_roundw
      case rel =>
        refine ⟨k + 1, v5, bl5, by omega, by go_num, B5.out, M5.out, K5.out, ?_⟩
        rw [L5.out, List.take_add_one, HP.out, Option.toList_some, landA_snoc, ← HMP.out]
        rfl
      case measure => simp [intOf]; omega
    · obtain rfl : k = d.pl.length := by omega
      rw [List.take_length] at hmap
      have HM := hid_intro hm
      have HB := hid_intro hb
      have HKP := hid_intro hkp
      have HMP := hid_intro hmap
      clear hm hb hkp hmap evP
      go_wp2
      go_ret
      have gs := grown_cell wr B 2 (.slice none 0 0)
      have sz : (wr.setCell ⟨B, 2, none⟩ (.slice none 0 0)).heap.size = wr.heap.size := by simp
      have eN : Nf F w (wr.setCell ⟨B, 2, none⟩ (.slice none 0 0)) = Nf F w wr := by unfold Nf; rw [sz]
      refine ⟨rfl, v, bl, ?_, HKP.out.trans (Kp.of (F := F) gs (fun k e => by rw [← Option.some.inj e]; exact HK.out.fb)) (fun k hk => .inl hk), HMP.out⟩
      rw [eN]
      refine ⟨HB.out.set 2 _ _ rfl, ?_, .inl HK.out.fb, HK.out.cap, ?_⟩
      · exact (HM.out.box HB.out gs).clear12.scal rfl rfl rfl rfl (Nat.le_refl _)
      · show pgs bl.length [] ≤ d.cap
        have h1 := pgs_take d.bl.length d.pl.length d.pl
        have h2 := HK.out.le
        show bl.length ≤ d.cap
        omega
end Go.Proofs.Ytiljdhhfhjhhiaa
