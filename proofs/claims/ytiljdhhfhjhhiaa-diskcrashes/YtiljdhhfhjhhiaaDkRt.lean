import Derived.Test.YtiljdhhfhjhhiaaDkR
namespace Go.Proofs.Ytiljdhhfhjhhiaa
open Go.RowKit Go.MuLone

/-- What Rot leaves. -/
def Dd.rot (d : Dd) (i k : Nat) (x : Int) (bl : List (Nat × List Int)) : Dd := { d with bl := bl, pl := d.pl.map (rotP i k x) }

set_option maxHeartbeats 2000000 in
theorem rot_no {w : World} {B : Nat} {F : Nat → Prop} {d : Dd} (hk : Dk w B F d) (i at_ x : Int) (hi : i < 0 ∨ (d.bl.length : Int) ≤ i) : Calls Try.prog 40 #[.pointer (some ⟨B, 0, none⟩), .int .i64 i, .int .i64 at_, .int .i64 x] w fun e w' => e = .returned (.int .i64 121) ∧ Bx w' B 0 d ∧ w.grownBy w' (some B) := by
  have hb := hk.bx
  obtain ⟨al, cl, ev⟩ := owns_slice hk.dm.lr
  by_cases h0 : i < 0
  · go_enter_defers Try.func40, Try.ntmps40
    go_wp2_with fail
    refine (lock_b hb).mono ?_
    rintro e w1 ⟨rfl, hb1, hg1⟩
    have c3 := hb1.c3
    rw [ev] at c3
    have B1 := hid_intro hb1
    have G1 := hid_intro hg1
    clear hb1 hg1
    go_wp2_with fail
    refine leaves_cons (f := 46) (args := #[.pointer (some ⟨B, 0, none⟩)]) (by simp) (by simp [go_sem]) ?_
    refine (unlock_b .returning B1.out).mono ?_
    rintro e u' w2 ⟨rfl, rfl, hb2, hg2⟩
    exact ⟨_, results_tmp rfl _ _ _, rfl, hb2, grown_trans G1.out hg2⟩
  · have h1 : (d.bl.length : Int) ≤ i := by omega
    go_enter_defers Try.func40, Try.ntmps40
    go_wp2_with fail
    refine (lock_b hb).mono ?_
    rintro e w1 ⟨rfl, hb1, hg1⟩
    have c3 := hb1.c3
    rw [ev] at c3
    have B1 := hid_intro hb1
    have G1 := hid_intro hg1
    clear hb1 hg1
    go_wp2_with fail
    refine leaves_cons (f := 46) (args := #[.pointer (some ⟨B, 0, none⟩)]) (by simp) (by simp [go_sem]) ?_
    refine (unlock_b .returning B1.out).mono ?_
    rintro e u' w2 ⟨rfl, rfl, hb2, hg2⟩
    exact ⟨_, results_tmp rfl _ _ _, rfl, hb2, grown_trans G1.out hg2⟩

set_option maxHeartbeats 4000000 in
theorem rot_arg {w : World} {B : Nat} {F : Nat → Prop} {d : Dd} (hk : Dk w B F d) (i at_ x : Int) (hi : 0 ≤ i ∧ i < (d.bl.length : Int)) (ha : at_ < 0 ∨ 4096 ≤ at_ ∨ x < 1 ∨ 255 < x) : Calls Try.prog 40 #[.pointer (some ⟨B, 0, none⟩), .int .i64 i, .int .i64 at_, .int .i64 x] w fun e w' => e = .returned (.int .i64 124) ∧ Bx w' B 0 d ∧ w.grownBy w' (some B) := by
  have hb := hk.bx
  obtain ⟨al, cl, ev⟩ := owns_slice hk.dm.lr
  obtain ⟨hi0, hi1⟩ := hi
  have fin : ∀ w1 : World, Bx w1 B 0 d → w.grownBy w1 (some B) → True := fun _ _ _ => trivial
  clear fin
  go_enter_defers Try.func40, Try.ntmps40
  go_wp2_with fail
  refine (lock_b hb).mono ?_
  rintro e w1 ⟨rfl, hb1, hg1⟩
  have c3 := hb1.c3
  rw [ev] at c3
  have B1 := hid_intro hb1
  have G1 := hid_intro hg1
  clear hb1 hg1
  by_cases a1 : at_ < 0
  · go_wp2_with fail
    refine leaves_cons (f := 46) (args := #[.pointer (some ⟨B, 0, none⟩)]) (by simp) (by simp [go_sem]) ?_
    refine (unlock_b .returning B1.out).mono ?_
    rintro e u' w2 ⟨rfl, rfl, hb2, hg2⟩
    exact ⟨_, results_tmp rfl _ _ _, rfl, hb2, grown_trans G1.out hg2⟩
  · have a1' : 0 ≤ at_ := by omega
    by_cases a2 : 4096 ≤ at_
    · go_wp2_with fail
      refine leaves_cons (f := 46) (args := #[.pointer (some ⟨B, 0, none⟩)]) (by simp) (by simp [go_sem]) ?_
      refine (unlock_b .returning B1.out).mono ?_
      rintro e u' w2 ⟨rfl, rfl, hb2, hg2⟩
      exact ⟨_, results_tmp rfl _ _ _, rfl, hb2, grown_trans G1.out hg2⟩
    · have a2' : at_ < 4096 := by omega
      by_cases a3 : x < 1
      · go_wp2_with fail
        refine leaves_cons (f := 46) (args := #[.pointer (some ⟨B, 0, none⟩)]) (by simp) (by simp [go_sem]) ?_
        refine (unlock_b .returning B1.out).mono ?_
        rintro e u' w2 ⟨rfl, rfl, hb2, hg2⟩
        exact ⟨_, results_tmp rfl _ _ _, rfl, hb2, grown_trans G1.out hg2⟩
      · have a3' : 1 ≤ x := by omega
        have a4 : 255 < x := by omega
        go_wp2_with fail
        refine leaves_cons (f := 46) (args := #[.pointer (some ⟨B, 0, none⟩)]) (by simp) (by simp [go_sem]) ?_
        refine (unlock_b .returning B1.out).mono ?_
        rintro e u' w2 ⟨rfl, rfl, hb2, hg2⟩
        exact ⟨_, results_tmp rfl _ _ _, rfl, hb2, grown_trans G1.out hg2⟩

theorem Pb.set {w : World} {F : Nat → Prop} {g : Nat} {z : List Int} (h : Pb w F g z) (k : Nat) (x : Int) : Rw (w.setCell ⟨g, k, none⟩ (.int .u8 (bits .xor .u8 (z.getD k 0) x))) g (rotZ k x z) := by
  have := heap_setCell_same w g k _ _ (.int .u8 (bits .xor .u8 (z.getD k 0) x)) h.at_
  unfold Rw rotZ
  rw [this]
  congr 2
  rw [List.map_set]
  simp
theorem Pb.cell {w : World} {F : Nat → Prop} {g : Nat} {z : List Int} (h : Pb w F g z) (k : Nat) (hk : k < 4096) : w.cell? ⟨g, k, none⟩ = some (.int .u8 (z.getD k 0)) := by
  have hl := h.len
  rw [cell_of_row w g k _ _ _ h.at_]
  simp [List.getD, List.getElem?_eq_getElem (show k < z.length by omega)]
theorem Pb.fz {w : World} {F : Nat → Prop} {g : Nat} {z : List Int} (h : Pb w F g z) (k : Nat) : w.frozen? ⟨g, k, none⟩ = false := frozen_of_row w g k _ _ h.at_

/-- A byte of a write is turned. -/
theorem Dm.rotp {w : World} {F : Nat → Prop} {d : Dd} {i k n : Nat} {x : Int} {p : Nat × Nat × List Int} {l : List (Nat × Nat × List Int)} (h : Dm w F { d with pl := rotK i k x l n }) (hp : l[n]? = some p) (hi : p.1 = i) (hx : 0 ≤ x ∧ x ≤ 255) :
    Dm (w.setCell ⟨p.2.1, k, none⟩ (.int .u8 (bits .xor .u8 (p.2.2.getD k 0) x))) F { d with pl := rotK i k x l (n + 1) } := by
  have hk := rotK_at i k x l n p hp
  have hm : p ∈ rotK i k x l n := List.mem_of_getElem? hk
  have pb := (h.pp p hm).1
  have hg := grown_cell w p.2.1 k (.int .u8 (bits .xor .u8 (p.2.2.getD k 0) x))
  have := h.pend (pl' := rotK i k x l (n + 1)) (g := p.2.1) (List.mem_map.2 ⟨p, hm, rfl⟩) hg (by rw [rotK_map]; exact (rotK_map i k x l n).symm) ?_
  · exact this
  · intro q hq
    rw [rotK_succ i k x l n p hp] at hq
    obtain ⟨j, hj⟩ := List.mem_iff_getElem?.1 hq
    rw [List.getElem?_set] at hj
    by_cases e : n = j
    · subst e
      rw [if_pos rfl, if_pos (List.getElem?_eq_some_iff.1 hk).1] at hj
      obtain rfl := Option.some.inj hj
      unfold rotP
      rw [if_pos hi]
      exact ⟨pb.set k x, by rw [rotZ_len]; exact pb.len, rotZ_bt pb.bt hx, pb.mem⟩
    · rw [if_neg e] at hj
      have hq2 : q ∈ rotK i k x l n := List.mem_of_getElem? hj
      refine ((h.pp q hq2).1).same (hg.block _ (h.pp q hq2).1.lt (fun ee => e ?_))
      have nb := (List.nodup_append.1 h.nd).2.1
      have a1 : ((rotK i k x l n).map (·.2.1))[n]? = some p.2.1 := by rw [List.getElem?_map, hk]; rfl
      have a2 : ((rotK i k x l n).map (·.2.1))[j]? = some p.2.1 := by rw [List.getElem?_map, hj, ← Option.some.inj ee]; rfl
      exact (List.getElem?_inj (by rw [List.length_map]; exact (List.getElem?_eq_some_iff.1 hk).1) nb).1 (a1.trans a2.symm)

set_option maxHeartbeats 8000000 in
set_option maxRecDepth 100000 in
theorem rot_ok {w : World} {B : Nat} {F : Nat → Prop} {d : Dd} (hk : Dk w B F d) (hdn : d.done < 1099511627776) (i k : Nat) (x : Int) (hi : i < d.bl.length) (hat : k < 4096) (hx : 1 ≤ x ∧ x ≤ 255) : Calls Try.prog 40 #[.pointer (some ⟨B, 0, none⟩), .int .i64 i, .int .i64 k, .int .i64 x] w fun e w' => e = .returned (.int .i64 0) ∧ ∃ g y, d.bl[i]? = some (g, y) ∧ Dk w' B F (d.rot i k x (d.bl.set i (g, rotZ k x y))) ∧ Kp w w' F := by
  have hb := hk.bx
  have hpl : d.pl.length < 1099511627776 := Nat.lt_of_le_of_lt hk.dm.pc hdn
  have hblc : d.bl.length < 524288 := by have := hk.le; have := hk.cap; have := hk.pg; have := pgs_le d.bl.length d.pl; omega
  obtain ⟨hx1, hx2⟩ := hx
  have hi' : (i : Int) < (d.bl.length : Int) := by omega
  have hat' : (k : Int) < 4096 := by omega
  have HK := hid_intro hk
  clear hk
  go_enter_defers Try.func40, Try.ntmps40
  go_wp2_with fail
  refine (lock_b hb).mono ?_
  rintro e w1 ⟨rfl, hb1, hg1⟩
  have hm1 := HK.out.dm.box HK.out.bx hg1
  have c3 := hb1.c3
  have c4 := hb1.c4
  obtain ⟨gL, capL, curL, hvL, _, hgL, hcapL, _⟩ := hm1.lr.2.resolve_left (fun e => by have := e.2; omega)
  rw [hvL] at c3
  obtain ⟨alP, clP, evP⟩ := owns_slice hm1.pr
  rw [evP] at c4
  have hxx : d.bl[i]? = some d.bl[i] := List.getElem?_eq_getElem hi
  revert hxx
  generalize d.bl[i] = xx
  intro hxx
  obtain ⟨g, y⟩ := xx
  have pb := hm1.bp (g, y) (List.mem_of_getElem? hxx)
  have ci : w1.cell? ⟨gL, i, none⟩ = some (.slice (some ⟨g, 0, none⟩) 4096 4096) := by
    have := hm1.lr
    rw [hvL] at this
    rw [this.cellAt i (by omega), List.getElem?_map, hxx]
    rfl
  obtain ⟨y0, hy0⟩ : ∃ y0, y.getD k 0 = y0 := ⟨_, rfl⟩
  have cb := pb.cell k hat
  have ps := pb.set k x
  rw [hy0] at cb ps
  have fb := pb.fz k
  have hgB : g ≠ B := hb1.ne pb.at_ (by decide)
  -- behind the first store
  have gs := grown_cell w1 g k (.int .u8 (bits .xor .u8 y0 x))
  have M2 := hid_intro (hm1.page hxx gs ps (by rw [rotZ_len]; exact pb.len) (rotZ_bt pb.bt ⟨by omega, hx2⟩))
  have B2 := hid_intro (hb1.kept gs (fun e => hgB (Option.some.inj e).symm))
  have c4s : (w1.setCell ⟨g, k, none⟩ (.int .u8 (bits .xor .u8 y0 x))).cell? ⟨B, 4, none⟩ = some (.slice alP d.pl.length clP) := by rw [← evP]; exact B2.out.c4
  have KP2 : Hid (Kp w (w1.setCell ⟨g, k, none⟩ (.int .u8 (bits .xor .u8 y0 x))) F) := (Kp.of hg1 (fun k e => by rw [← Option.some.inj e]; exact HK.out.fb)).trans (Kp.of (F := F) gs (fun k e => by rw [← Option.some.inj e]; exact pb.mem)) (fun k hk => .inl hk)
  have HX := hid_intro hxx
  have EP := hid_intro evP
  clear hgL hcapL hm1 hb1 hg1 pb gs hxx evP hb hvL hgB ps hy0
  go_wp2_with fail
  go_loopw [62] (fun si wr => ∃ n : Nat, n ≤ d.pl.length ∧ si = .int .i64 (n : Int) ∧ Bx wr B 1 d ∧ Dm wr F { d with bl := d.bl.set i (g, rotZ k x y), pl := rotK i k x d.pl n } ∧ Kp w wr F) (fun si _ => d.pl.length - (intOf si).toNat)
  case atStart => exact ⟨0, Nat.zero_le _, rfl, B2.out, by rw [rotK_zero]; exact M2.out, KP2.out⟩
  case round =>
    obtain ⟨n, hn, rfl, hbr, hmr, hkr⟩ := hrel
    by_cases hlt : n < d.pl.length
    · have hlt' : (n : Int) < (d.pl.length : Int) := by omega
      have hlr : (rotK i k x d.pl n).length = d.pl.length := by have := congrArg List.length (rotK_map i k x d.pl n); simpa using this
      obtain ⟨gP, capP, curP, hv, _, hgP, hcap, _⟩ := hmr.pr.2.resolve_left (fun e => by have := e.2; simp only at this; omega)
      simp only at hv
      have hv2 := EP.out
      rw [hv, hlr] at hv2
      simp only [Value.slice.injEq] at hv2
      obtain ⟨rfl, _, rfl⟩ := hv2
      have hp : d.pl[n]? = some d.pl[n] := List.getElem?_eq_getElem hlt
      revert hp
      generalize d.pl[n] = p
      intro hp
      obtain ⟨no, h, z⟩ := p
      have hpk := rotK_at i k x d.pl n _ hp
      have own := hmr.pr
      simp only at own
      rw [hv] at own
      have q0 : wr.cell? ⟨gP, n * 2, none⟩ = some (.int .i64 no) := by
        rw [own.cellAt (n * 2) (by omega), Nat.mul_comm]; exact (wcells_at _ _ _ hpk).1
      have q1 : wr.cell? ⟨gP, n * 2 + 1, none⟩ = some (.slice (some ⟨h, 0, none⟩) 4096 4096) := by
        rw [own.cellAt (n * 2 + 1) (by omega), Nat.mul_comm]; exact (wcells_at _ _ _ hpk).2
      have hno : no < 524288 := (hmr.pp _ (List.mem_of_getElem? hpk)).2
      have ga : wr.grownBy (wr.alloc (.cells #[.int .i64 no, .slice (some ⟨h, 0, none⟩) 4096 4096] 90)) none := World.grownBy_alloc wr _ none
      have ma := hmr.keptN ga
      have pbh := (ma.pp _ (List.mem_of_getElem? hpk)).1
      have ba := hbr.kept ga (by simp)
      have ka : Kp w (wr.alloc (.cells #[.int .i64 no, .slice (some ⟨h, 0, none⟩) 4096 4096] 90)) F := hkr.trans (Kp.of (F := F) ga (fun k e => by cases e)) (fun k hk => .inl hk)
      have hhB : h ≠ B := ba.ne pbh.at_ (by decide)
      by_cases hio : no = i
      · subst hio
        obtain ⟨z0, hz0⟩ : ∃ z0, z.getD k 0 = z0 := ⟨_, rfl⟩
        have ch := pbh.cell k hat
        have fh := pbh.fz k
        have mr := ma.rotp (d := { d with bl := d.bl.set no (g, rotZ k x y) }) hp rfl ⟨by omega, hx2⟩
        simp only at ch mr
        rw [hz0] at ch mr
        have gs := grown_cell (wr.alloc (.cells #[.int .i64 no, .slice (some ⟨h, 0, none⟩) 4096 4096] 90)) h k (.int .u8 (bits .xor .u8 z0 x))
        have MR := hid_intro mr
        have BR := hid_intro (ba.kept gs (fun e => hhB (Option.some.inj e).symm))
        have KR := hid_intro (ka.trans (Kp.of (F := F) gs (fun k e => by rw [← Option.some.inj e]; exact pbh.mem)) (fun k hk => .inl hk))
        clear mr hz0 hbr hmr hkr own hgP hcap ga ma ba ka gs pbh hp hpk c4s
        go_wp2
        go_roundw
        case rel => exact ⟨n + 1, by omega, by go_num, BR.out, MR.out, KR.out⟩
        case measure => simp [intOf]; omega
      · have hio' : ¬ (no : Int) = (i : Int) := by omega
        have MR := hid_intro ma
        rw [← rotK_noop i k x d.pl n _ hp hio] at MR
        have BR := hid_intro ba
        have KR := hid_intro ka
        clear hbr hmr hkr own hgP hcap ga ma ba ka pbh hp hpk c4s
        go_wp2
        go_roundw
        case rel => exact ⟨n + 1, by omega, by go_num, BR.out, MR.out, KR.out⟩
        case measure => simp [intOf]; omega
    · obtain rfl : n = d.pl.length := by omega
      rw [rotK_all] at hmr
      have BR := hid_intro hbr
      have MR := hid_intro hmr
      have KR := hid_intro hkr
      clear hbr hmr hkr c4s
      go_wp2_with fail
      refine leaves_cons (f := 46) (args := #[.pointer (some ⟨B, 0, none⟩)]) (by simp) (by simp [go_sem]) ?_
      refine (unlock_b .returning BR.out).mono ?_
      rintro e u' w5 ⟨rfl, rfl, hb5, hg5⟩
      refine ⟨_, results_tmp rfl _ _ _, rfl, g, y, HX.out, ⟨hb5, MR.out.box (d' := d) BR.out hg5, HK.out.fb, ?_, HK.out.cap, HK.out.le, ?_⟩, KR.out.trans (Kp.of (F := F) hg5 (fun k e => by rw [← Option.some.inj e]; exact HK.out.fb)) (fun k hk => .inl hk)⟩
      · show d.pg = pgs (d.bl.set i (g, rotZ k x y)).length (d.pl.map (rotP i k x))
        rw [HK.out.pg, List.length_set]
        unfold pgs
        rw [List.foldl_map]
        congr 1
        funext a p
        have := rotP_same i k x p
        simp only [Prod.mk.injEq] at this
        rw [this.1]
      · intro j h1 h2
        change (d.bl.set i (g, rotZ k x y)).length ≤ j at h1
        rw [List.length_set] at h1
        obtain ⟨p, hp, e⟩ := HK.out.gap j h1 h2
        refine ⟨_, List.mem_map.2 ⟨p, hp, rfl⟩, ?_⟩
        have := rotP_same i k x p
        simp only [Prod.mk.injEq] at this
        rw [this.1, e]

def Ds.rot (s : Ds) (i k : Nat) (x : Int) : Ds := { s with L := s.L.set i (rotZ k x (s.L.getD i [])), Q := s.Q.map fun q => if q.1 = i then (q.1, rotZ k x q.2) else q }
theorem dz_rot_no {w : World} {B : Nat} {F : Nat → Prop} {s : Ds} (h : Dz w B F s) (i at_ x : Int) (hi : i < 0 ∨ (s.L.length : Int) ≤ i) : Calls Try.prog 40 #[.pointer (some ⟨B, 0, none⟩), .int .i64 i, .int .i64 at_, .int .i64 x] w fun e w' => e = .returned (.int .i64 121) ∧ Dz w' B F s ∧ Kp w w' F := by
  obtain ⟨d, hk, rfl⟩ := h
  refine (rot_no hk i at_ x (by simpa [Dd.abs] using hi)).mono ?_
  rintro e w' ⟨rfl, h1, h2⟩
  exact ⟨rfl, hk.asked rfl h1 h2⟩
theorem dz_rot_arg {w : World} {B : Nat} {F : Nat → Prop} {s : Ds} (h : Dz w B F s) (i at_ x : Int) (hi : 0 ≤ i ∧ i < (s.L.length : Int)) (ha : at_ < 0 ∨ 4096 ≤ at_ ∨ x < 1 ∨ 255 < x) : Calls Try.prog 40 #[.pointer (some ⟨B, 0, none⟩), .int .i64 i, .int .i64 at_, .int .i64 x] w fun e w' => e = .returned (.int .i64 124) ∧ Dz w' B F s ∧ Kp w w' F := by
  obtain ⟨d, hk, rfl⟩ := h
  refine (rot_arg hk i at_ x (by simpa [Dd.abs] using hi) ha).mono ?_
  rintro e w' ⟨rfl, h1, h2⟩
  exact ⟨rfl, hk.asked rfl h1 h2⟩
theorem dz_rot {w : World} {B : Nat} {F : Nat → Prop} {s : Ds} (h : Dz w B F s) (hd : s.done < 1099511627776) (i k : Nat) (x : Int) (hi : i < s.L.length) (hat : k < 4096) (hx : 1 ≤ x ∧ x ≤ 255) : Calls Try.prog 40 #[.pointer (some ⟨B, 0, none⟩), .int .i64 i, .int .i64 k, .int .i64 x] w fun e w' => e = .returned (.int .i64 0) ∧ Dz w' B F (s.rot i k x) ∧ Kp w w' F := by
  obtain ⟨d, hk, rfl⟩ := h
  refine (rot_ok hk hd i k x (by simpa [Dd.abs] using hi) hat hx).mono ?_
  rintro e w' ⟨rfl, g, y, h0, h1, h2⟩
  refine ⟨rfl, ⟨_, h1, ?_⟩, h2⟩
  have e1 : (d.bl.set i (g, rotZ k x y)).map (·.2) = (d.bl.map (·.2)).set i (rotZ k x ((d.bl.map (·.2)).getD i [])) := by
    rw [List.map_set, List.getD, List.getElem?_map, h0]
    rfl
  have e2 : (d.pl.map (rotP i k x)).map (fun p => (p.1, p.2.2)) = (d.pl.map fun p => (p.1, p.2.2)).map fun q => if q.1 = i then (q.1, rotZ k x q.2) else q := by
    rw [List.map_map, List.map_map]
    congr 1
    funext p
    simp only [Function.comp, rotP]
    split <;> rfl
  simp only [Dd.abs, Dd.rot, Ds.rot, e1, e2]
end Go.Proofs.Ytiljdhhfhjhhiaa
