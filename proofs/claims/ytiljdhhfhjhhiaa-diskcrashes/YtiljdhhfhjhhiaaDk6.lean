import Derived.Test.YtiljdhhfhjhhiaaDk5
namespace Go.Proofs.Ytiljdhhfhjhhiaa
open Go.RowKit Go.MuLone

/-- How many bytes reach the disk; does it reach it at all? -/
def rch (k a : Int) : Nat := if k = 1 then 4096 else if k = 2 then (if a ≤ 0 then 0 else if 4096 ≤ a then 4096 else a.toNat) else 0
def rok (k : Int) : Bool := decide (k = 1 ∨ k = 2)
theorem rch_le (k a : Int) : rch k a ≤ 4096 := by
  unfold rch
  split
  · omega
  split
  · split
    · omega
    split <;> omega
  · omega

set_option maxHeartbeats 800000 in
theorem reach_any (k a : Int) (w : World) : Calls Try.prog 51 #[.agg #[.int .i64 k, .int .i64 a]] w fun e w' => e = .returned (.tuple #[.int .i64 (rch k a), .bool (rok k)]) ∧ w.grownBy w' none := by
  unfold rch
  by_cases h1 : k = 1
  · subst h1
    rw [if_pos rfl, show rok 1 = true from rfl]
    go_enter Try.func51, Try.ntmps51
    go_wp2
    go_ret2
    exact ⟨rfl, World.grownBy_alloc _ _ _⟩
  rw [if_neg h1]
  by_cases h2 : k = 2
  · subst h2
    rw [if_pos rfl, show rok 2 = true from rfl]
    rcases Int.lt_trichotomy a 0 with h3 | h3 | h3
    · rw [if_pos (by omega)]
      go_enter Try.func51, Try.ntmps51
      go_wp2
      go_ret2
      exact ⟨rfl, World.grownBy_alloc _ _ _⟩
    · subst h3
      rw [if_pos (by omega)]
      go_enter Try.func51, Try.ntmps51
      go_wp2
      go_ret2
      exact ⟨rfl, World.grownBy_alloc _ _ _⟩
    rw [if_neg (by omega)]
    rcases Int.lt_trichotomy a 4096 with h4 | h4 | h4
    · rw [if_neg (by omega), Int.toNat_of_nonneg (by omega)]
      go_enter Try.func51, Try.ntmps51
      go_wp2
      go_ret2
      exact ⟨rfl, World.grownBy_alloc _ _ _⟩
    · subst h4
      rw [if_pos (by omega)]
      go_enter Try.func51, Try.ntmps51
      go_wp2
      go_ret2
      exact ⟨rfl, World.grownBy_alloc _ _ _⟩
    · rw [if_pos (by omega)]
      go_enter Try.func51, Try.ntmps51
      go_wp2
      go_ret2
      exact ⟨rfl, World.grownBy_alloc _ _ _⟩
  · rw [if_neg h2, show rok k = false by simp [rok, h1, h2]]
    go_enter Try.func51, Try.ntmps51
    go_wp2
    go_ret2
    exact ⟨rfl, World.grownBy_alloc _ _ _⟩

/-- One write has its fate. -/
def fateL (L : List (List Int)) (p : Nat × Nat × List Int) (f : Int × Int) : List (List Int) := if f.1 = 1 ∨ f.1 = 2 then landL L p.1 p.2.2 (rch f.1 f.2) else L
theorem fateL_yes {L : List (List Int)} {no h : Nat} {z : List Int} {fk fa : Int} (hr : fk = 1 ∨ fk = 2) : fateL L (no, h, z) (fk, fa) = landL L no z (rch fk fa) := if_pos hr
theorem fateL_no {L : List (List Int)} {no h : Nat} {z : List Int} {fk fa : Int} (hr : ¬ (fk = 1 ∨ fk = 2)) : fateL L (no, h, z) (fk, fa) = L := if_neg hr
def landF (L : List (List Int)) (l : List ((Nat × Nat × List Int) × (Int × Int))) : List (List Int) := l.foldl (fun L q => fateL L q.1 q.2) L
theorem landF_snoc (L : List (List Int)) (l : List ((Nat × Nat × List Int) × (Int × Int))) (q : (Nat × Nat × List Int) × (Int × Int)) : landF L (l ++ [q]) = fateL (landF L l) q.1 q.2 := by simp [landF, List.foldl_append]
theorem pgs_mono {a b : Nat} (h : a ≤ b) (l : List (Nat × Nat × List Int)) : pgs a l ≤ pgs b l := by
  induction l generalizing a b with
  | nil => exact h
  | cons p l ih => exact ih (show max a (p.1 + 1) ≤ max b (p.1 + 1) by omega)
theorem landF_le (L : List (List Int)) (l : List (Nat × Nat × List Int)) (fs : List (Int × Int)) : (landF L (l.zip fs)).length ≤ pgs L.length l := by
  induction l generalizing L fs with
  | nil => simp [landF, pgs]
  | cons p l ih =>
    cases fs with
    | nil => simp only [List.zip_nil_right, landF, List.foldl_nil]; exact pgs_le _ _
    | cons f fs =>
      have h1 := ih (fateL L p f) fs
      simp only [landF, pgs, List.zip_cons_cons, List.foldl_cons] at h1 ⊢
      refine Nat.le_trans h1 (pgs_mono ?_ l)
      unfold fateL
      split
      · rw [landL_len]; exact Nat.le_refl _
      · omega
theorem landF_len (L : List (List Int)) (l : List (Nat × Nat × List Int)) (fs : List (Int × Int)) (k : Nat) : (landF L ((l.zip fs).take k)).length ≤ pgs L.length l := by
  have e : (l.zip fs).take k = (l.take k).zip (fs.take k) := List.take_zipWith
  rw [e]
  exact Nat.le_trans (landF_le L _ _) (pgs_take _ _ _)

/-- A list of fates that came in. -/
structure Fl (w : World) (ao : Option Addr) (fs : List (Int × Int)) : Prop where
  ats : ∀ i f, fs[i]? = some f → ∃ b off, ao = some ⟨b, off, none⟩ ∧ b < w.heap.size ∧ w.cell? ⟨b, off + i * 2, none⟩ = some (.int .i64 f.1) ∧ w.cell? ⟨b, off + i * 2 + 1, none⟩ = some (.int .i64 f.2)

/-- What a Crash leaves. -/
def Dd.crash (d : Dd) (v : Value) (bl : List (Nat × List Int)) : Dd := { d with vL := v, bl := bl, vP := .slice none 0 0, pl := [], pg := bl.length, left := 0, off := false }

set_option maxHeartbeats 8000000 in
set_option maxRecDepth 4000 in
theorem crash_any {w : World} {B : Nat} {F : Nat → Prop} {d : Dd} (hk : Dk w B F d) (ao : Option Addr) (fn fc : Nat) (fs : List (Int × Int)) (hF : Fl w ao fs) (hfl : fs.length = fn) (hfn : fn ≤ fc) (hfc : fc ≤ 9223372036854775807) (hfz : ∀ b off, ao = some ⟨b, off, none⟩ → ¬ F b) (hd : d.done < 1099511627776) :
    Calls Try.prog 28 #[.pointer (some ⟨B, 0, none⟩), .slice ao fn fc] w fun e w' => e = .returned (.tuple #[]) ∧ ∃ v bl, Dk w' B (fun k => F k ∨ w.heap.size ≤ k ∧ k < w'.heap.size) (d.crash v bl) ∧ Kp w w' F ∧ bl.map (·.2) = landF (d.bl.map (·.2)) (d.pl.zip fs) := by
  subst hfl
  have hb := hk.bx
  have HK := hid_intro hk
  have hpc := hk.dm.pc
  have hpg := hk.pg
  have hcap := hk.cap
  have hle := hk.le
  have HF := hid_intro hF
  clear hk hF
  go_enter_defers Try.func28, Try.ntmps28
  go_wp2_with fail
  refine (lock_b hb).mono ?_
  rintro e w1 ⟨rfl, hb1, hg1⟩
  have c4 := hb1.c4
  have hm1 := HK.out.dm.box HK.out.bx hg1
  obtain ⟨ap, cp, ev⟩ := owns_slice hm1.pr
  have hcp : d.pl.length ≤ cp ∧ cp ≤ 9223372036854775807 := by
    rcases hm1.pr.2 with ⟨e1, e2⟩ | ⟨g', cap', cur', e1, _, _, e3, e4, _⟩
    · rw [ev] at e1; injection e1 with _ _ e1; omega
    · rw [ev] at e1; injection e1 with _ _ e1; subst e1; exact ⟨e3, by unfold maxLen at e4; omega⟩
  obtain ⟨hcp1, hcp2⟩ := hcp
  rw [ev] at c4
  have EV := hid_intro ev
  have B1 := hid_intro hb1
  have M1 := hid_intro hm1
  have G1 := hid_intro hg1
  clear hb1 hm1 hg1 ev hb
  rcases Nat.lt_trichotomy fs.length d.pl.length with hMM | hMM | hMM
  · have hMM' : (fs.length : Int) < (d.pl.length : Int) := by omega
    have hMn : fs.length ≤ d.pl.length := by omega
    go_wp2_with fail
    go_quiet (fail)
    go_wp2_with fail
    clear hMM
    go_loopw [29] (fun si wr => ∃ (k : Nat) (v : Value) (bl : List (Nat × List Int)), k ≤ fs.length ∧ si = .int .i64 k ∧ Bx wr B 1 { d with vL := v, bl := bl } ∧ Dm wr (fun k => F k ∨ w.heap.size ≤ k ∧ k < wr.heap.size) { d with vL := v, bl := bl } ∧ Kp w wr F ∧ bl.map (·.2) = landF (d.bl.map (·.2)) ((d.pl.zip fs).take k)) (fun si _ => fs.length - (intOf si).toNat)
    case atStart =>
      have hs := G1.out.size
      exact ⟨0, d.vL, d.bl, Nat.zero_le _, rfl, B1.out.same rfl, (M1.out.wide (fun k hk => .inl hk) (fun k hk => hk.elim (fun x => by have := HK.out.dm.low k x; omega) (fun x => x.2))).keptN ((Qt.drewN _ _).grown none), Kp.of (grown_trans G1.out ((Qt.drewN _ _).grown _)) (fun k e => by rw [← Option.some.inj e]; exact HK.out.fb), rfl⟩
    case round =>
      obtain ⟨k, v, bl, hk, rfl, hbr, hmr, hkp, hL⟩ := hrel
      have hblc : bl.length < 524288 := by
        have := congrArg List.length hL
        rw [List.length_map] at this
        have := landF_len (d.bl.map (·.2)) d.pl fs k
        rw [List.length_map] at this
        omega
      by_cases hlt : k < fs.length
      · have hlt' : (k : Int) < (fs.length : Int) := by omega
        obtain ⟨gP, capP, curP, hv, _, hgP, hcapP, _⟩ := hmr.pr.2.resolve_left (fun e => by have := e.2; change d.pl.length = 0 at this; omega)
        change d.vP = .slice (some ⟨gP, 0, none⟩) d.pl.length capP at hv
        have hv2 := EV.out
        rw [hv] at hv2
        simp only [Value.slice.injEq] at hv2
        obtain ⟨rfl, _, rfl⟩ := hv2
        have hx : d.pl[k]? = some d.pl[k] := List.getElem?_eq_getElem (by omega)
        revert hx
        generalize d.pl[k] = x
        intro hx
        obtain ⟨no, h, z⟩ := x
        have own : wr.ownsRow 0 90 2 (.slice (some ⟨gP, 0, none⟩) d.pl.length capP) d.pl.length (wcells d.pl) := by
          have := hmr.pr
          change wr.ownsRow 0 90 2 d.vP d.pl.length (wcells d.pl) at this
          rw [hv] at this
          exact this
        have q0 : wr.cell? ⟨gP, k * 2, none⟩ = some (.int .i64 no) := by
          rw [own.cellAt (k * 2) (by omega), Nat.mul_comm]; exact (wcells_at _ _ _ hx).1
        have q1 : wr.cell? ⟨gP, k * 2 + 1, none⟩ = some (.slice (some ⟨h, 0, none⟩) 4096 4096) := by
          rw [own.cellAt (k * 2 + 1) (by omega), Nat.mul_comm]; exact (wcells_at _ _ _ hx).2
        have hf : fs[k]? = some fs[k] := List.getElem?_eq_getElem (by omega)
        revert hf
        generalize fs[k] = f
        intro hf
        obtain ⟨fk, fa⟩ := f
        obtain ⟨bf, of, rfl, hbf, r0, r1⟩ := HF.out.ats k _ hf
        have gA := World.grownBy_alloc wr (.cells #[.int .i64 no, .slice (some ⟨h, 0, none⟩) 4096 4096] 90) none
        have kA : Kp w (wr.alloc (.cells #[.int .i64 no, .slice (some ⟨h, 0, none⟩) 4096 4096] 90)) F := hkp.trans (Kp.of (F := F) gA (fun j e => by cases e)) (fun j hj => .inl hj)
        have r0' : (wr.alloc (.cells #[.int .i64 no, .slice (some ⟨h, 0, none⟩) 4096 4096] 90)).cell? ⟨bf, of + k * 2, none⟩ = some (.int .i64 fk) := (World.cell?_of_block (kA.block bf hbf (hfz bf of rfl))).trans r0
        have r1' : (wr.alloc (.cells #[.int .i64 no, .slice (some ⟨h, 0, none⟩) 4096 4096] 90)).cell? ⟨bf, of + k * 2 + 1, none⟩ = some (.int .i64 fa) := (World.cell?_of_block (kA.block bf hbf (hfz bf of rfl))).trans r1
        have hkf : (k : Int) < (fs.length : Int) := by omega
        have HX := hid_intro hx
        have HF2 := hid_intro hf
        have BA := hid_intro (hbr.kept gA (by simp))
        have MA := hid_intro (hmr.keptN gA)
        have HKP := hid_intro kA
        have HLL := hid_intro hL
        have s0 := hkp.size
        have nx : ∀ L, (d.pl.zip fs).take (k + 1) = (d.pl.zip fs).take k ++ L → True := fun _ _ => trivial
        have zx : (d.pl.zip fs)[k]? = some ((no, h, z), (fk, fa)) := by
          rw [List.getElem?_zip_eq_some]; exact ⟨hx, hf⟩
        have ZX := hid_intro zx
        clear hx hf own hgP hcapP hkp hL hmr hbr gA kA nx zx r0 r1
        go_wp2_with fail
        refine (reach_any fk fa _).mono ?_
        rintro e w2 ⟨rfl, hg2⟩
        have BB := hid_intro (BA.out.kept hg2 (by simp))
        have MB := hid_intro (MA.out.keptN hg2)
        have s2 := hg2.size
        have u2 : w2.heap[wr.heap.size]? = some (.cells #[.int .i64 no, .slice (some ⟨h, 0, none⟩) 4096 4096] 90 (0, 0)) := (hg2.block wr.heap.size (by simp) (by simp)).trans (heap_alloc_new wr _)
        have t0 : w2.cell? ⟨wr.heap.size, 0, none⟩ = some (.int .i64 no) := cell_of_row w2 _ 0 _ _ _ u2
        have t1 : w2.cell? ⟨wr.heap.size, 1, none⟩ = some (.slice (some ⟨h, 0, none⟩) 4096 4096) := cell_of_row w2 _ 1 _ _ _ u2
        rw [show (wr.alloc (.cells #[.int .i64 no, .slice (some ⟨h, 0, none⟩) 4096 4096] 90)).heap.size = wr.heap.size + 1 by simp] at s2
        have KB := hid_intro (HKP.out.trans (Kp.of (F := F) hg2 (fun j e => by cases e)) (fun j hj => .inl hj))
        clear u2 hg2
        by_cases hr : fk = 1 ∨ fk = 2
        · rw [show rok fk = true by simp [rok, hr]]
          have LA := hid_intro (land_b BB.out MB.out (.inl HK.out.fb) no h (rch fk fa) z (rch_le fk fa) (List.mem_of_getElem? HX.out) hblc)
          go_wp2_with fail
          refine LA.out.mono ?_
          rintro e w3 ⟨rfl, v3, bl3, hb3, hm3, hkp3, hL3⟩
          have B3 := hid_intro hb3
          have M3 := hid_intro hm3
          have K3 := hid_intro hkp3
          have L3 := hid_intro hL3
          clear hb3 hm3 hkp3 hL3
          go_wp2
          go_roundw
          case rel =>
            have s3 := K3.out.size
            refine ⟨k + 1, v3, bl3, by omega, by go_num, B3.out, M3.out.wide (fun j hj => ?_) (fun j hj => hj.elim (fun x => by have := M3.out.low j (.inl (.inl x)); exact this) (fun x => x.2)), ?_, ?_⟩
            · rcases hj with (x | x) | x
              · exact .inl x
              · exact .inr ⟨x.1, by omega⟩
              · exact .inr ⟨by omega, x.2⟩
            · exact KB.out.trans K3.out (fun j hj => hj.imp id (fun x => x.1))
            · rw [List.take_add_one, ZX.out, Option.toList_some, landF_snoc, ← HLL.out, fateL_yes hr]
              exact L3.out
          case measure => simp [intOf]; omega
        · rw [show rok fk = false by simp [rok]; omega]
          go_wp2
          go_roundw
          case rel =>
            refine ⟨k + 1, v, bl, by omega, by go_num, BB.out, MB.out.wide (fun j hj => hj.imp id (fun x => ⟨x.1, by omega⟩)) (fun j hj => hj.elim (fun x => MB.out.low j (.inl x)) (fun x => x.2)), KB.out, ?_⟩
            rw [List.take_add_one, ZX.out, Option.toList_some, landF_snoc, ← HLL.out, fateL_no hr]
          case measure => simp [intOf]; omega
      · have hkn : k = fs.length := by omega
        subst hkn
        have hLE : (d.pl.zip fs).take fs.length = d.pl.zip fs := List.take_of_length_le (by rw [List.length_zip]; omega)
        rw [hLE] at hL
        have SE := hid_intro (settle_b hbr hmr (.inl HK.out.fb) (show d.pl.length < _ by omega))
        have HKP := hid_intro hkp
        have HLL := hid_intro hL
        have HMR := hid_intro hmr
        clear hkp hL hmr hbr hLE
        go_wp2_with fail
        refine SE.out.mono ?_
        rintro e w3 ⟨rfl, hb3, hm3, hkp3⟩
        have c7 := hb3.c7
        have c8 := hb3.c8
        have f7 := hb3.fz 7
        have f8 := hb3.fz 8
        go_wp2_with fail
        have hb5 := (hb3.set 7 (.int .i64 0) 1 { d with vL := v, bl := bl, vP := .slice none 0 0, pl := [], pg := bl.length, left := 0 } rfl).set 8 (.bool false) 1 (d.crash v bl) rfl
        refine leaves_cons (f := 46) (args := #[.pointer (some ⟨B, 0, none⟩)]) (by simp) (by simp [go_sem]) ?_
        refine (unlock_b .returning hb5).mono ?_
        rintro e u' w4 ⟨rfl, rfl, hb4, hg4⟩
        have hg5 : w3.grownBy w4 (some B) := grown_trans (grown_trans (grown_cell _ _ _ _) (grown_cell _ _ _ _)) hg4
        have s0 := HKP.out.size
        have s3 := hkp3.size
        have s4 := hg5.size
        have hbl : bl.length ≤ d.cap := by
          have := congrArg List.length HLL.out
          rw [List.length_map] at this
          have := landF_len (d.bl.map (·.2)) d.pl fs (d.pl.zip fs).length
          rw [List.length_map, List.take_length] at this
          omega
        refine ⟨_, results_none rfl _ _ _, rfl, v, bl, ⟨hb4, ?_, .inl HK.out.fb, rfl, HK.out.cap, hbl, fun j h1 h2 => by change bl.length ≤ j at h1; change j < bl.length at h2; omega⟩, ?_, HLL.out⟩
        · refine ((hm3.box hb3 hg5).wide (fun j hj => ?_) (fun j hj => hj.elim (fun x => by have := hm3.low j (.inl (.inl x)); omega) (fun x => x.2))).scal rfl rfl rfl rfl rfl (Nat.le_refl _)
          rcases hj with (x | x) | x
          · exact .inl x
          · exact .inr ⟨x.1, by omega⟩
          · exact .inr ⟨by omega, by omega⟩
        · exact (HKP.out.trans hkp3 (fun j hj => hj.imp id (fun x => x.1))).trans (Kp.of (F := F) hg5 (fun j e => by rw [← Option.some.inj e]; exact HK.out.fb)) (fun j hj => .inl hj)
  · have hMM' : (fs.length : Int) = (d.pl.length : Int) := by omega
    have hMn : d.pl.length ≤ fs.length := by omega
    go_wp2_with fail
    go_quiet (fail)
    go_wp2_with fail
    clear hMM
    go_loopw [29] (fun si wr => ∃ (k : Nat) (v : Value) (bl : List (Nat × List Int)), k ≤ d.pl.length ∧ si = .int .i64 k ∧ Bx wr B 1 { d with vL := v, bl := bl } ∧ Dm wr (fun k => F k ∨ w.heap.size ≤ k ∧ k < wr.heap.size) { d with vL := v, bl := bl } ∧ Kp w wr F ∧ bl.map (·.2) = landF (d.bl.map (·.2)) ((d.pl.zip fs).take k)) (fun si _ => d.pl.length - (intOf si).toNat)
    case atStart =>
      have hs := G1.out.size
      exact ⟨0, d.vL, d.bl, Nat.zero_le _, rfl, B1.out.same rfl, (M1.out.wide (fun k hk => .inl hk) (fun k hk => hk.elim (fun x => by have := HK.out.dm.low k x; omega) (fun x => x.2))).keptN ((Qt.drewN _ _).grown none), Kp.of (grown_trans G1.out ((Qt.drewN _ _).grown _)) (fun k e => by rw [← Option.some.inj e]; exact HK.out.fb), rfl⟩
    case round =>
      obtain ⟨k, v, bl, hk, rfl, hbr, hmr, hkp, hL⟩ := hrel
      have hblc : bl.length < 524288 := by
        have := congrArg List.length hL
        rw [List.length_map] at this
        have := landF_len (d.bl.map (·.2)) d.pl fs k
        rw [List.length_map] at this
        omega
      by_cases hlt : k < d.pl.length
      · have hlt' : (k : Int) < (d.pl.length : Int) := by omega
        obtain ⟨gP, capP, curP, hv, _, hgP, hcapP, _⟩ := hmr.pr.2.resolve_left (fun e => by have := e.2; change d.pl.length = 0 at this; omega)
        change d.vP = .slice (some ⟨gP, 0, none⟩) d.pl.length capP at hv
        have hv2 := EV.out
        rw [hv] at hv2
        simp only [Value.slice.injEq] at hv2
        obtain ⟨rfl, _, rfl⟩ := hv2
        have hx : d.pl[k]? = some d.pl[k] := List.getElem?_eq_getElem (by omega)
        revert hx
        generalize d.pl[k] = x
        intro hx
        obtain ⟨no, h, z⟩ := x
        have own : wr.ownsRow 0 90 2 (.slice (some ⟨gP, 0, none⟩) d.pl.length capP) d.pl.length (wcells d.pl) := by
          have := hmr.pr
          change wr.ownsRow 0 90 2 d.vP d.pl.length (wcells d.pl) at this
          rw [hv] at this
          exact this
        have q0 : wr.cell? ⟨gP, k * 2, none⟩ = some (.int .i64 no) := by
          rw [own.cellAt (k * 2) (by omega), Nat.mul_comm]; exact (wcells_at _ _ _ hx).1
        have q1 : wr.cell? ⟨gP, k * 2 + 1, none⟩ = some (.slice (some ⟨h, 0, none⟩) 4096 4096) := by
          rw [own.cellAt (k * 2 + 1) (by omega), Nat.mul_comm]; exact (wcells_at _ _ _ hx).2
        have hf : fs[k]? = some fs[k] := List.getElem?_eq_getElem (by omega)
        revert hf
        generalize fs[k] = f
        intro hf
        obtain ⟨fk, fa⟩ := f
        obtain ⟨bf, of, rfl, hbf, r0, r1⟩ := HF.out.ats k _ hf
        have gA := World.grownBy_alloc wr (.cells #[.int .i64 no, .slice (some ⟨h, 0, none⟩) 4096 4096] 90) none
        have kA : Kp w (wr.alloc (.cells #[.int .i64 no, .slice (some ⟨h, 0, none⟩) 4096 4096] 90)) F := hkp.trans (Kp.of (F := F) gA (fun j e => by cases e)) (fun j hj => .inl hj)
        have r0' : (wr.alloc (.cells #[.int .i64 no, .slice (some ⟨h, 0, none⟩) 4096 4096] 90)).cell? ⟨bf, of + k * 2, none⟩ = some (.int .i64 fk) := (World.cell?_of_block (kA.block bf hbf (hfz bf of rfl))).trans r0
        have r1' : (wr.alloc (.cells #[.int .i64 no, .slice (some ⟨h, 0, none⟩) 4096 4096] 90)).cell? ⟨bf, of + k * 2 + 1, none⟩ = some (.int .i64 fa) := (World.cell?_of_block (kA.block bf hbf (hfz bf of rfl))).trans r1
        have hkf : (k : Int) < (fs.length : Int) := by omega
        have HX := hid_intro hx
        have HF2 := hid_intro hf
        have BA := hid_intro (hbr.kept gA (by simp))
        have MA := hid_intro (hmr.keptN gA)
        have HKP := hid_intro kA
        have HLL := hid_intro hL
        have s0 := hkp.size
        have nx : ∀ L, (d.pl.zip fs).take (k + 1) = (d.pl.zip fs).take k ++ L → True := fun _ _ => trivial
        have zx : (d.pl.zip fs)[k]? = some ((no, h, z), (fk, fa)) := by
          rw [List.getElem?_zip_eq_some]; exact ⟨hx, hf⟩
        have ZX := hid_intro zx
        clear hx hf own hgP hcapP hkp hL hmr hbr gA kA nx zx r0 r1
        go_wp2_with fail
        refine (reach_any fk fa _).mono ?_
        rintro e w2 ⟨rfl, hg2⟩
        have BB := hid_intro (BA.out.kept hg2 (by simp))
        have MB := hid_intro (MA.out.keptN hg2)
        have s2 := hg2.size
        have u2 : w2.heap[wr.heap.size]? = some (.cells #[.int .i64 no, .slice (some ⟨h, 0, none⟩) 4096 4096] 90 (0, 0)) := (hg2.block wr.heap.size (by simp) (by simp)).trans (heap_alloc_new wr _)
        have t0 : w2.cell? ⟨wr.heap.size, 0, none⟩ = some (.int .i64 no) := cell_of_row w2 _ 0 _ _ _ u2
        have t1 : w2.cell? ⟨wr.heap.size, 1, none⟩ = some (.slice (some ⟨h, 0, none⟩) 4096 4096) := cell_of_row w2 _ 1 _ _ _ u2
        rw [show (wr.alloc (.cells #[.int .i64 no, .slice (some ⟨h, 0, none⟩) 4096 4096] 90)).heap.size = wr.heap.size + 1 by simp] at s2
        have KB := hid_intro (HKP.out.trans (Kp.of (F := F) hg2 (fun j e => by cases e)) (fun j hj => .inl hj))
        clear u2 hg2
        by_cases hr : fk = 1 ∨ fk = 2
        · rw [show rok fk = true by simp [rok, hr]]
          have LA := hid_intro (land_b BB.out MB.out (.inl HK.out.fb) no h (rch fk fa) z (rch_le fk fa) (List.mem_of_getElem? HX.out) hblc)
          go_wp2_with fail
          refine LA.out.mono ?_
          rintro e w3 ⟨rfl, v3, bl3, hb3, hm3, hkp3, hL3⟩
          have B3 := hid_intro hb3
          have M3 := hid_intro hm3
          have K3 := hid_intro hkp3
          have L3 := hid_intro hL3
          clear hb3 hm3 hkp3 hL3
          go_wp2
          go_roundw
          case rel =>
            have s3 := K3.out.size
            refine ⟨k + 1, v3, bl3, by omega, by go_num, B3.out, M3.out.wide (fun j hj => ?_) (fun j hj => hj.elim (fun x => by have := M3.out.low j (.inl (.inl x)); exact this) (fun x => x.2)), ?_, ?_⟩
            · rcases hj with (x | x) | x
              · exact .inl x
              · exact .inr ⟨x.1, by omega⟩
              · exact .inr ⟨by omega, x.2⟩
            · exact KB.out.trans K3.out (fun j hj => hj.imp id (fun x => x.1))
            · rw [List.take_add_one, ZX.out, Option.toList_some, landF_snoc, ← HLL.out, fateL_yes hr]
              exact L3.out
          case measure => simp [intOf]; omega
        · rw [show rok fk = false by simp [rok]; omega]
          go_wp2
          go_roundw
          case rel =>
            refine ⟨k + 1, v, bl, by omega, by go_num, BB.out, MB.out.wide (fun j hj => hj.imp id (fun x => ⟨x.1, by omega⟩)) (fun j hj => hj.elim (fun x => MB.out.low j (.inl x)) (fun x => x.2)), KB.out, ?_⟩
            rw [List.take_add_one, ZX.out, Option.toList_some, landF_snoc, ← HLL.out, fateL_no hr]
          case measure => simp [intOf]; omega
      · have hkn : k = d.pl.length := by omega
        subst hkn
        have hLE : (d.pl.zip fs).take d.pl.length = d.pl.zip fs := List.take_of_length_le (by rw [List.length_zip]; omega)
        rw [hLE] at hL
        have SE := hid_intro (settle_b hbr hmr (.inl HK.out.fb) (show d.pl.length < _ by omega))
        have HKP := hid_intro hkp
        have HLL := hid_intro hL
        have HMR := hid_intro hmr
        clear hkp hL hmr hbr hLE
        go_wp2_with fail
        refine SE.out.mono ?_
        rintro e w3 ⟨rfl, hb3, hm3, hkp3⟩
        have c7 := hb3.c7
        have c8 := hb3.c8
        have f7 := hb3.fz 7
        have f8 := hb3.fz 8
        go_wp2_with fail
        have hb5 := (hb3.set 7 (.int .i64 0) 1 { d with vL := v, bl := bl, vP := .slice none 0 0, pl := [], pg := bl.length, left := 0 } rfl).set 8 (.bool false) 1 (d.crash v bl) rfl
        refine leaves_cons (f := 46) (args := #[.pointer (some ⟨B, 0, none⟩)]) (by simp) (by simp [go_sem]) ?_
        refine (unlock_b .returning hb5).mono ?_
        rintro e u' w4 ⟨rfl, rfl, hb4, hg4⟩
        have hg5 : w3.grownBy w4 (some B) := grown_trans (grown_trans (grown_cell _ _ _ _) (grown_cell _ _ _ _)) hg4
        have s0 := HKP.out.size
        have s3 := hkp3.size
        have s4 := hg5.size
        have hbl : bl.length ≤ d.cap := by
          have := congrArg List.length HLL.out
          rw [List.length_map] at this
          have := landF_len (d.bl.map (·.2)) d.pl fs (d.pl.zip fs).length
          rw [List.length_map, List.take_length] at this
          omega
        refine ⟨_, results_none rfl _ _ _, rfl, v, bl, ⟨hb4, ?_, .inl HK.out.fb, rfl, HK.out.cap, hbl, fun j h1 h2 => by change bl.length ≤ j at h1; change j < bl.length at h2; omega⟩, ?_, HLL.out⟩
        · refine ((hm3.box hb3 hg5).wide (fun j hj => ?_) (fun j hj => hj.elim (fun x => by have := hm3.low j (.inl (.inl x)); omega) (fun x => x.2))).scal rfl rfl rfl rfl rfl (Nat.le_refl _)
          rcases hj with (x | x) | x
          · exact .inl x
          · exact .inr ⟨x.1, by omega⟩
          · exact .inr ⟨by omega, by omega⟩
        · exact (HKP.out.trans hkp3 (fun j hj => hj.imp id (fun x => x.1))).trans (Kp.of (F := F) hg5 (fun j e => by rw [← Option.some.inj e]; exact HK.out.fb)) (fun j hj => .inl hj)
  · have hMM' : (d.pl.length : Int) < (fs.length : Int) := by omega
    have hMn : d.pl.length ≤ fs.length := by omega
    go_wp2_with fail
    go_quiet (fail)
    go_wp2_with fail
    clear hMM
    go_loopw [29] (fun si wr => ∃ (k : Nat) (v : Value) (bl : List (Nat × List Int)), k ≤ d.pl.length ∧ si = .int .i64 k ∧ Bx wr B 1 { d with vL := v, bl := bl } ∧ Dm wr (fun k => F k ∨ w.heap.size ≤ k ∧ k < wr.heap.size) { d with vL := v, bl := bl } ∧ Kp w wr F ∧ bl.map (·.2) = landF (d.bl.map (·.2)) ((d.pl.zip fs).take k)) (fun si _ => d.pl.length - (intOf si).toNat)
    case atStart =>
      have hs := G1.out.size
      exact ⟨0, d.vL, d.bl, Nat.zero_le _, rfl, B1.out.same rfl, (M1.out.wide (fun k hk => .inl hk) (fun k hk => hk.elim (fun x => by have := HK.out.dm.low k x; omega) (fun x => x.2))).keptN ((Qt.drewN _ _).grown none), Kp.of (grown_trans G1.out ((Qt.drewN _ _).grown _)) (fun k e => by rw [← Option.some.inj e]; exact HK.out.fb), rfl⟩
    case round =>
      obtain ⟨k, v, bl, hk, rfl, hbr, hmr, hkp, hL⟩ := hrel
      have hblc : bl.length < 524288 := by
        have := congrArg List.length hL
        rw [List.length_map] at this
        have := landF_len (d.bl.map (·.2)) d.pl fs k
        rw [List.length_map] at this
        omega
      by_cases hlt : k < d.pl.length
      · have hlt' : (k : Int) < (d.pl.length : Int) := by omega
        obtain ⟨gP, capP, curP, hv, _, hgP, hcapP, _⟩ := hmr.pr.2.resolve_left (fun e => by have := e.2; change d.pl.length = 0 at this; omega)
        change d.vP = .slice (some ⟨gP, 0, none⟩) d.pl.length capP at hv
        have hv2 := EV.out
        rw [hv] at hv2
        simp only [Value.slice.injEq] at hv2
        obtain ⟨rfl, _, rfl⟩ := hv2
        have hx : d.pl[k]? = some d.pl[k] := List.getElem?_eq_getElem (by omega)
        revert hx
        generalize d.pl[k] = x
        intro hx
        obtain ⟨no, h, z⟩ := x
        have own : wr.ownsRow 0 90 2 (.slice (some ⟨gP, 0, none⟩) d.pl.length capP) d.pl.length (wcells d.pl) := by
          have := hmr.pr
          change wr.ownsRow 0 90 2 d.vP d.pl.length (wcells d.pl) at this
          rw [hv] at this
          exact this
        have q0 : wr.cell? ⟨gP, k * 2, none⟩ = some (.int .i64 no) := by
          rw [own.cellAt (k * 2) (by omega), Nat.mul_comm]; exact (wcells_at _ _ _ hx).1
        have q1 : wr.cell? ⟨gP, k * 2 + 1, none⟩ = some (.slice (some ⟨h, 0, none⟩) 4096 4096) := by
          rw [own.cellAt (k * 2 + 1) (by omega), Nat.mul_comm]; exact (wcells_at _ _ _ hx).2
        have hf : fs[k]? = some fs[k] := List.getElem?_eq_getElem (by omega)
        revert hf
        generalize fs[k] = f
        intro hf
        obtain ⟨fk, fa⟩ := f
        obtain ⟨bf, of, rfl, hbf, r0, r1⟩ := HF.out.ats k _ hf
        have gA := World.grownBy_alloc wr (.cells #[.int .i64 no, .slice (some ⟨h, 0, none⟩) 4096 4096] 90) none
        have kA : Kp w (wr.alloc (.cells #[.int .i64 no, .slice (some ⟨h, 0, none⟩) 4096 4096] 90)) F := hkp.trans (Kp.of (F := F) gA (fun j e => by cases e)) (fun j hj => .inl hj)
        have r0' : (wr.alloc (.cells #[.int .i64 no, .slice (some ⟨h, 0, none⟩) 4096 4096] 90)).cell? ⟨bf, of + k * 2, none⟩ = some (.int .i64 fk) := (World.cell?_of_block (kA.block bf hbf (hfz bf of rfl))).trans r0
        have r1' : (wr.alloc (.cells #[.int .i64 no, .slice (some ⟨h, 0, none⟩) 4096 4096] 90)).cell? ⟨bf, of + k * 2 + 1, none⟩ = some (.int .i64 fa) := (World.cell?_of_block (kA.block bf hbf (hfz bf of rfl))).trans r1
        have hkf : (k : Int) < (fs.length : Int) := by omega
        have HX := hid_intro hx
        have HF2 := hid_intro hf
        have BA := hid_intro (hbr.kept gA (by simp))
        have MA := hid_intro (hmr.keptN gA)
        have HKP := hid_intro kA
        have HLL := hid_intro hL
        have s0 := hkp.size
        have nx : ∀ L, (d.pl.zip fs).take (k + 1) = (d.pl.zip fs).take k ++ L → True := fun _ _ => trivial
        have zx : (d.pl.zip fs)[k]? = some ((no, h, z), (fk, fa)) := by
          rw [List.getElem?_zip_eq_some]; exact ⟨hx, hf⟩
        have ZX := hid_intro zx
        clear hx hf own hgP hcapP hkp hL hmr hbr gA kA nx zx r0 r1
        go_wp2_with fail
        refine (reach_any fk fa _).mono ?_
        rintro e w2 ⟨rfl, hg2⟩
        have BB := hid_intro (BA.out.kept hg2 (by simp))
        have MB := hid_intro (MA.out.keptN hg2)
        have s2 := hg2.size
        have u2 : w2.heap[wr.heap.size]? = some (.cells #[.int .i64 no, .slice (some ⟨h, 0, none⟩) 4096 4096] 90 (0, 0)) := (hg2.block wr.heap.size (by simp) (by simp)).trans (heap_alloc_new wr _)
        have t0 : w2.cell? ⟨wr.heap.size, 0, none⟩ = some (.int .i64 no) := cell_of_row w2 _ 0 _ _ _ u2
        have t1 : w2.cell? ⟨wr.heap.size, 1, none⟩ = some (.slice (some ⟨h, 0, none⟩) 4096 4096) := cell_of_row w2 _ 1 _ _ _ u2
        rw [show (wr.alloc (.cells #[.int .i64 no, .slice (some ⟨h, 0, none⟩) 4096 4096] 90)).heap.size = wr.heap.size + 1 by simp] at s2
        have KB := hid_intro (HKP.out.trans (Kp.of (F := F) hg2 (fun j e => by cases e)) (fun j hj => .inl hj))
        clear u2 hg2
        by_cases hr : fk = 1 ∨ fk = 2
        · rw [show rok fk = true by simp [rok, hr]]
          have LA := hid_intro (land_b BB.out MB.out (.inl HK.out.fb) no h (rch fk fa) z (rch_le fk fa) (List.mem_of_getElem? HX.out) hblc)
          go_wp2_with fail
          refine LA.out.mono ?_
          rintro e w3 ⟨rfl, v3, bl3, hb3, hm3, hkp3, hL3⟩
          have B3 := hid_intro hb3
          have M3 := hid_intro hm3
          have K3 := hid_intro hkp3
          have L3 := hid_intro hL3
          clear hb3 hm3 hkp3 hL3
          go_wp2
          go_roundw
          case rel =>
            have s3 := K3.out.size
            refine ⟨k + 1, v3, bl3, by omega, by go_num, B3.out, M3.out.wide (fun j hj => ?_) (fun j hj => hj.elim (fun x => by have := M3.out.low j (.inl (.inl x)); exact this) (fun x => x.2)), ?_, ?_⟩
            · rcases hj with (x | x) | x
              · exact .inl x
              · exact .inr ⟨x.1, by omega⟩
              · exact .inr ⟨by omega, x.2⟩
            · exact KB.out.trans K3.out (fun j hj => hj.imp id (fun x => x.1))
            · rw [List.take_add_one, ZX.out, Option.toList_some, landF_snoc, ← HLL.out, fateL_yes hr]
              exact L3.out
          case measure => simp [intOf]; omega
        · rw [show rok fk = false by simp [rok]; omega]
          go_wp2
          go_roundw
          case rel =>
            refine ⟨k + 1, v, bl, by omega, by go_num, BB.out, MB.out.wide (fun j hj => hj.imp id (fun x => ⟨x.1, by omega⟩)) (fun j hj => hj.elim (fun x => MB.out.low j (.inl x)) (fun x => x.2)), KB.out, ?_⟩
            rw [List.take_add_one, ZX.out, Option.toList_some, landF_snoc, ← HLL.out, fateL_no hr]
          case measure => simp [intOf]; omega
      · have hkn : k = d.pl.length := by omega
        subst hkn
        have hLE : (d.pl.zip fs).take d.pl.length = d.pl.zip fs := List.take_of_length_le (by rw [List.length_zip]; omega)
        rw [hLE] at hL
        have SE := hid_intro (settle_b hbr hmr (.inl HK.out.fb) (show d.pl.length < _ by omega))
        have HKP := hid_intro hkp
        have HLL := hid_intro hL
        have HMR := hid_intro hmr
        clear hkp hL hmr hbr hLE
        go_wp2_with fail
        refine SE.out.mono ?_
        rintro e w3 ⟨rfl, hb3, hm3, hkp3⟩
        have c7 := hb3.c7
        have c8 := hb3.c8
        have f7 := hb3.fz 7
        have f8 := hb3.fz 8
        go_wp2_with fail
        have hb5 := (hb3.set 7 (.int .i64 0) 1 { d with vL := v, bl := bl, vP := .slice none 0 0, pl := [], pg := bl.length, left := 0 } rfl).set 8 (.bool false) 1 (d.crash v bl) rfl
        refine leaves_cons (f := 46) (args := #[.pointer (some ⟨B, 0, none⟩)]) (by simp) (by simp [go_sem]) ?_
        refine (unlock_b .returning hb5).mono ?_
        rintro e u' w4 ⟨rfl, rfl, hb4, hg4⟩
        have hg5 : w3.grownBy w4 (some B) := grown_trans (grown_trans (grown_cell _ _ _ _) (grown_cell _ _ _ _)) hg4
        have s0 := HKP.out.size
        have s3 := hkp3.size
        have s4 := hg5.size
        have hbl : bl.length ≤ d.cap := by
          have := congrArg List.length HLL.out
          rw [List.length_map] at this
          have := landF_len (d.bl.map (·.2)) d.pl fs (d.pl.zip fs).length
          rw [List.length_map, List.take_length] at this
          omega
        refine ⟨_, results_none rfl _ _ _, rfl, v, bl, ⟨hb4, ?_, .inl HK.out.fb, rfl, HK.out.cap, hbl, fun j h1 h2 => by change bl.length ≤ j at h1; change j < bl.length at h2; omega⟩, ?_, HLL.out⟩
        · refine ((hm3.box hb3 hg5).wide (fun j hj => ?_) (fun j hj => hj.elim (fun x => by have := hm3.low j (.inl (.inl x)); omega) (fun x => x.2))).scal rfl rfl rfl rfl rfl (Nat.le_refl _)
          rcases hj with (x | x) | x
          · exact .inl x
          · exact .inr ⟨x.1, by omega⟩
          · exact .inr ⟨by omega, by omega⟩
        · exact (HKP.out.trans hkp3 (fun j hj => hj.imp id (fun x => x.1))).trans (Kp.of (F := F) hg5 (fun j e => by rw [← Option.some.inj e]; exact HK.out.fb)) (fun j hj => .inl hj)
end Go.Proofs.Ytiljdhhfhjhhiaa
