import Derived.Test.YtiljdhhfhjhhiaaDk6
namespace Go.Proofs.Ytiljdhhfhjhhiaa
open Go.RowKit Go.MuLone

theorem num_12 (x : Int) (w : World) (_h : -9223372036854775808 ≤ x ∧ x ≤ 9223372036854775807) : Calls Try.prog 13 #[.int .i64 x] w fun e w' => e = .returned (.int .i64 x) ∧ w' = w := by
  go_enter Try.func13, Try.ntmps13
  go_wp2
  go_ret
  exact ⟨rfl, rfl⟩

theorem Rw.set {w : World} {g : Nat} {zs : List Int} (h : Rw w g zs) (i : Nat) (v : Int) : Rw (w.setCell ⟨g, i, none⟩ (.int .u8 v)) g (zs.set i v) := by
  have := heap_setCell_same w g i _ _ (.int .u8 v) h
  unfold Rw
  rw [this]
  congr 2
  rw [List.map_set]
  simp
theorem Rw.fz {w : World} {g : Nat} {zs : List Int} (h : Rw w g zs) (i : Nat) : w.frozen? ⟨g, i, none⟩ = false := frozen_of_row w g i _ _ h

/-- A page of x. -/
def fp (x : Int) : List Int := List.replicate 4096 x
theorem fp_len (x : Int) : (fp x).length = 4096 := List.length_replicate
theorem fp_bt {x : Int} (h : 0 ≤ x ∧ x ≤ 255) : Bt (fp x) := by intro z hz; rw [List.eq_of_mem_replicate hz]; exact h
theorem fill_set (x : Int) (k : Nat) (hk : k < 4096) : (List.replicate k x ++ List.replicate (4096 - k) 0).set k x = List.replicate (k + 1) x ++ List.replicate (4096 - (k + 1)) 0 := by
  apply List.ext_getElem?
  intro j
  rw [List.getElem?_set]
  simp only [List.getElem?_append, List.getElem?_replicate, List.length_replicate, List.length_append]
  by_cases e : k = j
  · subst e
    simp; omega
  · rw [if_neg e]
    by_cases h1 : j < k
    · simp [h1, show j < k + 1 by omega]
    · rw [if_neg h1, if_neg (show ¬ j < k + 1 by omega)]
      congr 1
      apply propext
      constructor <;> intro h <;> omega

set_option maxHeartbeats 2000000 in
set_option maxRecDepth 4000 in
theorem full_any (x : Int) (w : World) : Calls Try.prog 19 #[.int .u8 x] w fun e w' => e = .returned (.slice (some ⟨w.heap.size, 0, none⟩) 4096 4096) ∧ Rw w' w.heap.size (fp x) ∧ w.grownBy w' none := by
  obtain ⟨ZZ, hmk, hZZ⟩ := make_zp
  have HZZ := hid_intro hZZ
  clear hZZ
  go_enter Try.func19, Try.ntmps19
  go_wp2_with fail
  go_loopw [4] (fun si wr => ∃ k : Nat, k ≤ 4096 ∧ si = .int .i64 k ∧ Rw wr w.heap.size (List.replicate k x ++ List.replicate (4096 - k) 0) ∧ w.grownBy wr none) (fun si _ => 4096 - (intOf si).toNat)
  case atStart =>
    refine ⟨0, by omega, rfl, ?_, World.grownBy_alloc _ _ _⟩
    have := heap_alloc_new w (.cells ZZ 5)
    unfold Rw
    rw [this, HZZ.out]
    rfl
  case round =>
    obtain ⟨k, hk, rfl, hr, hg⟩ := hrel
    have hl : (List.replicate k x ++ List.replicate (4096 - k) (0 : Int)).length = 4096 := by rw [List.length_append, List.length_replicate, List.length_replicate]; omega
    by_cases hlt : k < 4096
    · have hlt' : (k : Int) < 4096 := by omega
      have c0 := hr.cell k (by omega)
      have f0 := hr.fz k
      have HR := hid_intro (hr.set k x)
      have HG := hid_intro (grown_new hg (grown_cell wr w.heap.size k (.int .u8 x)) (Nat.le_refl _))
      clear hr hg hl
      go_wp2
      go_roundw
      case rel => exact ⟨k + 1, by omega, by go_num, by have := HR.out; rw [fill_set x k hlt] at this; exact this, HG.out⟩
      case measure => simp [intOf]; omega
    · obtain rfl : k = 4096 := by omega
      have HR := hid_intro hr
      have HG := hid_intro hg
      clear hr hg hl
      go_wp2
      go_ret
      have := HR.out
      rw [Nat.sub_self, List.replicate_zero, List.append_nil] at this
      exact ⟨rfl, this, HG.out⟩

/-- All pages, one behind the other. -/
def cat (l : List (Nat × List Int)) : List Int := (l.map (·.2)).flatten
theorem cat_snoc (l : List (Nat × List Int)) (p : Nat × List Int) : cat (l ++ [p]) = cat l ++ p.2 := by simp [cat]

set_option maxHeartbeats 4000000 in
set_option maxRecDepth 4000 in
theorem durable_any {w : World} {B : Nat} {F : Nat → Prop} {d : Dd} (hk : Dk w B F d) :
    Calls Try.prog 25 #[.pointer (some ⟨B, 0, none⟩)] w fun e w' => ∃ g L C, e = .returned (.slice (some ⟨g, 0, none⟩) L C) ∧ L = 4096 * d.bl.length ∧ w'.ownsRow w.heap.size 5 1 (.slice (some ⟨g, 0, none⟩) L C) L ((cat d.bl).map (Value.int .u8)) ∧ Bx w' B 0 d ∧ w.grownBy w' (some B) := by
  obtain ⟨i0, hi, hz0, hz1, hz2⟩ := info_parts info_u8
  have hb := hk.bx
  have hbl : d.bl.length < 524288 := by have := hk.le; have := hk.cap; have := hk.pg; have := pgs_le d.bl.length d.pl; omega
  have HK := hid_intro hk
  clear hk
  obtain ⟨C, hC⟩ : ∃ C, C = d.bl.length * 4096 := ⟨_, rfl⟩
  have HC := hid_intro hC
  clear hC
  go_enter_defers Try.func25, Try.ntmps25
  go_wp2_with fail
  refine (lock_b hb).mono ?_
  rintro e w1 ⟨rfl, hb1, hg1⟩
  have hm1 := HK.out.dm.box HK.out.bx hg1
  have c3 := hb1.c3
  obtain ⟨al, cl, ev⟩ := owns_slice hm1.lr
  rw [ev] at c3
  have EV := hid_intro ev
  have B1 := hid_intro hb1
  have M1 := hid_intro hm1
  have G1 := hid_intro hg1
  clear hb1 hm1 hg1 ev hb
  go_wp2_with (at_make; refine wpList_make_own _ rfl _ _ 22 rfl w1.heap.size 5 i0 (.int .u8 0) 1 Try.underlying22 hi hz0 hz1 _ _ _ C rfl rfl ?b1 ?b2 ?b3 (Nat.le_refl _) ?_)
  case b1 => rw [HC.out, Int.natCast_mul]; rfl
  case b2 => have := HC.out; rw [hz2]; omega
  case b3 => have := HC.out; unfold maxLen; omega
  intro w0 hown0 hgrow0
  have c3' := (B1.out.kept hgrow0 (by simp)).c3
  rw [EV.out] at c3'
  have O0 := hid_intro hown0
  have G0 := hid_intro hgrow0
  clear hown0 hgrow0 c3
  go_wp2_with fail
  go_loopw [3, 25] (fun so si wr => ∃ k L : Nat, k ≤ d.bl.length ∧ L = 4096 * k ∧ si = .int .i64 k ∧ so = .slice (some ⟨w1.heap.size, 0, none⟩) L C ∧ wr.ownsRow w1.heap.size 5 1 (.slice (some ⟨w1.heap.size, 0, none⟩) L C) L ((cat (d.bl.take k)).map (Value.int .u8)) ∧ w1.grownBy wr none) (fun _ si _ => d.bl.length - (intOf si).toNat)
  case atStart => exact ⟨0, 0, Nat.zero_le _, rfl, rfl, rfl, O0.out, G0.out⟩
  case round =>
    obtain ⟨k, L, hk, hL, rfl, rfl, hown, hg⟩ := hrel
    by_cases hlt : k < d.bl.length
    · have hlt' : (k : Int) < (d.bl.length : Int) := by omega
      have mR := M1.out.keptN hg
      obtain ⟨gL, capL, curL, hv, _, hgL, hcapL, _⟩ := mR.lr.2.resolve_left (fun e => by have := e.2; omega)
      have hv2 := EV.out
      rw [hv] at hv2
      simp only [Value.slice.injEq] at hv2
      obtain ⟨rfl, _, rfl⟩ := hv2
      have hx : d.bl[k]? = some d.bl[k] := List.getElem?_eq_getElem hlt
      revert hx
      generalize d.bl[k] = x
      intro hx
      have ci : wr.cell? ⟨gL, k, none⟩ = some (.slice (some ⟨x.1, 0, none⟩) 4096 4096) := by
        have := mR.lr
        rw [hv] at this
        rw [this.cellAt k (by omega), List.getElem?_map, hx]
        rfl
      have PB := hid_intro (mR.bp x (List.mem_of_getElem? hx)).byt
      have hxl := (mR.bp x (List.mem_of_getElem? hx)).len
      have HX := hid_intro hx
      have HO := hid_intro hown
      have HG := hid_intro hg
      have hfit : L + 4096 ≤ C := by have := HC.out; omega
      have HL := hid_intro hL
      clear mR hgL hcapL hx hown hg c3' hL
      go_wp2_with (at_builtin; refine wpList_append_fits_any _ rfl _ _ 22 rfl w1.heap.size 5 i0 1 Try.underlying22 hi hz1 w1.heap.size L C _ rfl HO.out _ 4096 _ (x.2.map (Value.int .u8)) rfl (by rw [List.length_map, hxl]) PB.out.nil PB.out.cells (ints_oneCell _ _) hfit ?_)
      intro w4 hown4 hgrow4
      have O4 := hid_intro hown4
      have G4 := hid_intro (grown_new HG.out hgrow4 (Nat.le_refl _))
      clear hown4 hgrow4
      go_wp2
      go_roundw
      case rel =>
        refine ⟨k + 1, L + 4096, by omega, ?_, by go_num, rfl, ?_, G4.out⟩
        · have := HL.out; omega
        · rw [List.take_add_one, HX.out, Option.toList_some, cat_snoc, List.map_append]
          exact O4.out
      case measure => simp [intOf]; omega
    · obtain rfl : k = d.bl.length := by omega
      rw [List.take_length] at hown
      have bR := B1.out.kept hg (by simp)
      have HO := hid_intro hown
      have HG := hid_intro hg
      clear hown hg c3'
      go_wp2_with fail
      refine leaves_cons (f := 46) (args := #[.pointer (some ⟨B, 0, none⟩)]) (by simp) (by simp [go_sem]) ?_
      refine (unlock_b .returning bR).mono ?_
      rintro e u' w5 ⟨rfl, rfl, hb5, hg5⟩
      have s1 := G1.out.size
      have hBl := HK.out.dm.low B HK.out.fb
      refine ⟨_, results_tmp rfl _ _ _, _, _, _, rfl, hL, ?_, hb5, grown_trans (grown_trans G1.out (grown_any HG.out)) hg5⟩
      have := HO.out.kept hg5 (.inr (fun e => by have := Option.some.inj e; change w1.heap.size = B at this; omega))
      exact ⟨this.1, this.2.imp id (fun ⟨g, cap, cur, a1, a2, a3⟩ => ⟨g, cap, cur, a1, by omega, a3⟩)⟩

set_option maxHeartbeats 2000000 in
/-- Nothing pends. -/
theorem pending_nil {w : World} {B : Nat} {F : Nat → Prop} {d : Dd} (hk : Dk w B F d) (hp : d.pl = []) :
    Calls Try.prog 26 #[.pointer (some ⟨B, 0, none⟩)] w fun e w' => ∃ g, e = .returned (.slice (some ⟨g, 0, none⟩) 0 0) ∧ Bx w' B 0 d ∧ w.grownBy w' (some B) := by
  obtain ⟨i0, hi, hz0, hz1, hz2⟩ := info_parts info_write
  have hb := hk.bx
  have hv : d.vP = .slice none 0 0 ∨ ∃ g c, d.vP = .slice (some ⟨g, 0, none⟩) 0 c := by
    rcases hk.dm.pr.2 with ⟨e, _⟩ | ⟨g, cap, cur, e, _⟩
    · exact .inl e
    · rw [hp] at e; exact .inr ⟨g, cap, e⟩
  obtain ⟨av, cv, ev⟩ : ∃ a c, d.vP = .slice a 0 c := by
    rcases hv with e | ⟨g, c, e⟩
    · exact ⟨_, _, e⟩
    · exact ⟨_, _, e⟩
  clear hv hk
  go_enter_defers Try.func26, Try.ntmps26
  go_wp2_with fail
  refine (lock_b hb).mono ?_
  rintro e w1 ⟨rfl, hb1, hg1⟩
  have c4 := hb1.c4
  rw [ev] at c4
  go_wp2_with (at_make; refine wpList_make_full _ rfl _ _ 50 rfl w1.heap.size 90 i0 (.agg #[.int .i64 0, .slice none 0 0]) 2 Try.underlying50 hi hz0 hz1 _ _ _ _ 0 rfl rfl rfl rfl ?b2 ?b3 (Nat.le_refl _) ?_)
  case b2 => rw [hz2]; omega
  case b3 => unfold maxLen; omega
  intro w2 hown hg2
  have hb2 := hb1.kept hg2 (by simp)
  have c4' := hb2.c4
  rw [ev] at c4'
  clear c4
  go_wp2_with fail
  go_loopw [24] (fun si wr => si = .int .i64 0 ∧ wr = w2) (fun _ _ => 0)
  case atStart => exact ⟨rfl, rfl⟩
  case round =>
    obtain ⟨rfl, rfl⟩ := hrel
    go_wp2_with fail
    refine leaves_cons (f := 46) (args := #[.pointer (some ⟨B, 0, none⟩)]) (by simp) (by simp [go_sem]) ?_
    refine (unlock_b .returning hb2).mono ?_
    rintro e u' w5 ⟨rfl, rfl, hb5, hg5⟩
    exact ⟨_, results_tmp rfl _ _ _, _, rfl, hb5, grown_trans (grown_trans hg1 (grown_any hg2)) hg5⟩
end Go.Proofs.Ytiljdhhfhjhhiaa
