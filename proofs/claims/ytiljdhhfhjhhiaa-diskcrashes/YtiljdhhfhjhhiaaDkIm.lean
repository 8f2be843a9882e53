import Derived.Test.YtiljdhhfhjhhiaaDkA
import Derived.Deep.RegionLaw
namespace Go.Proofs.Ytiljdhhfhjhhiaa
open Go.RowKit Go.MuLone

set_option maxHeartbeats 2000000 in
set_option maxRecDepth 8000 in
theorem image_no (c : Int) (ao : Option Addr) (n cap : Nat) (w : World) (hn : n ≤ 9223372036854775807) (h : (c < 2 ∨ 524287 < c) ∨ ¬ n % 4096 = 0 ∨ c < ((n / 4096 : Nat) : Int)) : Calls Try.prog 10 #[.int .i64 c, .slice ao n cap] w fun e w' => e = .returned (.tuple #[.pointer none, .int .i64 120]) ∧ w.grownBy w' none := by
  by_cases hc : c < 2 ∨ 524287 < c
  · go_enter Try.func10, Try.ntmps10
    go_wp2_with fail
    refine (new_no c w hc).mono ?_
    rintro e w1 ⟨rfl, rfl⟩
    go_wp2
    go_ret2
    exact ⟨rfl, World.grownBy.refl _ _⟩
  · obtain ⟨k, rfl⟩ : ∃ k : Nat, c = k := ⟨c.toNat, by omega⟩
    have h0 : ¬ n % 4096 = 0 ∨ (k : Int) < ((n / 4096 : Nat) : Int) := h.resolve_left hc
    have d1 : (n : Int).tmod 4096 = ((n % 4096 : Nat) : Int) := by rw [Int.tmod_eq_emod_of_nonneg (by omega)]; omega
    have d2 : (n : Int).tdiv 4096 = ((n / 4096 : Nat) : Int) := by rw [Int.tdiv_eq_ediv_of_nonneg (by omega)]; omega
    go_enter Try.func10, Try.ntmps10
    go_wp2_with fail
    refine (dz_new k w (by omega) (by omega)).mono ?_
    rintro e w1 ⟨B, rfl, hg1, -⟩
    by_cases h1 : n % 4096 = 0
    · have h2 := h0.resolve_left (fun e => e h1)
      have h1' : (n : Int).tmod 4096 = 0 := by rw [d1, h1]; rfl
      have h2' : (k : Int) < (n : Int).tdiv 4096 := by rw [d2]; exact h2
      clear d1 d2
      go_wp2
      go_ret2
      exact ⟨rfl, hg1⟩
    · have h1' : ¬ (n : Int).tmod 4096 = 0 := by rw [d1]; omega
      clear d1 d2
      go_wp2
      go_ret2
      exact ⟨rfl, hg1⟩

/-- The bytes cut in pages. -/
def pgsOf (m : Nat) (z : List Int) : List (List Int) := (List.range m).map fun j => (z.drop (4096 * j)).take 4096
theorem pgsOf_len (m : Nat) (z : List Int) : (pgsOf m z).length = m := by simp [pgsOf]
theorem pgsOf_at (m : Nat) (z : List Int) (j : Nat) (h : j < m) : (pgsOf m z)[j]? = some ((z.drop (4096 * j)).take 4096) := by simp [pgsOf, h]

/-- While the pages are laid. -/
structure Im (w wr : World) (B : Nat) (d : Dd) (v : Value) (bl : List (Nat × List Int)) : Prop where
  bx : Bx wr B 0 { d with vL := v, bl := bl }
  dm : Dm wr (fun k => w.heap.size ≤ k ∧ k < wr.heap.size) { d with vL := v, bl := bl }
  gr : w.grownBy wr none
  ge : w.heap.size ≤ B

theorem Im.next {w wr w2 W1 w3 : World} {B : Nat} {d : Dd} {v v3 : Value} {bl : List (Nat × List Int)} {z : List Int} (q : Im w wr B d v bl) (hz : z.length = 4096) (bz : Bt z)
    (g2 : wr.grownBy w2 none) (r2 : Rw w2 wr.heap.size z) (hW : Qt (w2.alloc (.cells #[pv wr.heap.size] 22)) W1) (hg3 : W1.grownBy w3 v.ownBlock) (own3 : w3.ownsRow 0 22 1 v3 (bl.length + 1) ((bl.map fun x => pv x.1) ++ [pv wr.heap.size])) (loc3 : v3.ownBlock = v.ownBlock ∨ v3.ownBlock = some W1.heap.size) :
    Im w (w3.setCell ⟨B, 3, none⟩ v3) B d v3 (bl ++ [(wr.heap.size, z)]) := by
  have g1 : wr.grownBy W1 none := grown_trans (grown_trans g2 (World.grownBy_alloc _ _ _)) (hW.grown none)
  have b1 := q.bx.kept g1 (by simp)
  have m1 := q.dm.keptN g1
  have hnB := m1.other b1 (by decide) (by decide) (by decide)
  have b3 : Bx w3 B 0 { d with vL := v, bl := bl } := b1.kept hg3 (fun e => hnB (.inl e.symm))
  have s0 := q.gr.size
  have s1 := g1.size
  have s3 := hg3.size
  have sr := r2.lt
  have sA : W1.heap.size = w2.heap.size + 1 := by rw [hW.heap]; simp
  have rz : Rw W1 wr.heap.size z := r2.keptN (grown_trans (World.grownBy_alloc _ _ _) (hW.grown none))
  have m3 : Dm w3 (fun k => w.heap.size ≤ k ∧ k < w3.heap.size) { d with vL := v3, bl := bl ++ [(wr.heap.size, z)] } :=
    m1.more (fun k hk => q.dm.low k hk) rz hz bz hg3 own3 loc3 (fun k hk => ⟨hk.1, by omega⟩) ⟨s0, by omega⟩ (fun e => ⟨by omega, (own3.lt _ e).2⟩) (fun k hk => hk.2)
  have g4 : w3.grownBy (w3.setCell ⟨B, 3, none⟩ v3) (some B) := grown_cell w3 B 3 v3
  have sW : (w3.setCell ⟨B, 3, none⟩ v3).heap.size = w3.heap.size := by simp
  refine ⟨b3.set 3 v3 0 { d with vL := v3, bl := bl ++ [(wr.heap.size, z)] } rfl, ?_, ?_, q.ge⟩
  · rw [sW]
    exact m3.box (d' := { d with vL := v, bl := bl }) b3 g4
  · refine grown_new ?_ g4 q.ge
    have hg := grown_trans q.gr g1
    refine ⟨hg3.os.trans hg.os, hg3.tape.trans hg.tape, hg3.output.trans hg.output, Nat.le_trans hg.size hg3.size, fun i hi hn => (hg3.block i (Nat.lt_of_lt_of_le hi hg.size) (fun e => ?_)).trans (hg.block i hi hn)⟩
    have := (q.dm.fl i e.symm).1
    omega

theorem cell_oneIm (w : World) (a : Value) (t : TypeId) : ∀ j u, [a][j]? = some u → (w.alloc (.cells #[a] t)).cell? ((⟨w.heap.size, 0, none⟩ : Addr).add j) = some u := by
  intro j u hu
  rw [Addr.add_lit, Nat.zero_add, cell_of_row _ w.heap.size j _ _ (0, 0) (heap_alloc_new w _)]
  simpa using hu
set_option maxHeartbeats 8000000 in
set_option maxRecDepth 8000 in
theorem image_ok (c m : Nat) (ao : Option Addr) (n cap : Nat) (z : List Int) (w : World) (hb : Byt w ao n cap z) (bz : Bt z) (hn : n = 4096 * m) (hcap : n ≤ cap ∧ cap ≤ 9223372036854775807) (h2 : 2 ≤ c) (h3 : c < 524288) (hm : m ≤ c) : Calls Try.prog 10 #[.int .i64 c, .slice ao n cap] w fun e w' =>
    ∃ B, e = .returned (.tuple #[.pointer (some ⟨B, 0, none⟩), .int .i64 0]) ∧ w.grownBy w' none ∧ Dz w' B (fun k => w.heap.size ≤ k ∧ k < w'.heap.size) ⟨c, 0, false, 0, 0, pgsOf m z, []⟩ := by
  obtain ⟨i0, hinf, hz0, hz1, hz2⟩ := info_parts info_bytes
  have d1 : (n : Int).tmod 4096 = 0 := by rw [Int.tmod_eq_emod_of_nonneg (by omega)]; omega
  have d2 : ¬ (c : Int) < (n : Int) / 4096 := by omega
  have hlz := hb.len
  have HN := hid_intro hn
  clear hn
  have HB := hid_intro hb
  have HZ := hid_intro bz
  clear hb bz
  obtain ⟨hc1, hc2⟩ := hcap
  go_enter Try.func10, Try.ntmps10
  go_wp2_with fail
  refine (new_b c w h2 h3).mono ?_
  rintro e w1 ⟨B, rfl, hg1, hk1⟩
  obtain ⟨d, hd⟩ : ∃ d, d = Dd.new c w.heap.size := ⟨_, rfl⟩
  rw [← hd] at hk1
  have I1 : Hid (Im w w1 B d d.vL d.bl) := ⟨hk1.bx, hk1.dm, hg1, hk1.fb.1⟩
  have HK := hid_intro hk1
  have HD := hid_intro hd
  clear hk1 hg1 hd
  go_wp2_with fail
  go_loopw [7] (fun si wr => ∃ (j a : Nat) (v : Value) (bl : List (Nat × List Int)), j ≤ m ∧ a = 4096 * j ∧ si = .int .i64 (a : Int) ∧ bl.length = j ∧ Im w wr B d v bl ∧ bl.map (·.2) = (pgsOf m z).take j) (fun si _ => n - (intOf si).toNat)
  case atStart =>
    refine ⟨0, 0, d.vL, d.bl, Nat.zero_le _, rfl, rfl, ?_, I1.out, ?_⟩
    · rw [HD.out]; rfl
    · rw [HD.out]; rfl
  case round =>
    obtain ⟨j, a, v, bl, hj, ha, rfl, hbl, hI, hmap⟩ := hrel
    have hn := HN.out
    obtain ⟨av, cv, ev⟩ : ∃ ao cap, v = .slice ao bl.length cap := owns_slice hI.dm.lr
    subst ev
    have c3 := hI.bx.c3
    have f3 := hI.bx.fz 3
    simp only at c3
    by_cases hlt : j < m
    · have hlt' : (a : Int) < (n : Int) := by omega
      obtain ⟨b, off, eao, -, -⟩ := HB.out.at (by omega)
      subst eao
      obtain ⟨ZJ, hZJ⟩ : ∃ ZJ, (z.drop a).take 4096 = ZJ := ⟨_, rfl⟩
      have BJ : Hid (∀ W : World, w.grownBy W none → Byt W (some ⟨b, off + a, none⟩) 4096 (cap - a) ZJ) := fun W hW => by
        have := ((HB.out.keptN hW).drop a (cap - a) (by omega)).take 4096 (cap - a) (by omega) (fun e => by cases e)
        rw [hZJ] at this
        exact this
      have hZl : ZJ.length = 4096 := (BJ.out w (World.grownBy.refl _ _)).len
      have hZb : Bt ZJ := by rw [← hZJ]; exact (HZ.out.drop _).take _
      have gB1 : (0 : Int) ≤ (a : Int) := by omega
      have gB2 : (a : Int) ≤ (a : Int) + 4096 := by omega
      have gB3 : (a : Int) + 4096 ≤ (cap : Int) := by omega
      have hbl2 : bl.length < 524288 := by omega
      obtain ⟨A2, hA2⟩ : ∃ A2, A2 = a + 4096 := ⟨_, rfl⟩
      have gBw : IntKind.i64.wrap ((a : Int) + 4096) = (A2 : Int) := by simp [IntKind.wrap, IntKind.bits, IntKind.signed]; omega
      have gA1 : (a : Int) ≤ (A2 : Int) := by omega
      have gA2 : (A2 : Int) ≤ (cap : Int) := by omega
      have gA3 : A2 - a = 4096 := by omega
      have gA4 : ¬ cap = a := by omega
      have HA2 := hid_intro hA2
      have HI := hid_intro hI
      have HM := hid_intro hmap
      have HZJ := hid_intro hZJ
      have HA := hid_intro ha
      have HBL := hid_intro hbl
      clear hI hmap hZJ hn ha hbl hA2 gB2 gB3
      go_wp2_with fail
      go_region_law ((first
        | (go_simp; go_at_call 32; refine (twin_any _ _ _ ZJ _ (by exact BJ.out _ (grown_trans HI.out.gr ((Qt.refl _).drew.grown none))) (by omega)).mono ?_; rintro en w2 ⟨rfl, hr2, hg2⟩; have G2 := hid_intro (grown_trans ((Qt.refl wr).drew.grown none) hg2); have R2 := hid_intro hr2; have c3b := (HI.out.bx.kept G2.out (by simp)).c3; have c3c := (HI.out.bx.kept (grown_trans G2.out (World.grownBy_alloc w2 (.cells #[.slice (some ⟨wr.heap.size, 0, none⟩) 4096 4096] 22) none)) (by simp)).c3; simp only at c3b c3c; clear hr2 hg2)
        | (refine step_append_at rfl (.tmp 35) (.tmp 42) 59 (by rfl) 0 22 i0 (.slice none 0 0) 1 24 Try.underlying59 hinf hz0 hz1 hz2 rfl (by decide) (.slice av bl.length cv) bl.length (bl.map fun x => pv x.1) (by rfl) (by exact HI.out.dm.lr.kept (grown_trans G2.out (World.grownBy_alloc w2 (.cells #[.slice (some ⟨wr.heap.size, 0, none⟩) 4096 4096] 22) none)) (Classical.em _)) ⟨w2.heap.size, 0, none⟩ 1 1 [pv wr.heap.size] (by rfl) (by rfl) (by exact cell_oneIm _ _ _) (by intro u hu; simp at hu; subst hu; rfl) (by unfold maxLen; omega) (by omega) (Nat.zero_le _) ?_; intro v3 w3 ho3 hg3 loc3; obtain ⟨g3, cap3, cur3, e3, -⟩ := ho3.2.resolve_left (fun e => by have := e.2; omega); subst e3; have I3 := hid_intro (HI.out.next hZl hZb G2.out R2.out (Qt.refl _) hg3 ho3 loc3); have b3 := (HI.out.bx.kept (grown_trans G2.out (World.grownBy_alloc w2 (.cells #[.slice (some ⟨wr.heap.size, 0, none⟩) 4096 4096] 22) none)) (by simp)); have b3' := b3.kept hg3 (fun e => (HI.out.dm.keptN (grown_trans G2.out (World.grownBy_alloc w2 (.cells #[.slice (some ⟨wr.heap.size, 0, none⟩) 4096 4096] 22) none))).other b3 (by decide) (by decide) (by decide) (.inl e.symm)); have c33 := b3'.c3; have f33 := b3'.fz 3; clear ho3 hg3 loc3 b3 b3')))
      all_goals
        go_wp2
        go_roundw
        case rel =>
          refine ⟨j + 1, A2, _, bl ++ [(wr.heap.size, ZJ)], by omega, by have := HA.out; have := HA2.out; omega, by go_num, by rw [List.length_append, HBL.out]; rfl, I3.out, ?_⟩
          · rw [List.map_append, HM.out, List.take_add_one, pgsOf_at m z j hlt, ← HA.out, HZJ.out]
            rfl
        case measure => simp [intOf]; omega
    · obtain rfl : j = m := by omega
      have hnl : ¬ (a : Int) < (n : Int) := by omega
      have c6 := hI.bx.c6
      have f6 := hI.bx.fz 6
      have HI := hid_intro hI
      have HM := hid_intro hmap
      have HBL := hid_intro hbl
      clear hI hmap hn ha
      go_wp2
      go_ret2
      have hs : (wr.setCell ⟨B, 6, none⟩ (.int .i64 (j : Int))).heap.size = wr.heap.size := by simp
      have gs := grown_cell wr B 6 (.int .i64 (j : Int))
      have hi := HI.out
      have hd := HD.out
      subst hd
      refine ⟨B, rfl, grown_new hi.gr gs hi.ge, { Dd.new c w.heap.size with vL := .slice av bl.length cv, bl := bl, pg := j }, ⟨hi.bx.set 6 _ 0 _ rfl, ?_, ⟨hi.ge, by rw [hs]; exact hi.bx.lt⟩, ?_, h3, hm, ?_⟩, ?_⟩
      · rw [hs]
        exact (hi.dm.box hi.bx gs).scal rfl rfl rfl rfl rfl (Nat.le_refl _)
      · show j = pgs bl.length []
        rw [HBL.out]; rfl
      · intro i h1 h2
        change bl.length ≤ i at h1
        change i < j at h2
        have := HBL.out
        omega
      · show Ds.mk _ _ _ _ _ _ _ = _
        have hmm := HM.out
        rw [List.take_of_length_le (by rw [pgsOf_len]; exact Nat.le_refl _)] at hmm
        rw [hmm]
        rfl
end Go.Proofs.Ytiljdhhfhjhhiaa
