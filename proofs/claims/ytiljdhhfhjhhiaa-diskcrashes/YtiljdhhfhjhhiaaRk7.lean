import Derived.Test.YtiljdhhfhjhhiaaRk6
namespace Go.Proofs.Ytiljdhhfhjhhiaa
open Go.RowKit Go.MuLone

set_option maxHeartbeats 2000000 in
set_option maxRecDepth 8000 in
theorem rimage_no (c : Int) (ao : Option Addr) (n cap : Nat) (w : World) (hn : n ≤ 9223372036854775807) (h : (c < 2 ∨ 524287 < c) ∨ ¬ n % 4096 = 0 ∨ c < ((n / 4096 : Nat) : Int)) : Calls Try.prog 12 #[.int .i64 c, .slice ao n cap] w fun e w' => e = .returned (.tuple #[.pointer none, .int .i64 120]) ∧ w.grownBy w' none := by
  by_cases hc : c < 2 ∨ 524287 < c
  · go_enter Try.func12, Try.ntmps12
    go_wp2_with fail
    refine (rnew_no c w hc).mono ?_
    rintro e w1 ⟨rfl, rfl⟩
    go_wp2
    go_ret2
    exact ⟨rfl, World.grownBy.refl _ _⟩
  · obtain ⟨k, rfl⟩ : ∃ k : Nat, c = k := ⟨c.toNat, by omega⟩
    have h0 : ¬ n % 4096 = 0 ∨ (k : Int) < ((n / 4096 : Nat) : Int) := h.resolve_left hc
    have d1 : (n : Int).tmod 4096 = ((n % 4096 : Nat) : Int) := by rw [Int.tmod_eq_emod_of_nonneg (by omega)]; omega
    have d2 : (n : Int).tdiv 4096 = ((n / 4096 : Nat) : Int) := by rw [Int.tdiv_eq_ediv_of_nonneg (by omega)]; omega
    go_enter Try.func12, Try.ntmps12
    go_wp2_with fail
    refine (rnew_b k w (by omega) (by omega)).mono ?_
    rintro e w1 ⟨B, rfl, hg1, -⟩
    by_cases h1 : n % 4096 = 0
    · have h2 := h0.resolve_left (fun e => e h1)
      have h1' : (n : Int).tmod 4096 = 0 := by rw [d1, h1]; rfl
      have h2' : (k : Int) < (n : Int).tdiv 4096 := by rw [d2]; exact h2
      clear d1 d2
      go_wp2
      go_ret2
      exact ⟨rfl, hg1⟩
    · have h1' : ¬ (n : Int).tmod 4096 = 0 := by rw [d1]; omega
      clear d1 d2
      go_wp2
      go_ret2
      exact ⟨rfl, hg1⟩

/-- While the pages are laid. -/
structure Imr (w wr : World) (B : Nat) (d : Dd) (v : Value) (bl : List (Nat × List Int)) : Prop where
  bx : Rx wr B { d with vL := v, bl := bl }
  dm : Rm wr (fun k => w.heap.size ≤ k ∧ k < wr.heap.size) { d with vL := v, bl := bl }
  gr : w.grownBy wr none
  ge : w.heap.size ≤ B

theorem Imr.next {w wr w2 w3 : World} {B : Nat} {d : Dd} {v v3 : Value} {bl : List (Nat × List Int)} {z : List Int} (q : Imr w wr B d v bl) (hz : z.length = 4096) (bz : Bt z)
    (g2 : wr.grownBy w2 none) (r2 : Rw w2 wr.heap.size z) (hg3 : (w2.alloc (.cells #[pv wr.heap.size] 22)).grownBy w3 v.ownBlock) (own3 : w3.ownsRow 0 22 1 v3 (bl.length + 1) ((bl.map fun x => pv x.1) ++ [pv wr.heap.size])) (loc3 : v3.ownBlock = v.ownBlock ∨ v3.ownBlock = some (w2.alloc (.cells #[pv wr.heap.size] 22)).heap.size) :
    Imr w (w3.setCell ⟨B, 1, none⟩ v3) B d v3 (bl ++ [(wr.heap.size, z)]) := by
  have g1 : wr.grownBy (w2.alloc (.cells #[pv wr.heap.size] 22)) none := grown_trans g2 (World.grownBy_alloc _ _ _)
  have b1 := q.bx.kept g1 (by simp)
  have m1 := q.dm.keptN g1
  have hnB := m1.other b1 (by decide) (by decide) (by decide)
  have b3 : Rx w3 B { d with vL := v, bl := bl } := b1.kept hg3 (fun e => hnB (.inl e.symm))
  have s0 := q.gr.size
  have s1 := g1.size
  have s3 := hg3.size
  have sr := r2.lt
  have sA : (w2.alloc (.cells #[pv wr.heap.size] 22)).heap.size = w2.heap.size + 1 := by simp
  have rz : Rw (w2.alloc (.cells #[pv wr.heap.size] 22)) wr.heap.size z := r2.keptN (World.grownBy_alloc _ _ _)
  have m3 : Rm w3 (fun k => w.heap.size ≤ k ∧ k < w3.heap.size) { d with vL := v3, bl := bl ++ [(wr.heap.size, z)] } :=
    m1.more rz hz bz hg3 own3 loc3 (fun k hk => ⟨hk.1, by omega⟩) ⟨s0, by omega⟩ (fun e => ⟨by omega, (own3.lt _ e).2⟩) (fun k hk => hk.2)
  have g4 := grown_cell w3 B 1 v3
  have sW : (w3.setCell ⟨B, 1, none⟩ v3).heap.size = w3.heap.size := by simp
  refine ⟨b3.set 1 v3 _ rfl, ?_, ?_, q.ge⟩
  · rw [sW]
    exact m3.box (d' := { d with vL := v, bl := bl }) b3 g4
  · refine grown_new ?_ g4 q.ge
    have hg := grown_trans q.gr g1
    refine ⟨hg3.os.trans hg.os, hg3.tape.trans hg.tape, hg3.output.trans hg.output, Nat.le_trans hg.size hg3.size, fun i hi hn => (hg3.block i (Nat.lt_of_lt_of_le hi hg.size) (fun e => ?_)).trans (hg.block i hi hn)⟩
    have := (q.dm.fl i e.symm).1
    omega

set_option maxHeartbeats 8000000 in
set_option maxRecDepth 8000 in
theorem rimage_ok (c m : Nat) (ao : Option Addr) (n cap : Nat) (z : List Int) (w : World) (hb : Byt w ao n cap z) (bz : Bt z) (hn : n = 4096 * m) (hcap : n ≤ cap ∧ cap ≤ 9223372036854775807) (h2 : 2 ≤ c) (h3 : c < 524288) (hm : m ≤ c) : Calls Try.prog 12 #[.int .i64 c, .slice ao n cap] w fun e w' =>
    ∃ B, e = .returned (.tuple #[.pointer (some ⟨B, 0, none⟩), .int .i64 0]) ∧ w.grownBy w' none ∧ Rz w' B (fun k => w.heap.size ≤ k ∧ k < w'.heap.size) ⟨c, 0, false, 0, 0, pgsOf m z, []⟩ := by
  obtain ⟨i0, hinf, hz0, hz1, hz2⟩ := info_parts info_bytes
  have d1 : (n : Int).tmod 4096 = 0 := by rw [Int.tmod_eq_emod_of_nonneg (by omega)]; omega
  have d2 : ¬ (c : Int) < (n : Int) / 4096 := by omega
  have HN := hid_intro hn
  clear hn
  have HB := hid_intro hb
  have HZ := hid_intro bz
  clear hb bz
  obtain ⟨hc1, hc2⟩ := hcap
  go_enter Try.func12, Try.ntmps12
  go_wp2_with fail
  refine (rnew_b c w h2 h3).mono ?_
  rintro e w1 ⟨B, rfl, hg1, hk1⟩
  obtain ⟨d, hd⟩ : ∃ d, d = Dd.new12 c := ⟨_, rfl⟩
  rw [← hd] at hk1
  have I1 : Hid (Imr w w1 B d d.vL d.bl) := ⟨hk1.bx, hk1.dm, hg1, hk1.fb.1⟩
  have HD := hid_intro hd
  clear hk1 hg1 hd
  go_wp2_with fail
  go_loopw [7] (fun si wr => ∃ (j a : Nat) (v : Value) (bl : List (Nat × List Int)), j ≤ m ∧ a = 4096 * j ∧ si = .int .i64 (a : Int) ∧ bl.length = j ∧ Imr w wr B d v bl ∧ bl.map (·.2) = (pgsOf m z).take j) (fun si _ => n - (intOf si).toNat)
  case atStart =>
    refine ⟨0, 0, d.vL, d.bl, Nat.zero_le _, rfl, rfl, ?_, I1.out, ?_⟩
    · rw [HD.out]; rfl
    · rw [HD.out]; rfl
  case round =>
    obtain ⟨j, a, v, bl, hj, ha, rfl, hbl, hI, hmap⟩ := hrel
    have hn := HN.out
    obtain ⟨av, cv, ev⟩ : ∃ ao cap, v = .slice ao bl.length cap := owns_slice hI.dm.lr
    subst ev
    by_cases hlt : j < m
    · have hlt' : (a : Int) < (n : Int) := by omega
      obtain ⟨b, off, eao, -, -⟩ := HB.out.at (by omega)
      subst eao
      obtain ⟨ZJ, hZJ⟩ : ∃ ZJ, (z.drop a).take 4096 = ZJ := ⟨_, rfl⟩
      have BJ : Hid (∀ W : World, w.grownBy W none → Byt W (some ⟨b, off + a, none⟩) 4096 (cap - a) ZJ) := fun W hW => by
        have := ((HB.out.keptN hW).drop a (cap - a) (by omega)).take 4096 (cap - a) (by omega) (fun e => by cases e)
        rw [hZJ] at this
        exact this
      have hZl : ZJ.length = 4096 := (BJ.out w (World.grownBy.refl _ _)).len
      have hZb : Bt ZJ := by rw [← hZJ]; exact (HZ.out.drop _).take _
      have gB1 : (0 : Int) ≤ (a : Int) := by omega
      have hbl2 : bl.length < 524288 := by omega
      obtain ⟨A2, hA2⟩ : ∃ A2, A2 = a + 4096 := ⟨_, rfl⟩
      have gBw : IntKind.i64.wrap ((a : Int) + 4096) = (A2 : Int) := by simp [IntKind.wrap, IntKind.bits, IntKind.signed]; omega
      have gA1 : (a : Int) ≤ (A2 : Int) := by omega
      have gA2 : (A2 : Int) ≤ (cap : Int) := by omega
      have gA3 : A2 - a = 4096 := by omega
      have gA4 : ¬ cap = a := by omega
      have HA2 := hid_intro hA2
      have HI := hid_intro hI
      have HM := hid_intro hmap
      have HZJ := hid_intro hZJ
      have HA := hid_intro ha
      have HBL := hid_intro hbl
      clear hI hmap hZJ hn ha hbl hA2
      go_wp2_with fail
      refine (refBytes_any _ _ _ ZJ _ (BJ.out _ HI.out.gr) (by omega)).mono ?_
      rintro en w2 ⟨rfl, ho2, hg2, hs2⟩
      have R2 := hid_intro (Rw.of_owns ho2)
      have G2 := hid_intro hg2
      have c1a := (HI.out.bx.kept hg2 (by simp)).c1
      have c1b := (HI.out.bx.kept (grown_trans hg2 (World.grownBy_alloc w2 (.cells #[.slice (some ⟨wr.heap.size, 0, none⟩) 4096 4096] 22) none)) (by simp)).c1
      have OA := hid_intro (HI.out.dm.lr.kept (grown_trans hg2 (World.grownBy_alloc w2 (.cells #[.slice (some ⟨wr.heap.size, 0, none⟩) 4096 4096] 22) none)) (Classical.em _))
      simp only at c1a c1b
      clear ho2 hg2 hs2
      go_wp2_with (at_builtin; refine wpList_append_own_at _ rfl _ _ 59 rfl 0 22 i0 (.slice none 0 0) 1 24 Try.underlying59 hinf hz0 hz1 hz2 rfl (by decide) (.slice av bl.length cv) bl.length _ rfl OA.out ⟨w2.heap.size, 0, none⟩ 1 1 [pv wr.heap.size] rfl rfl (cell_oneIm _ _ _) (by intro u hu; simp at hu; subst hu; rfl) (by unfold maxLen; omega) (by omega) (Nat.zero_le _) ?_)
      intro v3 w3 ho3 hg3 _ loc3
      obtain ⟨g3, cap3, cur3, e3, -⟩ := ho3.2.resolve_left (fun e => by have := e.2; omega)
      subst e3
      have LN := hid_intro (HI.out.next hZl hZb G2.out R2.out hg3 ho3 (by simpa using loc3))
      have b3 := (HI.out.bx.kept (grown_trans G2.out (World.grownBy_alloc w2 (.cells #[pv wr.heap.size] 22) none)) (by simp)).kept hg3 (fun e => (HI.out.dm.keptN (grown_trans G2.out (World.grownBy_alloc w2 (.cells #[pv wr.heap.size] 22) none))).other (HI.out.bx.kept (grown_trans G2.out (World.grownBy_alloc w2 (.cells #[pv wr.heap.size] 22) none)) (by simp)) (by decide) (by decide) (by decide) (.inl e.symm))
      have c13 := b3.c1
      have f13 := b3.fz 1
      clear ho3 hg3 loc3 b3
      go_wp2
      go_roundw
      case rel =>
        refine ⟨j + 1, A2, _, bl ++ [(wr.heap.size, ZJ)], by omega, by have := HA.out; have := HA2.out; omega, by go_num, by rw [List.length_append, HBL.out]; rfl, LN.out, ?_⟩
        rw [List.map_append, HM.out, List.take_add_one, pgsOf_at m z j hlt, ← HA.out, HZJ.out]
        rfl
      case measure => simp [intOf]; omega
    · obtain rfl : j = m := by omega
      have hnl : ¬ (a : Int) < (n : Int) := by omega
      have HI := hid_intro hI
      have HM := hid_intro hmap
      have HBL := hid_intro hbl
      clear hI hmap hn ha hbl
      go_wp2
      go_ret2
      have hi := HI.out
      have hd := HD.out
      subst hd
      refine ⟨B, rfl, hi.gr, { Dd.new12 c with vL := .slice av bl.length cv, bl := bl }, ⟨hi.bx, hi.dm, ⟨hi.ge, hi.bx.lt⟩, h3, ?_⟩, ?_⟩
      · show bl.length ≤ c
        have := HBL.out
        omega
      · show Ds.mk _ _ _ _ _ _ _ = _
        have hmm := HM.out
        rw [List.take_of_length_le (by rw [pgsOf_len]; exact Nat.le_refl _)] at hmm
        rw [hmm]
        rfl
end Go.Proofs.Ytiljdhhfhjhhiaa
