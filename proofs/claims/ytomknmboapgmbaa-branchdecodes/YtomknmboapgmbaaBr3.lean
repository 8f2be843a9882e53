import Derived.Test.YtomknmboapgmbaaBr2
namespace Go.Proofs.Ytomknmboapgmbaa
open Go.RowKit

set_option maxHeartbeats 400000 in
set_option maxRecDepth 100000 in
theorem layKid_any (G q : Nat) (cs : List Int) (k : Kd) (no ks : Int) (w : World) (hr : Rt w G 75 cs) (hk : wk k = false) (h1 : k.no = no) (h2 : k.keys = ks) (hq : q + 8 ≤ cs.length) :
    Calls Try.prog 59 #[.slice (some ⟨G, q, none⟩) 8 8, .agg #[.int .i64 no, .int .i64 ks]] w fun en w' => en = .returned (.tuple #[]) ∧ Rt w' G 75 (splice cs q (kb k)) ∧ w.grownBy w' (some G) := by
  have hp := wk_parts hk
  obtain ⟨a, ha⟩ : ∃ a : Nat, no = (a : Int) := ⟨no.toNat, by omega⟩
  obtain ⟨b, hb⟩ : ∃ b : Nat, ks = (b : Int) := ⟨ks.toNat, by omega⟩
  subst ha hb
  have ha2 : a < 4294967296 := by omega
  have hb2 : b < 4294967296 := by omega
  have hwa : IntKind.u32.wrap (a : Int) = (a : Int) := by simp [IntKind.wrap, IntKind.bits, IntKind.signed]; omega
  have hwb : IntKind.u32.wrap (b : Int) = (b : Int) := by simp [IntKind.wrap, IntKind.bits, IntKind.signed]; omega
  have HKB : Hid (kb k = lb 4 a ++ lb 4 b) := by show _ = _; unfold kb; rw [h1, h2]; rfl
  have HSP : Hid (splice (splice cs q (lb 4 a)) (q + 4) (lb 4 b) = splice cs q (lb 4 a ++ lb 4 b)) := by
    have := splice_two (cs := cs) (xs := lb 4 a) (ys := lb 4 b) (p := q) (by rw [lb_len, lb_len]; omega)
    rw [lb_len] at this
    exact this
  have HL1 : Hid ((splice cs q (lb 4 a)).length = cs.length) := splice_len (by rw [lb_len]; omega)
  have ga := World.grownBy_alloc w (.cells #[.int .i64 (a : Int), .int .i64 (b : Int)] 37) none
  have k1 : Hid ((w.alloc (.cells #[.int .i64 (a : Int), .int .i64 (b : Int)] 37)).cell? ⟨w.heap.size, 1, none⟩ = some (.int .i64 (b : Int))) := by show _ = _; rw [cell_of_row _ w.heap.size 1 _ _ (0, 0) (heap_alloc_new w _)]; rfl
  have HG := hid_intro ga
  have HR := hid_intro (hr.keptN ga)
  have hGl := hr.lt
  have hBl : w.heap.size < (w.alloc (.cells #[.int .i64 (a : Int), .int .i64 (b : Int)] 37)).heap.size := by simp
  have HNE : Hid (w.heap.size ≠ G) := fun e => by omega
  clear hr hk h1 h2 hp ga hGl
  go_enter Try.func59, Try.ntmps59
  go_wp2_with fail
  go_region_law
    (first
      | (have z2 := R2; refine step_copy_rt rfl (.tmp 5) (.tmp 9) (by rfl) _ _ _ _ _ _ (by rfl) (by rfl) G q 75 cs (lb 4 a) (by exact R2) (by exact hb3) (by omega) (fun _ => rfl) (by omega) ?_; intro w3 hr3 hg3 hs3; have d1 := hg3.cell e1 (fun e => HNE.out (Option.some.inj e)))
      | (go_simp; go_at_call 81; refine (put_u32_nil a _ ha2).mono ?_; rintro en w2 ⟨rfl, hb2', hg2, hs2⟩; have hb3 : Byt w2 (some ⟨w.heap.size + 1, 0, none⟩) 4 4 (lb 4 a) := (by simpa using hb2'); have R2 := HR.out.keptN (grown_trans ((Qt.refl _).drew.grown none) hg2); have e1 := (grown_trans ((Qt.refl _).drew.grown none) hg2).cell k1.out (by simp)))
  all_goals
    have T3 := hid_intro (grown_trans (grown_any (grown_trans HG.out (grown_trans ((Qt.refl _).drew.grown none) hg2))) hg3)
    have R3 := hid_intro hr3
    have D1 := hid_intro d1
    clear hb2' hb3 hg2 hs2 hg3 hs3 hr3 R2 e1 d1 HR HG k1
    have d1 := D1.out
    go_wp2_with fail
    go_region_law
      (first
        | (have z4 := R4; refine step_copy_rt rfl (.tmp 12) (.tmp 16) (by rfl) _ _ _ _ _ _ (by rfl) (by rfl) G (q + 4) 75 (splice cs q (lb 4 a)) (lb 4 b) (by exact R4) (by exact hb4) (by omega) (fun _ => rfl) (by rw [HL1.out]; omega) ?_; intro w5 hr5 hg5 hs5)
        | (go_simp; go_at_call 81; refine (put_u32_nil b _ hb2).mono ?_; rintro en w4 ⟨rfl, hb4, hg4, hs4⟩; have R4 := R3.out.keptN (grown_trans ((Qt.refl _).drew.grown none) hg4)))
    all_goals
      go_wp2
      refine Go.Great.bodyPost_end0 rfl rfl ?_
      refine ⟨rfl, ?_, grown_trans T3.out (grown_trans (grown_any (grown_trans ((Qt.refl _).drew.grown none) hg4)) hg5)⟩
      rw [HKB.out, ← HSP.out]
      exact hr5

theorem splice_three {cs A B C : List Int} {q a b : Nat} (ha : A.length = a) (hb : B.length = b) (h : q + a + b + C.length ≤ cs.length) :
    splice (splice (splice cs q A) (q + a) B) (q + a + b) C = splice cs q (A ++ (B ++ C)) := by
  subst ha hb
  have e1 := splice_two (cs := cs) (xs := A) (ys := B) (p := q) (by omega)
  have e2 := splice_two (cs := cs) (xs := A ++ B) (ys := C) (p := q) (by simp only [List.length_append]; omega)
  simp only [List.length_append, ← Nat.add_assoc] at e2
  rw [e1, e2, List.append_assoc]

set_option maxHeartbeats 1000000 in
set_option maxRecDepth 100000 in
theorem layCell_any (G q : Nat) (cs : List Int) (so : Option Addr) (r c : Nat) (p : Nat) (x : Sk) (no ks : Int) (m : Nat) (w : World) (hr : Rt w G 75 cs) (hs : Byt w so r c (x.sep.drop p)) (hsb : ∀ ad, so = some ad → 0 < r → ad.block ≠ G) (hk : wk x.kid = false) (h1 : x.kid.no = no) (h2 : x.kid.keys = ks) (hm : (bcb p x).length = m) (hq : q + m ≤ cs.length) (hr5 : r ≤ 1000) :
    Calls Try.prog 61 #[.slice (some ⟨G, q, none⟩) m m, .slice so r c, .agg #[.int .i64 no, .int .i64 ks]] w fun en w' => en = .returned (.tuple #[]) ∧ Rt w' G 75 (splice cs q (bcb p x)) ∧ w.grownBy w' (some G) := by
  have hl := hs.len
  have hl2 : x.sep.length - p = r := by rw [← hl, List.length_drop]
  have HCB : Hid (bcb p x = vform r ++ (x.sep.drop p ++ kb x.kid)) := by show _ = _; unfold bcb; rw [hl2]
  have P1 := hid_intro (fun W : World => putV_nil r W (by omega))
  obtain ⟨l1, hl1⟩ : ∃ l1, (vform r).length = l1 := ⟨_, rfl⟩
  have hl9 : l1 ≤ 10 := by rw [← hl1]; exact vl_le r
  have hm2 : m = l1 + r + 8 := by rw [← hm, HCB.out, List.length_append, List.length_append, kb_len, hl, hl1]; omega
  rw [hl1] at P1
  have HL1 := hid_intro hl1
  have HLB := hid_intro hl
  clear hl1 hl2 hl hm
  generalize hB : x.sep.drop p = B at *
  have HBB := hid_intro hB
  generalize vform r = A at *
  clear hB
  have HSP : Hid (splice (splice (splice cs q A) (q + l1) B) (q + l1 + r) (kb x.kid) = splice cs q (A ++ (B ++ kb x.kid))) := splice_three HL1.out HLB.out (by rw [kb_len]; omega)
  have HS1 : Hid ((splice cs q A).length = cs.length) := splice_len (by rw [HL1.out]; omega)
  have HS2 : Hid ((splice (splice cs q A) (q + l1) B).length = cs.length) := by show _ = _; rw [splice_len (by rw [HS1.out, HLB.out]; omega)]; exact HS1.out
  have ga := World.grownBy_alloc w (.cells #[.int .i64 no, .int .i64 ks] 37) none
  have k0 : Hid ((w.alloc (.cells #[.int .i64 no, .int .i64 ks] 37)).cell? ⟨w.heap.size, 0, none⟩ = some (.int .i64 no)) := by show _ = _; rw [cell_of_row _ w.heap.size 0 _ _ (0, 0) (heap_alloc_new w _)]; rfl
  have k1 : Hid ((w.alloc (.cells #[.int .i64 no, .int .i64 ks] 37)).cell? ⟨w.heap.size, 1, none⟩ = some (.int .i64 ks)) := by show _ = _; rw [cell_of_row _ w.heap.size 1 _ _ (0, 0) (heap_alloc_new w _)]; rfl
  have HG := hid_intro ga
  have HR := hid_intro (hr.keptN ga)
  have HS := hid_intro (hs.keptN ga)
  have hGl := hr.lt
  have HNE : Hid (w.heap.size ≠ G) := fun e => by omega
  have g1 : (l1 : Int) ≤ (m : Int) := by omega
  have g2 : (0 : Int) ≤ (l1 : Int) := by omega
  have g3 : ¬ m = l1 := by omega
  have g4 : (l1 : Int) + (r : Int) + 8 ≤ (m : Int) := by omega
  have g5 : (0 : Int) ≤ (l1 : Int) + (r : Int) := by omega
  clear hr hs ga hGl
  go_enter Try.func61, Try.ntmps61
  go_wp2_with fail
  have K0 := k0.out
  have K1 := k1.out
  clear k0 k1
  generalize w.alloc (.cells #[.int .i64 no, .int .i64 ks] 37) = w1 at *
  generalize w.heap.size = Q at *
  refine (P1.out _).mono ?_
  rintro en w2 ⟨rfl, hb2, hg2, hs2⟩
  have R2 := hid_intro (HR.out.keptN hg2)
  have B2 := hid_intro hb2
  have S2 := hid_intro (HS.out.keptN hg2)
  have G2 := hid_intro (grown_trans HG.out hg2)
  have u0 := hg2.cell K0 (by simp)
  have u1 := hg2.cell K1 (by simp)
  clear hb2 hg2 hs2 HR HS HG K0 K1
  go_wp2_with (refine wpList_copy_rt rfl _ _ rfl _ _ _ _ _ _ rfl rfl G q 75 cs A R2.out B2.out (by omega) (fun _ => rfl) (by omega) ?_)
  intro w3 hr3 hg3 hs3
  have R3 := hid_intro hr3
  have S3 := hid_intro (S2.out.kept hg3 (fun ad e h e2 => hsb ad e h (Option.some.inj e2)))
  have G3 := hid_intro (grown_trans (grown_any G2.out) hg3)
  have v0 := hg3.cell u0 (fun e => HNE.out (Option.some.inj e))
  have v1 := hg3.cell u1 (fun e => HNE.out (Option.some.inj e))
  clear hr3 hg3 hs3 R2 B2 S2 G2 u0 u1
  go_wp2_with (refine wpList_copy_rt rfl _ _ rfl _ _ _ _ _ _ rfl rfl G (q + l1) 75 (splice cs q A) B R3.out S3.out (by omega) (fun _ => rfl) (by rw [HS1.out]; omega) ?_)
  intro w4 hr4 hg4 hs4
  have R4 := hid_intro hr4
  have G4 := hid_intro (grown_trans G3.out hg4)
  have u0 := hg4.cell v0 (fun e => HNE.out (Option.some.inj e))
  have u1 := hg4.cell v1 (fun e => HNE.out (Option.some.inj e))
  clear hr4 hg4 hs4 R3 S3 G3 v0 v1
  go_wp2_with fail
  obtain ⟨d, hd⟩ : ∃ d, l1 + r = d := ⟨_, rfl⟩
  have hdd : (l1 : Int) + (r : Int) = (d : Int) := by omega
  rw [hdd]
  have HD := hid_intro hd
  obtain ⟨D, hD⟩ : ∃ D, d + 8 = D := ⟨_, rfl⟩
  have e7 : IntKind.i64.wrap ((d : Int) + 8) = (D : Int) := by simp [IntKind.wrap, IntKind.bits, IntKind.signed]; omega
  have e8 : D - d = 8 := by omega
  have e9 : (D : Int) ≤ (l1 : Int) + (r : Int) + 8 := by omega
  have e10 : max (D : Int) 0 = (D : Int) := by omega
  have e11 : d ≤ D := by omega
  have e12 : ¬ D = d := by omega
  have e13 : (0 : Int) ≤ (D : Int) := by omega
  have hqd : q + d + 8 ≤ cs.length := by omega
  clear hdd hd hm2 g1 g2 g3 g4 g5 hq hD
  go_region_law ((go_simp; go_at_call 59; refine (layKid_any G (q + d) (splice (splice cs q A) (q + l1) B) x.kid no ks _ (by exact R4.out.keptN ((Qt.refl _).drew.grown none)) hk h1 h2 (by rw [HS2.out]; omega)).mono ?_; rintro en w5 ⟨rfl, hr5', hg5⟩))
  all_goals
    have HR5 := hid_intro hr5'
    have HG5 := hid_intro (grown_trans (grown_trans G4.out ((Qt.refl _).drew.grown _)) hg5)
    clear hr5' hg5
    go_wp2
    refine Go.Great.bodyPost_end0 rfl rfl ?_
    refine ⟨rfl, ?_, HG5.out⟩
    rw [HCB.out, ← HSP.out, Nat.add_assoc q l1 r, HD.out]
    exact HR5.out
end Go.Proofs.Ytomknmboapgmbaa
