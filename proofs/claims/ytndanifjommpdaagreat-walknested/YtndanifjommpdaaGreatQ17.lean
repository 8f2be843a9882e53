import Derived.Test.YtndanifjommpdaaGreatQ15
namespace Go.Proofs.YtndanifjommpdaaGreat
open Go.RowKit
structure Cf (w : World) (S T U F G : Nat) : Prop where
 f : w.cell? ⟨F, 0, none⟩ = some (.func (.func 146) #[] #[.pointer (some ⟨S, 0, none⟩), .pointer (some ⟨T, 0, none⟩), .pointer (some ⟨U, 0, none⟩)])
 g : w.cell? ⟨G, 0, none⟩ = some (.func (.func 147) #[] #[.pointer (some ⟨S, 0, none⟩), .pointer (some ⟨T, 0, none⟩)])
theorem Cf.keptN {w w' : World} {S T U F G : Nat} (h : Cf w S T U F G) (hg : w.grownBy w' none) : Cf w' S T U F G :=
 ⟨hg.cell h.f (by simp), hg.cell h.g (by simp)⟩
set_option maxHeartbeats 4000000 in
set_option maxRecDepth 100000 in
theorem greater_by (S T U F G i a b : Nat) (w : World) (hd : Cf w S T U F G)
  (hF : ∀ W, w.grownBy W none → Calls Tryz.prog 146 #[.int .i64 i, .pointer (some ⟨S, 0, none⟩), .pointer (some ⟨T, 0, none⟩), .pointer (some ⟨U, 0, none⟩)] W fun en w' => en = .returned (.int .i64 (a : Nat)) ∧ W.grownBy w' none)
  (hG : ∀ W, w.grownBy W none → Calls Tryz.prog 147 #[.int .i64 i, .pointer (some ⟨S, 0, none⟩), .pointer (some ⟨T, 0, none⟩)] W fun en w' => en = .returned (.int .i64 (b : Nat)) ∧ W.grownBy w' none) :
  Calls Tryz.prog 148 #[.int .i64 i, .pointer (some ⟨F, 0, none⟩), .pointer (some ⟨G, 0, none⟩)] w fun en w' => en = .returned (.int .i64 ((max a b : Nat) : Int)) ∧ w.grownBy w' none := by
 have c1 := hd.f
 have c2 := hd.g
 have HD := hid_intro hd
 have HF := hid_intro hF
 have HG := hid_intro hG
 obtain ⟨M, hM⟩ : ∃ M : Nat, max a b = M := ⟨_, rfl⟩
 have hmax : ∀ (ts : Array TypeId) (t : TypeId) (W : World), (Builtin.max_ ts t #[.int .i64 a, .int .i64 b]).run Tryz.prog W = .ok (.int .i64 M) W := fun ts t W => by rw [run_max_int2, max_int, hM]
 rw [hM]
 have G0 := hid_intro ((Qt.refl w).drew.grown none)
 clear hd hF hG hM
 go_enter Tryz.func148, Tryz.ntmps148
 go_wp2
 go_region_with (first
  | (go_at_call 146; refine (HF.out w.drew G0.out).mono ?_; rintro en wa ⟨rfl, hga⟩; have da := (HD.out.keptN (grown_trans G0.out hga)).g)
  | (go_at_call 146; refine (HF.out wb (grown_trans G0.out hgb)).mono ?_; rintro en wc ⟨rfl, hgc⟩)
  | (go_at_call 147; refine (HG.out w.drew G0.out).mono ?_; rintro en wb ⟨rfl, hgb⟩; have db := (HD.out.keptN (grown_trans G0.out hgb)).f)
  | (go_at_call 147; refine (HG.out wa (grown_trans G0.out hga)).mono ?_; rintro en wc ⟨rfl, hgc⟩))
 all_goals (go_wp2; go_ret; first | exact ⟨rfl, grown_trans (grown_trans G0.out hga) hgc⟩ | exact ⟨rfl, grown_trans (grown_trans G0.out hgb) hgc⟩)
set_option maxHeartbeats 4000000 in
set_option maxRecDepth 100000 in
theorem pred_by (S T U F G k a b : Nat) (w : World) (hk : k ≤ 100000) (hd : Cf w S T U F G)
  (hF : ∀ W, w.grownBy W none → Calls Tryz.prog 146 #[.int .i64 ((k + 1 : Nat) : Int), .pointer (some ⟨S, 0, none⟩), .pointer (some ⟨T, 0, none⟩), .pointer (some ⟨U, 0, none⟩)] W fun en w' => en = .returned (.int .i64 (a : Nat)) ∧ W.grownBy w' none)
  (hG : ∀ W, w.grownBy W none → Calls Tryz.prog 147 #[.int .i64 ((k + 1 : Nat) : Int), .pointer (some ⟨S, 0, none⟩), .pointer (some ⟨T, 0, none⟩)] W fun en w' => en = .returned (.int .i64 (b : Nat)) ∧ W.grownBy w' none) :
  Calls Tryz.prog 149 #[.int .i64 k, .pointer (some ⟨F, 0, none⟩), .pointer (some ⟨G, 0, none⟩)] w fun en w' => en = .returned (.bool (decide (b ≤ a))) ∧ w.grownBy w' none := by
 have c1 := hd.f
 have c2 := hd.g
 have HD := hid_intro hd
 have HF := hid_intro hF
 have HG := hid_intro hG
 obtain ⟨j, hj⟩ : ∃ j : Nat, k + 1 = j := ⟨_, rfl⟩
 rw [hj] at HF HG
 have e1 : (k : Int) + 1 = (j : Int) := by omega
 have w1 : IntKind.i64.wrap (j : Int) = (j : Int) := by rw [IntKind.wrap_i64]; omega
 have G0 := hid_intro ((Qt.refl w).drew.grown none)
 have hdec : decide (b ≤ a) = decide ((b : Int) ≤ (a : Int)) := by simp
 have HDE := hid_intro hdec
 clear hd hF hG hj hdec
 go_enter Tryz.func149, Tryz.ntmps149
 go_wp2
 go_region_with (first
  | (go_at_call 146; refine (HF.out w.drew G0.out).mono ?_; rintro en wa ⟨rfl, hga⟩; have da := (HD.out.keptN (grown_trans G0.out hga)).g)
  | (go_at_call 146; refine (HF.out wb (grown_trans G0.out hgb)).mono ?_; rintro en wc ⟨rfl, hgc⟩)
  | (go_at_call 147; refine (HG.out w.drew G0.out).mono ?_; rintro en wb ⟨rfl, hgb⟩; have db := (HD.out.keptN (grown_trans G0.out hgb)).f)
  | (go_at_call 147; refine (HG.out wa (grown_trans G0.out hga)).mono ?_; rintro en wc ⟨rfl, hgc⟩))
 all_goals (go_wp2; go_ret; first | exact ⟨by rw [HDE.out]; rfl, grown_trans (grown_trans G0.out hga) hgc⟩ | exact ⟨by rw [HDE.out]; rfl, grown_trans (grown_trans G0.out hgb) hgc⟩)
end Go.Proofs.YtndanifjommpdaaGreat
