import Derived.Test.YtmicongcnpbkkabQ14
namespace Go.Proofs.Ytmicongcnpbkkab
open Go.RowKit
theorem Lz.take {w : World} {a : Option Addr} {L : List (List Int)} (h : Lz w a L) (i : Nat) : Lz w a (L.take i) := by
 refine ⟨fun j hj => ?_⟩
 rw [List.length_take] at hj
 have e : (L.take i).getD j [] = L.getD j [] := by simp [List.getD, show j < i by omega]
 rw [e]
 exact h.row j (by omega)
theorem Lz.drop {w : World} {b off : Nat} {L : List (List Int)} (h : Lz w (some ⟨b, off, none⟩) L) (i : Nat) : Lz w (some ⟨b, off + i, none⟩) (L.drop i) := by
 refine ⟨fun j hj => ?_⟩
 rw [List.length_drop] at hj
 have e : (L.drop i).getD j [] = L.getD (i + j) [] := by simp [List.getD, List.getElem?_drop]
 rw [e]
 obtain ⟨b', off', ao, n, c, h1, h2⟩ := h.row (i + j) (by omega)
 simp only [Option.some.injEq, Addr.mk.injEq] at h1
 obtain ⟨rfl, rfl, _⟩ := h1
 refine ⟨b, off + i, ao, n, c, rfl, ?_⟩
 rw [show off + i + j = off + (i + j) by omega]
 exact h2
structure Ce (w : World) (S T U : Nat) (a : Option Addr) (n cap up : Nat) : Prop where
 s : w.cell? ⟨S, 0, none⟩ = some (.func (.func 9) #[] #[])
 t : w.cell? ⟨T, 0, none⟩ = some (.slice a n cap)
 u : w.cell? ⟨U, 0, none⟩ = some (.int .i64 up)
theorem Ce.keptN {w w' : World} {S T U : Nat} {a : Option Addr} {n cap up : Nat} (h : Ce w S T U a n cap up) (hg : w.grownBy w' none) : Ce w' S T U a n cap up :=
 ⟨hg.cell h.s (by simp), hg.cell h.t (by simp), hg.cell h.u (by simp)⟩
set_option maxHeartbeats 4000000 in
set_option maxRecDepth 100000 in
theorem first_by (S T U : Nat) (b off n cap up i : Nat) (L : List (List Int)) (w : World) (hc : Ce w S T U (some ⟨b, off, none⟩) n cap up) (hl : Lz w (some ⟨b, off, none⟩) L) (hn : L.length = n) (hm : n ≤ 5000) (hcap : n ≤ cap) (hc2 : cap ≤ 9223372036854775807) (hk : ∀ x ∈ L, x.length ≤ 140737488351232)
  (hup : up ≤ i) (hi : i - up ≤ n) :
  Calls Try.prog 43 #[.int .i64 i, .pointer (some ⟨S, 0, none⟩), .pointer (some ⟨T, 0, none⟩), .pointer (some ⟨U, 0, none⟩)] w fun en w' => en = .returned (.int .i64 ((bsize (L.take (i - up)) : Nat) : Int)) ∧ w.grownBy w' none := by
 obtain ⟨k, hk2⟩ : ∃ k : Nat, i - up = k := ⟨_, rfl⟩
 rw [hk2]
 have e1 : (i : Int) - (up : Int) = (k : Int) := by omega
 have hk3 : k ≤ n := by omega
 have c1 := hc.s
 have c2 := hc.t
 have c3 := hc.u
 have HL := hid_intro (hl.take k)
 have HK : Hid (∀ x ∈ L.take k, x.length ≤ 140737488351232) := fun x hx => hk x (List.mem_of_mem_take hx)
 have hlen : (L.take k).length = k := by rw [List.length_take]; omega
 have HN := hid_intro hlen
 have w1 : IntKind.i64.wrap (k : Int) = (k : Int) := by rw [IntKind.wrap_i64]; omega
 have hk5 : k ≤ 5000 := by omega
 have HS := hid_intro (fun (W : World) (h : W.heap = w.heap) => bsize_any (some ⟨b, off, none⟩) k cap (L.take k) W (HL.out.heap h) HN.out hk5 (by omega) hc2 HK.out)
 have g0 : (0 : Int) ≤ (k : Int) := by omega
 have g3 : ¬ ((k : Int) < 0) := by omega
 have g4 : ¬ ((cap : Int) < (k : Int)) := by omega
 have g1 : (k : Int) ≤ (cap : Int) := by omega
 clear hc hl hk hk2 hlen
 go_enter Try.func43, Try.ntmps43
 go_wp2
 go_region_with (go_at_call 9; refine (HS.out w.drew rfl).mono ?_; rintro en w2 ⟨rfl, hg⟩)
 all_goals (go_wp2; go_ret; exact ⟨rfl, grown_trans ((Qt.refl _).drew.grown none) hg⟩)
set_option maxHeartbeats 4000000 in
set_option maxRecDepth 100000 in
theorem second_by (S T U : Nat) (b off n cap up i : Nat) (L : List (List Int)) (w : World) (hc : Ce w S T U (some ⟨b, off, none⟩) n cap up) (hl : Lz w (some ⟨b, off, none⟩) L) (hn : L.length = n) (hm : n ≤ 5000) (hcap : n ≤ cap) (hc2 : cap ≤ 9223372036854775807) (hk : ∀ x ∈ L, x.length ≤ 140737488351232)
  (hi : i ≤ n) :
  Calls Try.prog 44 #[.int .i64 i, .pointer (some ⟨S, 0, none⟩), .pointer (some ⟨T, 0, none⟩)] w fun en w' => en = .returned (.int .i64 ((bsize (L.drop i) : Nat) : Int)) ∧ w.grownBy w' none := by
 have c1 := hc.s
 have c2 := hc.t
 have HK : Hid (∀ x ∈ L.drop i, x.length ≤ 140737488351232) := fun x hx => hk x (List.mem_of_mem_drop hx)
 have hlen : (L.drop i).length = n - i := by rw [List.length_drop]; omega
 have HN := hid_intro hlen
 have hk5 : n - i ≤ 5000 := by omega
 have HL := hid_intro (hl.drop i)
 have g0 : (0 : Int) ≤ (i : Int) := by omega
 have g1 : (i : Int) ≤ (cap : Int) := by omega
 have g2 : (i : Int) ≤ (n : Int) := by omega
 have hin : i ≤ n := hi
 by_cases hz : cap = i
 ·have h0 : n - i = 0 := by omega
  have hni : n = i := by omega
  have h00 : L.drop i = [] := List.eq_nil_of_length_eq_zero (by omega)
  have HS := hid_intro (fun (W : World) (_ : W.heap = w.heap) => bsize_any (some ⟨b, off, none⟩) 0 0 (L.drop i) W (by rw [h00]; exact Lz.zero _ _) (by rw [hlen, h0]) (by omega) (by omega) (by omega) HK.out)
  clear hc hl hk hlen HL h00
  subst hz
  subst hni
  clear hcap hi hin hn h0 HN HK
  go_enter Try.func44, Try.ntmps44
  go_wp2
  go_region_with (go_at_call 9; refine (HS.out w.drew rfl).mono ?_; rintro en w2 ⟨rfl, hg⟩)
  all_goals (go_wp2; go_ret; exact ⟨rfl, grown_trans ((Qt.refl _).drew.grown none) hg⟩)
 ·have hlt : i < cap := by omega
  have HS := hid_intro (fun (W : World) (h : W.heap = w.heap) => bsize_any (some ⟨b, off + i, none⟩) (n - i) (cap - i) (L.drop i) W (HL.out.heap h) hlen hk5 (by omega) (by omega) HK.out)
  clear hc hl hk hlen HL
  go_enter Try.func44, Try.ntmps44
  go_wp2
  go_region_with (go_at_call 9; go_loud (refine (HS.out w.drew rfl).mono ?_; rintro en w2 ⟨rfl, hg⟩))
  all_goals (go_wp2; go_ret; exact ⟨rfl, grown_trans ((Qt.refl _).drew.grown none) hg⟩)
structure Cf (w : World) (S T U F G : Nat) : Prop where
 f : w.cell? ⟨F, 0, none⟩ = some (.func (.func 43) #[] #[.pointer (some ⟨S, 0, none⟩), .pointer (some ⟨T, 0, none⟩), .pointer (some ⟨U, 0, none⟩)])
 g : w.cell? ⟨G, 0, none⟩ = some (.func (.func 44) #[] #[.pointer (some ⟨S, 0, none⟩), .pointer (some ⟨T, 0, none⟩)])
theorem Cf.keptN {w w' : World} {S T U F G : Nat} (h : Cf w S T U F G) (hg : w.grownBy w' none) : Cf w' S T U F G :=
 ⟨hg.cell h.f (by simp), hg.cell h.g (by simp)⟩
set_option maxHeartbeats 4000000 in
set_option maxRecDepth 100000 in
theorem greater_by (S T U F G i a b : Nat) (w : World) (hd : Cf w S T U F G)
  (hF : ∀ W, w.grownBy W none → Calls Try.prog 43 #[.int .i64 i, .pointer (some ⟨S, 0, none⟩), .pointer (some ⟨T, 0, none⟩), .pointer (some ⟨U, 0, none⟩)] W fun en w' => en = .returned (.int .i64 (a : Nat)) ∧ W.grownBy w' none)
  (hG : ∀ W, w.grownBy W none → Calls Try.prog 44 #[.int .i64 i, .pointer (some ⟨S, 0, none⟩), .pointer (some ⟨T, 0, none⟩)] W fun en w' => en = .returned (.int .i64 (b : Nat)) ∧ W.grownBy w' none) :
  Calls Try.prog 45 #[.int .i64 i, .pointer (some ⟨F, 0, none⟩), .pointer (some ⟨G, 0, none⟩)] w fun en w' => en = .returned (.int .i64 ((max a b : Nat) : Int)) ∧ w.grownBy w' none := by
 have c1 := hd.f
 have c2 := hd.g
 have HD := hid_intro hd
 have HF := hid_intro hF
 have HG := hid_intro hG
 obtain ⟨M, hM⟩ : ∃ M : Nat, max a b = M := ⟨_, rfl⟩
 have hmax : ∀ (ts : Array TypeId) (t : TypeId) (W : World), (Builtin.max_ ts t #[.int .i64 a, .int .i64 b]).run Try.prog W = .ok (.int .i64 M) W := fun ts t W => by rw [run_max_int2, max_int, hM]
 rw [hM]
 have G0 := hid_intro ((Qt.refl w).drew.grown none)
 clear hd hF hG hM
 go_enter Try.func45, Try.ntmps45
 go_wp2
 go_region_with (first
  | (go_at_call 43; refine (HF.out w.drew G0.out).mono ?_; rintro en wa ⟨rfl, hga⟩; have da := (HD.out.keptN (grown_trans G0.out hga)).g)
  | (go_at_call 43; refine (HF.out wb (grown_trans G0.out hgb)).mono ?_; rintro en wc ⟨rfl, hgc⟩)
  | (go_at_call 44; refine (HG.out w.drew G0.out).mono ?_; rintro en wb ⟨rfl, hgb⟩; have db := (HD.out.keptN (grown_trans G0.out hgb)).f)
  | (go_at_call 44; refine (HG.out wa (grown_trans G0.out hga)).mono ?_; rintro en wc ⟨rfl, hgc⟩))
 all_goals (go_wp2; go_ret; first | exact ⟨rfl, grown_trans (grown_trans G0.out hga) hgc⟩ | exact ⟨rfl, grown_trans (grown_trans G0.out hgb) hgc⟩)
set_option maxHeartbeats 4000000 in
set_option maxRecDepth 100000 in
theorem pred_by (S T U F G k a b : Nat) (w : World) (hk : k ≤ 100000) (hd : Cf w S T U F G)
  (hF : ∀ W, w.grownBy W none → Calls Try.prog 43 #[.int .i64 ((k + 1 : Nat) : Int), .pointer (some ⟨S, 0, none⟩), .pointer (some ⟨T, 0, none⟩), .pointer (some ⟨U, 0, none⟩)] W fun en w' => en = .returned (.int .i64 (a : Nat)) ∧ W.grownBy w' none)
  (hG : ∀ W, w.grownBy W none → Calls Try.prog 44 #[.int .i64 ((k + 1 : Nat) : Int), .pointer (some ⟨S, 0, none⟩), .pointer (some ⟨T, 0, none⟩)] W fun en w' => en = .returned (.int .i64 (b : Nat)) ∧ W.grownBy w' none) :
  Calls Try.prog 47 #[.int .i64 k, .pointer (some ⟨F, 0, none⟩), .pointer (some ⟨G, 0, none⟩)] w fun en w' => en = .returned (.bool (decide (b ≤ a))) ∧ w.grownBy w' none := by
 have c1 := hd.f
 have c2 := hd.g
 have HD := hid_intro hd
 have HF := hid_intro hF
 have HG := hid_intro hG
 obtain ⟨j, hj⟩ : ∃ j : Nat, k + 1 = j := ⟨_, rfl⟩
 rw [hj] at HF HG
 have e1 : (k : Int) + 1 = (j : Int) := by omega
 have w1 : IntKind.i64.wrap (j : Int) = (j : Int) := by rw [IntKind.wrap_i64]; omega
 have G0 := hid_intro ((Qt.refl w).drew.grown none)
 have hdec : decide (b ≤ a) = decide ((b : Int) ≤ (a : Int)) := by simp
 have HDE := hid_intro hdec
 clear hd hF hG hj hdec
 go_enter Try.func47, Try.ntmps47
 go_wp2
 go_region_with (first
  | (go_at_call 43; refine (HF.out w.drew G0.out).mono ?_; rintro en wa ⟨rfl, hga⟩; have da := (HD.out.keptN (grown_trans G0.out hga)).g)
  | (go_at_call 43; refine (HF.out wb (grown_trans G0.out hgb)).mono ?_; rintro en wc ⟨rfl, hgc⟩)
  | (go_at_call 44; refine (HG.out w.drew G0.out).mono ?_; rintro en wb ⟨rfl, hgb⟩; have db := (HD.out.keptN (grown_trans G0.out hgb)).f)
  | (go_at_call 44; refine (HG.out wa (grown_trans G0.out hga)).mono ?_; rintro en wc ⟨rfl, hgc⟩))
 all_goals (go_wp2; go_ret; first | exact ⟨by rw [HDE.out]; rfl, grown_trans (grown_trans G0.out hga) hgc⟩ | exact ⟨by rw [HDE.out]; rfl, grown_trans (grown_trans G0.out hgb) hgc⟩)
end Go.Proofs.Ytmicongcnpbkkab
