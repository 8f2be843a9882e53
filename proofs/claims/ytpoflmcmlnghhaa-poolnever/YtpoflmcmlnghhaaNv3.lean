import Derived.Test.YtpoflmcmlnghhaaNv2
namespace Go.Proofs.Ytpoflmcmlnghhaa
open Go.RowKit Go.Maps

theorem gv_len (l : List Int) : (gv l).length = l.length := by
  have h : ∀ (a : List Int), (l.foldl (fun a x => insZ x a) a).length = a.length + l.length := by
    induction l with
    | nil => intro a; rfl
    | cons x l ih => intro a; rw [List.foldl_cons, ih, insZ_len]; simp; omega
  have := h []
  simpa [gv] using this
theorem nt_nil {w : World} {a : Option Addr} {xs : List Int} (h : xs.length = 0) : Nt w a xs := ⟨fun i hi => by omega⟩
theorem Nt.drop0 {w : World} {a : Option Addr} {xs : List Int} (h : Nt w a xs) : Nt w a (xs.drop 0) := h
theorem all_take {G : List Int} {x : Int} {i : Nat} (h : i < G.length) (k : (G.take i).all (fun y => decide (y < x)) = true) (e : G.getD i 0 < x) : (G.take (i + 1)).all (fun y => decide (y < x)) = true := by
  rw [take_snoc h, List.all_append, k]
  simp only [Bool.true_and, List.all_cons, List.all_nil, Bool.and_true, decide_eq_true_eq]
  exact e

set_option maxHeartbeats 4000000 in
set_option maxRecDepth 100000 in
theorem gives_any {w : World} {F : Nat → Prop} {X B : Nat} {vs : Fin 4 → Value} {ls : Fin 4 → List Int} {ver : Int} (h : Lv w F X B vs ls ver) (n : Int) (hs : (ls 0).length ≤ 1000000) :
    Calls Try.prog 38 #[.pointer (some ⟨X, 0, none⟩), .int .i64 n] w fun e w' => ∃ v, e = .returned v ∧ Ow w' w.heap.size v (gv ((ls 0).take n.toNat)) ∧ w.grownBy w' none := by
  obtain ⟨mo, mcap, em, mnt, mc1, mc2⟩ := (h.own 0).shape
  have c1 := h.c1
  rw [em] at c1
  clear em h
  have HM := hid_intro mnt
  clear mnt
  generalize ls 0 = mine at *
  obtain ⟨M, hM⟩ : ∃ M, M = mine.length := ⟨_, rfl⟩
  rw [← hM] at c1 mc1 hs
  go_enter Try.func38, Try.ntmps38
  go_wp2
  go_loopw [5, 6, 7, 8] (fun sl si _ _ wr => ∃ i : Nat, i ≤ min M n.toNat ∧ si = .int .i64 i ∧ Ow wr w.heap.size sl (gv (mine.take i)) ∧ (i = 0 → sl = .slice none 0 0) ∧ w.grownBy wr none) (fun _ si _ _ _ => M - (zOf si).toNat)
  case atStart => exact ⟨0, Nat.zero_le _, rfl, Ow.nil _ _, fun _ => rfl, World.grownBy.refl _ _⟩
  case round =>
    obtain ⟨i, hi, rfl, hown, hz, hg⟩ := hrel
    have HG := hid_intro hg
    clear hg
    by_cases hlt : i < min M n.toNat
    · have g1 : (i : Int) < (M : Int) := by omega
      have g2 : (i : Int) < n := by omega
      have g3 : (0 : Int) ≤ (i : Int) := by omega
      obtain ⟨mb, moff, rfl, q0⟩ := HM.out.row i (by omega)
      have d1 := HG.out.cell c1 (by simp)
      have d0 := HG.out.cell q0 (by simp)
      have HTK : Hid (gv (mine.take (i + 1)) = insZ (mine.getD i 0) (gv (mine.take i))) := by
        show _ = _
        rw [take_snoc (by omega), gv_snoc]
      have HGL : Hid ((gv (mine.take i)).length = i) := by
        show _ = _
        rw [gv_len, List.length_take]
        omega
      generalize gv (mine.take i) = G at *
      generalize mine.getD i 0 = x at *
      by_cases h0 : i = 0
      · subst h0
        obtain rfl := hz rfl
        rw [Nat.add_zero] at q0 d0
        have HI : Hid (insZ x G = G.take 0 ++ x :: G.drop 0) := insZ_at x G 0 (by omega) (by simp) (fun hl => by have := HGL.out; omega)
        have HN : Hid (Nt wr none G) := by
          have : G = [] := List.length_eq_zero_iff.1 HGL.out
          rw [this]
          exact Nt.zero _ _
        have HNIL : Hid (G = []) := List.length_eq_zero_iff.1 HGL.out
        clear hz hown
        go_wp2
        go_loopw [7] (fun sa wq => sa = .int .i64 0 ∧ Qt wr wq) (fun _ _ => 0)
        case atStart => exact ⟨rfl, Qt.refl _⟩
        case round =>
          obtain ⟨rfl, hq⟩ := hrel
          have HQ := hid_intro hq
          clear hq
          go_wp2
          go_quiet (fail)
          have HGW : Hid (w.grownBy (wr.drewN nq) none) := grown_trans HG.out ((HQ.out.trans (Qt.drewN _ _)).grown none)
          have HNW : Hid (Nt (wr.drewN nq) (none) G) := HN.out.keptN ((HQ.out.trans (Qt.drewN _ _)).grown none)
          generalize wr.drewN nq = W at *
          have c1W := HGW.out.cell c1 (by simp)
          have d0W := HGW.out.cell q0 (by simp)
          have tok1 : True := trivial
          have tok2 : True := trivial
          go_wp2_with (first
            | (at_builtin; have _t := tok1; go_loud (refine app17 rfl _ _ rfl W.heap.size (.slice (some ⟨W.heap.size, 0, none⟩) 0 0) [] rfl (Ow.empty _ _ (Nat.le_refl _)) none 0 0 rfl (G.take 0) ((HNW.out.keptN (World.grownBy_alloc W _ none)).take _) (by have := HGL.out; simp <;> first | omega | exact List.length_eq_zero_iff.1 this) (by simp) (by have := HGL.out; simp <;> first | omega | exact List.length_eq_zero_iff.1 this) (by simp) ?_; intro v6 w6 ho6 hg6 hl6; have HO6 := hid_intro ho6; have HG6 := hid_intro ((World.grownBy_alloc W (.cells #[] 3) none).andThen hg6 (fun j e => .inl (Nat.le_of_eq (Option.some.inj e)))); have c16 := HG6.out.cell c1W (by simp); have d06 := HG6.out.cell d0W (by simp); clear ho6 hg6 hl6 tok1))
            | (at_builtin; have _t := tok2; go_loud (refine app17 rfl _ _ rfl W.heap.size v6 ([] ++ G.take 0) rfl (HO6.out.keptN (World.grownBy_alloc w6 _ none)) (some ⟨w6.heap.size, 0, none⟩) 1 1 rfl [x] (Nt.lit _ _ _ _ rfl) rfl (by simp) (by have := HGL.out; simp <;> first | omega | exact List.length_eq_zero_iff.1 this) (by have := HG6.out.size; simp; omega) ?_; intro v7 w7 ho7 hg7 hl7; have HO7 := hid_intro ho7; have HG7 := hid_intro (grown_app5 HG6.out HO6.out (Nat.le_refl _) hg7); clear ho7 hg7 hl7 tok2))
            | (at_builtin; go_loud (refine app17 rfl _ _ rfl W.heap.size v7 ([] ++ G.take 0 ++ [x]) rfl HO7.out none 0 0 rfl (G.drop 0) ((HNW.out.keptN HG7.out).drop0) (by have := HGL.out; simp <;> first | omega | exact List.length_eq_zero_iff.1 this) (by simp) (by have := HGL.out; simp <;> first | omega | exact List.length_eq_zero_iff.1 this) HG7.out.size ?_; intro v8 w8 ho8 hg8 hl8; have HO8 := hid_intro ho8; have HG8 := hid_intro (HG7.out.andThen hg8 (fun j e => .inl (HO7.out.lt e).1)); clear ho8 hg8 hl8))
            | go_in)
          go_roundw
          case rel => exact ⟨0 + 1, by omega, by go_num, by rw [HTK.out, HI.out]; have e := HO8.out.base HGW.out.size; simp only [List.nil_append, List.append_assoc, List.cons_append] at e; exact e, fun e => by omega, grown_trans HGW.out HG8.out⟩
          case measure => simp [zOf]; omega
      · obtain ⟨g, lcap, rfl, hc1, hc2⟩ : ∃ g lcap, u5 = .slice (some ⟨g, 0, none⟩) i lcap ∧ i ≤ lcap ∧ lcap ≤ 9223372036854775807 := by
          rcases hown.2 with ⟨e, e2⟩ | ⟨g, cap, cur, e, _, _, e1, e2, _⟩
          · have := HGL.out; omega
          · rw [HGL.out] at e e1
            exact ⟨g, cap, e, e1, by unfold maxLen at e2; omega⟩
        have HN : Hid (Nt wr (some ⟨g, 0, none⟩) G) := by
          obtain ⟨lo, cp, e, hnt, _⟩ := hown.shape
          injection e with e1 _ _
          rw [e1]
          exact hnt
        have HP := hid_intro (show 0 < i by omega)
        clear hz hown h0
        go_wp2
        go_loopw [7] (fun sa wq => ∃ a : Nat, a ≤ i ∧ sa = .int .i64 a ∧ (G.take a).all (fun y => decide (y < x)) = true ∧ Qt wr wq) (fun sa _ => i - (zOf sa).toNat)
        case atStart => exact ⟨0, Nat.zero_le _, rfl, by simp, Qt.refl _⟩
        case round =>
          obtain ⟨a, ha, rfl, hall, hq⟩ := hrel
          have HQ := hid_intro hq
          have HA := hid_intro hall
          clear hq hall
          have k0 : (0 : Int) ≤ (a : Int) := by omega
          have e1 := (HQ.out.cell _).trans d1
          have e0 := (HQ.out.cell _).trans d0
          by_cases hat : a < i
          · have k1 : (a : Int) < (i : Int) := by omega
            have q2 := HN.out.at a (by have := HGL.out; omega)
            rw [Nat.zero_add] at q2
            have e2 := (HQ.out.cell _).trans q2
            have HAL : Hid (G.getD a 0 < x → (G.take (a + 1)).all (fun y => decide (y < x)) = true) := fun e => all_take (by have := HGL.out; omega) HA.out e
            have HIN : Hid (¬ G.getD a 0 < x → insZ x G = G.take a ++ x :: G.drop a) := fun e => insZ_at x G a (by have := HGL.out; omega) HA.out (fun _ => e)
            clear q2
            generalize G.getD a 0 = y at *
            by_cases hy : y < x
            · have hyd : decide (y < x) = true := by simp [hy]
              have HA2 := hid_intro (HAL.out hy)
              clear hy HAL HIN
              go_wp2
              go_quiet (fail)
              go_wp2
              go_roundw
              case rel => exact ⟨a + 1, by omega, by go_num, HA2.out, HQ.out.trans (Qt.drewN _ _)⟩
              case measure => simp [zOf]; omega
            · have hyd : decide (y < x) = false := by simp; omega
              have HI := hid_intro (HIN.out hy)
              clear hy HAL HIN
              go_wp2
              go_quiet (fail)
              have HGW : Hid (w.grownBy (wr.drewN nq) none) := grown_trans HG.out ((HQ.out.trans (Qt.drewN _ _)).grown none)
              have HNW : Hid (Nt (wr.drewN nq) (some ⟨g, 0, none⟩) G) := HN.out.keptN ((HQ.out.trans (Qt.drewN _ _)).grown none)
              generalize wr.drewN nq = W at *
              have c1W := HGW.out.cell c1 (by simp)
              have d0W := HGW.out.cell q0 (by simp)
              have hal : ¬ a = lcap := by omega
              have tok1 : True := trivial
              have tok2 : True := trivial
              go_wp2_with (first
                | (at_builtin; have _t := tok1; go_loud (refine app17 rfl _ _ rfl W.heap.size (.slice (some ⟨W.heap.size, 0, none⟩) 0 0) [] rfl (Ow.empty _ _ (Nat.le_refl _)) (some ⟨g, 0, none⟩) a lcap rfl (G.take a) ((HNW.out.keptN (World.grownBy_alloc W _ none)).take _) (by have := HGL.out; simp <;> first | omega | exact List.length_eq_zero_iff.1 this) (by simp) (by have := HGL.out; simp <;> first | omega | exact List.length_eq_zero_iff.1 this) (by simp) ?_; intro v6 w6 ho6 hg6 hl6; have HO6 := hid_intro ho6; have HG6 := hid_intro ((World.grownBy_alloc W (.cells #[] 3) none).andThen hg6 (fun j e => .inl (Nat.le_of_eq (Option.some.inj e)))); have c16 := HG6.out.cell c1W (by simp); have d06 := HG6.out.cell d0W (by simp); clear ho6 hg6 hl6 tok1))
                | (at_builtin; have _t := tok2; go_loud (refine app17 rfl _ _ rfl W.heap.size v6 ([] ++ G.take a) rfl (HO6.out.keptN (World.grownBy_alloc w6 _ none)) (some ⟨w6.heap.size, 0, none⟩) 1 1 rfl [x] (Nt.lit _ _ _ _ rfl) rfl (by simp) (by have := HGL.out; simp <;> first | omega | exact List.length_eq_zero_iff.1 this) (by have := HG6.out.size; simp; omega) ?_; intro v7 w7 ho7 hg7 hl7; have HO7 := hid_intro ho7; have HG7 := hid_intro (grown_app5 HG6.out HO6.out (Nat.le_refl _) hg7); clear ho7 hg7 hl7 tok2))
                | (at_builtin; go_loud (refine app17 rfl _ _ rfl W.heap.size v7 ([] ++ G.take a ++ [x]) rfl HO7.out (some ⟨g, a, none⟩) (i - a) _ rfl (G.drop a) (by have hd := (HNW.out.keptN HG7.out).drop a; rw [Nat.zero_add] at hd; exact hd) (by have := HGL.out; simp <;> first | omega | exact List.length_eq_zero_iff.1 this) (by simp) (by have := HGL.out; simp <;> first | omega | exact List.length_eq_zero_iff.1 this) HG7.out.size ?_; intro v8 w8 ho8 hg8 hl8; have HO8 := hid_intro ho8; have HG8 := hid_intro (HG7.out.andThen hg8 (fun j e => .inl (HO7.out.lt e).1)); clear ho8 hg8 hl8))
                | go_in)
              go_roundw
              case rel => exact ⟨i + 1, by omega, by go_num, by rw [HTK.out, HI.out]; have e := HO8.out.base HGW.out.size; simp only [List.nil_append, List.append_assoc, List.cons_append] at e; exact e, fun e => by omega, grown_trans HGW.out HG8.out⟩
              case measure => simp [zOf]; omega
          · have hai : a = i := by omega
            subst hai
            have HI : Hid (insZ x G = G.take a ++ x :: G.drop a) := insZ_at x G a (by have := HGL.out; omega) HA.out (fun hl => by have := HGL.out; omega)
            go_wp2
            go_quiet (fail)
            have HGW : Hid (w.grownBy (wr.drewN nq) none) := grown_trans HG.out ((HQ.out.trans (Qt.drewN _ _)).grown none)
            have HNW : Hid (Nt (wr.drewN nq) (some ⟨g, 0, none⟩) G) := HN.out.keptN ((HQ.out.trans (Qt.drewN _ _)).grown none)
            generalize wr.drewN nq = W at *
            have c1W := HGW.out.cell c1 (by simp)
            have d0W := HGW.out.cell q0 (by simp)
            by_cases hal : lcap = a
            · subst hal
              have tok1 : True := trivial
              have tok2 : True := trivial
              go_wp2_with (first
                | (at_builtin; have _t := tok1; go_loud (refine app17 rfl _ _ rfl W.heap.size (.slice (some ⟨W.heap.size, 0, none⟩) 0 0) [] rfl (Ow.empty _ _ (Nat.le_refl _)) (some ⟨g, 0, none⟩) lcap lcap rfl (G.take lcap) ((HNW.out.keptN (World.grownBy_alloc W _ none)).take _) (by have := HGL.out; simp <;> first | omega | exact List.length_eq_zero_iff.1 this) (by simp) (by have := HGL.out; simp <;> first | omega | exact List.length_eq_zero_iff.1 this) (by simp) ?_; intro v6 w6 ho6 hg6 hl6; have HO6 := hid_intro ho6; have HG6 := hid_intro ((World.grownBy_alloc W (.cells #[] 3) none).andThen hg6 (fun j e => .inl (Nat.le_of_eq (Option.some.inj e)))); have c16 := HG6.out.cell c1W (by simp); have d06 := HG6.out.cell d0W (by simp); clear ho6 hg6 hl6 tok1))
                | (at_builtin; have _t := tok2; go_loud (refine app17 rfl _ _ rfl W.heap.size v6 ([] ++ G.take lcap) rfl (HO6.out.keptN (World.grownBy_alloc w6 _ none)) (some ⟨w6.heap.size, 0, none⟩) 1 1 rfl [x] (Nt.lit _ _ _ _ rfl) rfl (by simp) (by have := HGL.out; simp <;> first | omega | exact List.length_eq_zero_iff.1 this) (by have := HG6.out.size; simp; omega) ?_; intro v7 w7 ho7 hg7 hl7; have HO7 := hid_intro ho7; have HG7 := hid_intro (grown_app5 HG6.out HO6.out (Nat.le_refl _) hg7); clear ho7 hg7 hl7 tok2))
                | (at_builtin; go_loud (refine app17 rfl _ _ rfl W.heap.size v7 ([] ++ G.take lcap ++ [x]) rfl HO7.out (some ⟨g, 0, none⟩) 0 _ rfl (G.drop lcap) (nt_nil (by have := HGL.out; simp <;> first | omega | exact List.length_eq_zero_iff.1 this)) (by have := HGL.out; simp <;> first | omega | exact List.length_eq_zero_iff.1 this) (by simp) (by have := HGL.out; simp <;> first | omega | exact List.length_eq_zero_iff.1 this) HG7.out.size ?_; intro v8 w8 ho8 hg8 hl8; have HO8 := hid_intro ho8; have HG8 := hid_intro (HG7.out.andThen hg8 (fun j e => .inl (HO7.out.lt e).1)); clear ho8 hg8 hl8))
                | go_in)
              go_roundw
              case rel => exact ⟨lcap + 1, by omega, by go_num, by rw [HTK.out, HI.out]; have e := HO8.out.base HGW.out.size; simp only [List.nil_append, List.append_assoc, List.cons_append] at e; exact e, fun e => by omega, grown_trans HGW.out HG8.out⟩
              case measure => simp [zOf]; omega
            · have hal2 : ¬ a = lcap := by omega
              have tok1 : True := trivial
              have tok2 : True := trivial
              go_wp2_with (first
                | (at_builtin; have _t := tok1; go_loud (refine app17 rfl _ _ rfl W.heap.size (.slice (some ⟨W.heap.size, 0, none⟩) 0 0) [] rfl (Ow.empty _ _ (Nat.le_refl _)) (some ⟨g, 0, none⟩) a lcap rfl (G.take a) ((HNW.out.keptN (World.grownBy_alloc W _ none)).take _) (by have := HGL.out; simp <;> first | omega | exact List.length_eq_zero_iff.1 this) (by simp) (by have := HGL.out; simp <;> first | omega | exact List.length_eq_zero_iff.1 this) (by simp) ?_; intro v6 w6 ho6 hg6 hl6; have HO6 := hid_intro ho6; have HG6 := hid_intro ((World.grownBy_alloc W (.cells #[] 3) none).andThen hg6 (fun j e => .inl (Nat.le_of_eq (Option.some.inj e)))); have c16 := HG6.out.cell c1W (by simp); have d06 := HG6.out.cell d0W (by simp); clear ho6 hg6 hl6 tok1))
                | (at_builtin; have _t := tok2; go_loud (refine app17 rfl _ _ rfl W.heap.size v6 ([] ++ G.take a) rfl (HO6.out.keptN (World.grownBy_alloc w6 _ none)) (some ⟨w6.heap.size, 0, none⟩) 1 1 rfl [x] (Nt.lit _ _ _ _ rfl) rfl (by simp) (by have := HGL.out; simp <;> first | omega | exact List.length_eq_zero_iff.1 this) (by have := HG6.out.size; simp; omega) ?_; intro v7 w7 ho7 hg7 hl7; have HO7 := hid_intro ho7; have HG7 := hid_intro (grown_app5 HG6.out HO6.out (Nat.le_refl _) hg7); clear ho7 hg7 hl7 tok2))
                | (at_builtin; go_loud (refine app17 rfl _ _ rfl W.heap.size v7 ([] ++ G.take a ++ [x]) rfl HO7.out (some ⟨g, a, none⟩) _ _ rfl (G.drop a) (by have hd := (HNW.out.keptN HG7.out).drop a; rw [Nat.zero_add] at hd; exact hd) (by have := HGL.out; simp <;> first | omega | exact List.length_eq_zero_iff.1 this) (by simp) (by have := HGL.out; simp <;> first | omega | exact List.length_eq_zero_iff.1 this) HG7.out.size ?_; intro v8 w8 ho8 hg8 hl8; have HO8 := hid_intro ho8; have HG8 := hid_intro (HG7.out.andThen hg8 (fun j e => .inl (HO7.out.lt e).1)); clear ho8 hg8 hl8))
                | go_in)
              go_roundw
              case rel => exact ⟨a + 1, by omega, by go_num, by rw [HTK.out, HI.out]; have e := HO8.out.base HGW.out.size; simp only [List.nil_append, List.append_assoc, List.cons_append] at e; exact e, fun e => by omega, grown_trans HGW.out HG8.out⟩
              case measure => simp [zOf]; omega
    · have HE : Hid (gv (mine.take i) = gv (mine.take n.toNat)) := by
        show _ = _
        by_cases e : n.toNat ≤ M
        · have : i = n.toNat := by omega
          rw [this]
        · have : i = M := by omega
          rw [this, List.take_of_length_le (by omega : mine.length ≤ M), List.take_of_length_le (by omega : mine.length ≤ n.toNat)]
      rw [HE.out] at hown
      have HO := hid_intro hown
      have d1 := HG.out.cell c1 (by simp)
      clear hown hz
      by_cases b1 : (i : Int) < (M : Int)
      · have b2 : ¬ (i : Int) < n := by omega
        go_wp2
        go_ret
        exact ⟨_, rfl, HO.out, HG.out⟩
      · go_wp2
        go_ret
        exact ⟨_, rfl, HO.out, HG.out⟩
end Go.Proofs.Ytpoflmcmlnghhaa
