import Derived.Test.YtpoflmcmlnghhaaNv3
import Derived.Deep.Cut
namespace Go.Proofs.Ytpoflmcmlnghhaa
open Go.RowKit Go.Maps

theorem own_some {w : World} {v : Value} {l : List Int} (h : Ow w 0 v l) (hl : 0 < l.length) : ∃ g cap, v = .slice (some ⟨g, 0, none⟩) l.length cap ∧ l.length ≤ cap ∧ cap ≤ 9223372036854775807 := by
  rcases h.2 with ⟨e, e2⟩ | ⟨g, cap, cur, e, _, _, e1, e2, _⟩
  · omega
  · exact ⟨g, cap, e, e1, by unfold maxLen at e2; omega⟩
theorem own_nt {w : World} {base n cap : Nat} {v : Value} {l : List Int} {a : Option Addr} (h : Ow w base v l) (e : v = .slice a n cap) : Nt w a l := by
  obtain ⟨lo, cp, e1, hnt, _⟩ := h.shape
  rw [e] at e1
  injection e1 with e2 _ _
  rw [e2]
  exact hnt
theorem lv_trans {w w1 w2 : World} {F : Nat → Prop} {X B : Nat} {vs : Fin 4 → Value} {ls : Fin 4 → List Int} {ver : Int} (f1 : Fr w w1 F) (h2 : Lv w2 (Nf (Nf F w w1) w1 w2) X B vs ls ver) (f2 : Fr w1 w2 (Nf F w w1)) : Lv w2 (Nf F w w2) X B vs ls ver ∧ Fr w w2 F := by
  have s1 := f1.size
  have s2 := f2.size
  refine ⟨h2.wide (fun i hi => ?_) (fun i hi => ?_), f1.then f2 (fun i hi hl => ?_)⟩
  · rcases hi with (h | h) | h
    · exact .inl h
    · exact .inr ⟨h.1, by omega⟩
    · exact .inr ⟨by omega, h.2⟩
  · rcases hi with h | h
    · exact h2.low i (.inl (.inl h))
    · exact h.2
  · rcases hi with h | h
    · exact h
    · omega

theorem Lv.app {w V w8 : World} {F : Nat → Prop} {X B : Nat} {vs : Fin 4 → Value} {ls : Fin 4 → List Int} {ver : Int} (h : Lv w F X B vs ls ver) (k : Fin 4) (o : Obj) (hg : V.grownBy w8 (vs k).ownBlock) (hq : Qt (w.alloc o) V) (v8 : Value) (ys : List Int) (ho : Ow w8 0 v8 ys) (hl : ∀ g, v8.ownBlock = some g → (vs k).ownBlock = some g ∨ V.heap.size ≤ g) :
    Lv (w8.setCell ⟨X, k.val + 1, none⟩ v8) (Nf F w (w8.setCell ⟨X, k.val + 1, none⟩ v8)) X B (upd vs k v8) (upd ls k ys) ver ∧ Fr w (w8.setCell ⟨X, k.val + 1, none⟩ v8) F ∧ w8.cell? ⟨X, k.val + 1, none⟩ = some (vs k) ∧ w8.frozen? ⟨X, k.val + 1, none⟩ = false := by
  have g1 : w.grownBy w8 (vs k).ownBlock := ((World.grownBy_alloc w o (vs k).ownBlock).andThen (hq.grown none) (fun j e => by cases e)).andThen hg (fun j e => .inr e)
  have hs : w.heap.size ≤ V.heap.size := by rw [hq.heap]; simp
  have h3 := h.set k g1 (fun g e => e) v8 ys ho (fun g e => by
    rcases hl g e with h1 | h1
    · exact .inl h1
    · exact .inr (by omega))
  have hb : w8.heap[X]? = some (.cells (lcell B vs ver) 42 (0, 0)) := (g1.block X h.lt (fun e => h.ne k e.symm)).trans h.bx
  refine ⟨h3.1, h3.2, ?_, frozen_of_row w8 X _ _ _ hb⟩
  rw [cell_of_row w8 X _ _ _ _ hb]
  obtain ⟨k, hk⟩ := k
  match k, hk with
  | 0, _ => rfl
  | 1, _ => rfl
  | 2, _ => rfl
  | 3, _ => rfl
def tkF (ls : Fin 4 → List Int) (j : Nat) (no : Int) : Fin 4 → List Int := upd (upd (upd ls 2 ((ls 2).take j ++ (ls 2).drop (j + 1))) 1 ((ls 1).take j ++ (ls 1).drop (j + 1))) 0 (ls 0 ++ [no])
set_option maxHeartbeats 8000000 in
set_option maxRecDepth 100000 in
theorem taken_free {w : World} {F : Nat → Prop} {X B : Nat} {vs : Fin 4 → Value} {ls : Fin 4 → List Int} {ver : Int} (h : Lv w F X B vs ls ver) (no cnt : Int) (j n : Nat) (hm : no ∉ ls 0) (h2 : 2 ≤ no) (hn1 : (ls 1).length = n) (hn2 : (ls 2).length = n) (hj : j < n) (hf : (ls 1).getD j 0 = no) (hf2 : ∀ i, i < j → (ls 1).getD i 0 ≠ no) (hp : pnd (ls 3) ((ls 2).getD j 0) = false) (hs0 : (ls 0).length ≤ 1000000) (hs1 : n ≤ 1000000) :
    Calls Try.prog 39 #[.pointer (some ⟨X, 0, none⟩), .int .i64 no, .int .i64 cnt] w fun e w' => e = .returned (.bool true) ∧ ∃ vs', Lv w' (Nf F w w') X B vs' (tkF ls j no) ver ∧ Fr w w' F := by
  have HL := hid_intro h
  have HL2 := hid_intro hn2
  have HL1 := hid_intro hn1
  obtain ⟨mo, mcap, em, mnt, mc1, mc2⟩ := (h.own 0).shape
  have c1 := h.c1
  rw [em] at c1
  have HHAS := hid_intro (hasL_any mo (ls 0).length mcap (ls 0) no w mnt rfl (by omega))
  rw [decide_eq_false hm] at HHAS
  have HPN := hid_intro (pinned_any h ((ls 2).getD j 0))
  rw [hp] at HPN
  obtain ⟨g1, cs1, ev1, hc1, hd1⟩ := own_some (h.own 1) (by omega)
  rw [hn1] at ev1 hc1
  have c2 := h.c2
  rw [ev1] at c2
  obtain ⟨g2, cs2, ev2, hc2, hd2⟩ := own_some (h.own 2) (by omega)
  rw [hn2] at ev2 hc2
  have c3 := h.c3
  rw [ev2] at c3
  have HN1 := hid_intro (own_nt (h.own 1) ev1)
  have HN2 := hid_intro (own_nt (h.own 2) ev2)
  have HF := hid_intro hf
  have HF2 := hid_intro hf2
  have h2' : ¬ no < 2 := by omega
  have h2d : decide (no < 2) = false := by simp; omega
  clear h hm hp em mnt hf hf2 hn1 hn2 ev1 ev2 mc1
  go_enter Try.func39, Try.ntmps39
  go_wp2_with (go_at_call 17; refine HHAS.out.mono ?_; rintro en w2 ⟨rfl, hw2⟩; rw [hw2]; clear hw2)
  go_loopw [8] (fun si wr => ∃ i : Nat, i ≤ j ∧ si = .int .i64 i ∧ wr = w) (fun si _ => n - (zOf si).toNat)
  case atStart => exact ⟨0, Nat.zero_le _, rfl, rfl⟩
  case round =>
    obtain ⟨i, hi, rfl, rfl⟩ := hrel
    have b1 : (i : Int) < (n : Int) := by omega
    have b0 : (0 : Int) ≤ (i : Int) := by omega
    have q1 := HN1.out.at i (by have := HL1.out; omega)
    rw [Nat.zero_add] at q1
    by_cases hlt : i < j
    · have hy := HF2.out i hlt
      generalize (ls 1).getD i 0 = y at *
      have h3 : (y == no) = false := by simp [hy]
      clear hy
      go_wp2
      go_roundw
      case rel => exact ⟨i + 1, by omega, by go_num, by trivial⟩
      case measure => simp [zOf]; omega
    · have hij : i = j := by omega
      subst hij
      rw [HF.out] at q1
      have h3 : (no == no) = true := by simp
      have q2 := HN2.out.at i (by have := HL2.out; omega)
      rw [Nat.zero_add] at q2
      generalize (ls 2).getD i 0 = sv at *
      go_upto_region 10 with (go_at_call 18; refine HPN.out.mono ?_; rintro en w3 ⟨rfl, hw3⟩; rw [hw3]; clear hw3)
      clear c2 c3 q1 q2 HN1 HN2 hc1 hc2 hd1 hd2 HF HF2 HHAS HPN
      obtain ⟨g2, cs2, ev2, hc2, hd2⟩ := own_some (HL.out.own 2) (by have := HL2.out; omega)
      rw [HL2.out] at ev2 hc2
      have c3 := HL.out.c3
      rw [ev2] at c3
      have HNt : Hid (Nt wr (some ⟨g2, 0, none⟩) (ls 2)) := own_nt (HL.out.own 2) ev2
      have HLS : Hid ((ls 2).length = n) := HL2.out
      generalize hS : ls 2 = S at HNt HLS
      have ga := World.grownBy_alloc wr (.cells #[] 3) none
      have c3a : (wr.alloc (.cells #[] 3)).cell? ⟨X, 3, none⟩ = some (.slice (some ⟨g2, 0, none⟩) n cs2) := ga.cell c3 (by simp)
      have HEA : Hid (∀ V : World, V.heap = (wr.alloc (.cells #[] 3)).heap → Ow V wr.heap.size (.slice (some ⟨wr.heap.size, 0, none⟩) 0 0) []) := fun V e => own_same (Ow.empty wr _ (Nat.le_refl _)) (fun g _ => by rw [e])
      have HTA : Hid (∀ V : World, V.heap = (wr.alloc (.cells #[] 3)).heap → Nt V (some ⟨g2, 0, none⟩) (S.take i)) := fun V e => ((HNt.out.keptN ga).heap e).take i
      have HGA : Hid (∀ V w6 : World, V.grownBy w6 (some wr.heap.size) → Qt (wr.alloc (.cells #[] 3)) V → wr.grownBy w6 none) := fun V w6 hg q => (grown_trans ga (q.grown none)).andThen hg (fun j e => .inl (Nat.le_of_eq (Option.some.inj e)))
      have HB6 : Hid (∀ (V w6 w7 : World) (v6 : Value) (T : List Int), wr.grownBy w6 none → Ow w6 wr.heap.size v6 T → V.grownBy w7 v6.ownBlock → Qt w6 V → wr.grownBy w7 none) := fun V w6 w7 v6 T h1 h2 hg q => (grown_trans h1 (q.grown none)).andThen hg (fun j e => .inl (h2.lt e).1)
      have HZ : Hid (∀ (w7 : World) (v7 : Value), wr.grownBy w7 none → Ow w7 wr.heap.size v7 ([] ++ S.take i ++ S.drop (i + 1)) → Lv (w7.setCell ⟨X, 3, none⟩ v7) (Nf (F) wr (w7.setCell ⟨X, 3, none⟩ v7)) X B (upd vs 2 v7) (upd ls 2 (S.take i ++ S.drop (i + 1))) ver ∧ Fr wr (w7.setCell ⟨X, 3, none⟩ v7) (F) ∧ w7.cell? ⟨X, 3, none⟩ = some (.slice (some ⟨g2, 0, none⟩) n cs2) ∧ w7.frozen? ⟨X, 3, none⟩ = false) := fun w7 v7 h1 h2 => by
        have h3 := HL.out.set 2 h1 (fun g e => by cases e) v7 (S.take i ++ S.drop (i + 1)) (by rw [List.nil_append] at h2; exact h2.base (Nat.zero_le _)) (fun g e => .inr (h2.lt e).1)
        exact ⟨h3.1, h3.2, h1.cell c3 (by simp), (HL.out.keptN h1).fz 3⟩
      clear ga
      go_cut [] from 20 to 94 (fun wx => ∃ vs', Lv wx (Nf (F) wr wx) X B vs' (upd ls 2 (S.take i ++ S.drop (i + 1))) ver ∧ Fr wr wx (F))
      case first =>
        by_cases hcap : cs2 = i + 1
        · have hnj : n = i + 1 := by omega
          have r1 : (i : Int) ≤ (i : Int) + 1 := by omega
          have r2 : ((i : Int) + 1).toNat = i + 1 := by omega
          have r3 : IntKind.i64.wrap ((i : Int) + 1) = (i : Int) + 1 := by simp [IntKind.wrap, IntKind.signed, IntKind.bits]; omega
          have r8 : (0 : Int) ≤ (i : Int) + 1 := by omega
          go_wp2_with fail
          go_region_law (first
            | (refine step17 rfl (.tmp 48) (.tmp 54) (by rfl) wr.heap.size (.slice (some ⟨wr.heap.size, 0, none⟩) 0 0) [] (by rfl) (by exact HEA.out _ rfl) (some ⟨g2, 0, none⟩) i (i + 1) (by rfl) (S.take i) (by exact HTA.out _ rfl) (by have := HLS.out; simp; omega) (by simp) (by have := HLS.out; simp; omega) (by simp) ?_; intro v6 w6 ho6 hg6 _; have G6 := hid_intro (HGA.out _ w6 hg6 ⟨rfl, rfl, rfl, rfl⟩); have H6 := hid_intro ho6; have c36 := G6.out.cell c3 (by simp); clear ho6 hg6)
            | (refine step17 rfl (.tmp 55) (.tmp 62) (by rfl) wr.heap.size v6 ([] ++ S.take i) (by rfl) (by exact own_same H6.out (fun g _ => rfl)) (some ⟨g2, 0, none⟩) 0 0 (by rfl) (S.drop (i + 1)) (nt_nil (by have := HLS.out; simp; omega)) (by have := HLS.out; simp; try omega) (by simp) (by have := HLS.out; simp; omega) (by exact G6.out.size) ?_; intro v7 w7 ho7 hg7 _; have G7 := hid_intro (HB6.out _ w6 w7 v6 _ G6.out H6.out hg7 ⟨rfl, rfl, rfl, rfl⟩); have Z7 := HZ.out w7 v7 G7.out ho7; obtain ⟨va, vn, vc, hv7⟩ := owns_shape7 ho7; clear ho7 hg7; subst hv7; have c37 := Z7.2.2.1; have f37 := Z7.2.2.2; have Z8 := hid_intro Z7; clear Z7))
          all_goals
            go_wp2_with fail
            go_meet
            case rel => exact ⟨_, Z8.out.1, Z8.out.2.1⟩
        · have hcap2 : ¬ i + 1 = cs2 := by omega
          have r1 : (i : Int) ≤ (cs2 : Int) := by omega
          have r2 : ((i : Int) + 1).toNat = i + 1 := by omega
          have r3 : IntKind.i64.wrap ((i : Int) + 1) = (i : Int) + 1 := by simp [IntKind.wrap, IntKind.signed, IntKind.bits]; omega
          have r4 : (i : Int) + 1 ≤ (n : Int) := by omega
          have r5 : (n : Int) ≤ (cs2 : Int) := by omega
          have r6 : (i : Int) + 1 ≤ (cs2 : Int) := by omega
          have r7 : ¬ cs2 = i + 1 := by omega
          have r8 : (0 : Int) ≤ (i : Int) + 1 := by omega
          go_wp2_with fail
          go_region_law (first
            | (refine step17 rfl (.tmp 48) (.tmp 54) (by rfl) wr.heap.size (.slice (some ⟨wr.heap.size, 0, none⟩) 0 0) [] (by rfl) (by exact HEA.out _ rfl) (some ⟨g2, 0, none⟩) i cs2 (by rfl) (S.take i) (by exact HTA.out _ rfl) (by have := HLS.out; simp; omega) (by simp) (by have := HLS.out; simp; omega) (by simp) ?_; intro v6 w6 ho6 hg6 _; have G6 := hid_intro (HGA.out _ w6 hg6 ⟨rfl, rfl, rfl, rfl⟩); have H6 := hid_intro ho6; have c36 := G6.out.cell c3 (by simp); clear ho6 hg6)
            | (refine step17 rfl (.tmp 55) (.tmp 62) (by rfl) wr.heap.size v6 ([] ++ S.take i) (by rfl) (by exact own_same H6.out (fun g _ => rfl)) (some ⟨g2, i + 1, none⟩) (n - (i + 1)) (cs2 - (i + 1)) (by rfl) (S.drop (i + 1)) (by have hd := ((HNt.out.keptN G6.out).heap rfl).drop (i + 1); rw [Nat.zero_add] at hd; exact hd) (by have := HLS.out; simp; try omega) (by simp) (by have := HLS.out; simp; omega) (by exact G6.out.size) ?_; intro v7 w7 ho7 hg7 _; have G7 := hid_intro (HB6.out _ w6 w7 v6 _ G6.out H6.out hg7 ⟨rfl, rfl, rfl, rfl⟩); have Z7 := HZ.out w7 v7 G7.out ho7; obtain ⟨va, vn, vc, hv7⟩ := owns_shape7 ho7; clear ho7 hg7; subst hv7; have c37 := Z7.2.2.1; have f37 := Z7.2.2.2; have Z8 := hid_intro Z7; clear Z7))
          all_goals
            go_wp2_with fail
            go_meet
            case rel => exact ⟨_, Z8.out.1, Z8.out.2.1⟩
      case rest =>
        obtain ⟨vs1, hv1, hf1⟩ := hcut
        have HE2 : Hid (upd ls 2 (S.take i ++ S.drop (i + 1)) = upd ls 2 ((ls 2).take i ++ (ls 2).drop (i + 1))) := by show _ = _; rw [hS]
        rw [HE2.out] at hv1
        obtain ⟨ls1, hls1⟩ : ∃ l, l = upd ls 2 ((ls 2).take i ++ (ls 2).drop (i + 1)) := ⟨_, rfl⟩
        rw [← hls1] at hv1
        have HLN : Hid ((ls1 1).length = n) := by
          show _ = _
          rw [hls1, upd_ne _ _ (by decide)]
          exact HL1.out
        have HLS1 := hid_intro hls1
        have HV1 := hid_intro hv1
        have HF1 := hid_intro hf1
        clear hls1 hv1 hf1 HL1 HE2 hS HNt HLS HEA HTA HGA HB6 HZ HL2
        have HL1 := HLN
        clear HLN
        clear c3 c3a c1
        go_upto_region 11 with fail
        obtain ⟨g1, cs1, ev1, hc1, hd1⟩ := own_some (HV1.out.own 1) (by have := HL1.out; omega)
        rw [HL1.out] at ev1 hc1
        have c2 := HV1.out.c2
        rw [ev1] at c2
        have HNt : Hid (Nt wc (some ⟨g1, 0, none⟩) (ls1 1)) := own_nt (HV1.out.own 1) ev1
        have HLS : Hid ((ls1 1).length = n) := HL1.out
        generalize hS : ls1 1 = S at HNt HLS
        have ga := World.grownBy_alloc wc (.cells #[] 3) none
        have c2a : (wc.alloc (.cells #[] 3)).cell? ⟨X, 2, none⟩ = some (.slice (some ⟨g1, 0, none⟩) n cs1) := ga.cell c2 (by simp)
        have HEA : Hid (∀ V : World, V.heap = (wc.alloc (.cells #[] 3)).heap → Ow V wc.heap.size (.slice (some ⟨wc.heap.size, 0, none⟩) 0 0) []) := fun V e => own_same (Ow.empty wc _ (Nat.le_refl _)) (fun g _ => by rw [e])
        have HTA : Hid (∀ V : World, V.heap = (wc.alloc (.cells #[] 3)).heap → Nt V (some ⟨g1, 0, none⟩) (S.take i)) := fun V e => ((HNt.out.keptN ga).heap e).take i
        have HGA : Hid (∀ V w6 : World, V.grownBy w6 (some wc.heap.size) → Qt (wc.alloc (.cells #[] 3)) V → wc.grownBy w6 none) := fun V w6 hg q => (grown_trans ga (q.grown none)).andThen hg (fun j e => .inl (Nat.le_of_eq (Option.some.inj e)))
        have HB6 : Hid (∀ (V w6 w7 : World) (v6 : Value) (T : List Int), wc.grownBy w6 none → Ow w6 wc.heap.size v6 T → V.grownBy w7 v6.ownBlock → Qt w6 V → wc.grownBy w7 none) := fun V w6 w7 v6 T h1 h2 hg q => (grown_trans h1 (q.grown none)).andThen hg (fun j e => .inl (h2.lt e).1)
        have HZ : Hid (∀ (w7 : World) (v7 : Value), wc.grownBy w7 none → Ow w7 wc.heap.size v7 ([] ++ S.take i ++ S.drop (i + 1)) → Lv (w7.setCell ⟨X, 2, none⟩ v7) (Nf (Nf F wr wc) wc (w7.setCell ⟨X, 2, none⟩ v7)) X B (upd vs1 1 v7) (upd ls1 1 (S.take i ++ S.drop (i + 1))) ver ∧ Fr wc (w7.setCell ⟨X, 2, none⟩ v7) (Nf F wr wc) ∧ w7.cell? ⟨X, 2, none⟩ = some (.slice (some ⟨g1, 0, none⟩) n cs1) ∧ w7.frozen? ⟨X, 2, none⟩ = false) := fun w7 v7 h1 h2 => by
          have h3 := HV1.out.set 1 h1 (fun g e => by cases e) v7 (S.take i ++ S.drop (i + 1)) (by rw [List.nil_append] at h2; exact h2.base (Nat.zero_le _)) (fun g e => .inr (h2.lt e).1)
          exact ⟨h3.1, h3.2, h1.cell c2 (by simp), (HV1.out.keptN h1).fz 2⟩
        clear ga
        go_cut [] from 20 to 94 (fun wx => ∃ vs', Lv wx (Nf (Nf F wr wc) wc wx) X B vs' (upd ls1 1 (S.take i ++ S.drop (i + 1))) ver ∧ Fr wc wx (Nf F wr wc))
        case first =>
          by_cases hcap : cs1 = i + 1
          · have hnj : n = i + 1 := by omega
            have r1 : (i : Int) ≤ (i : Int) + 1 := by omega
            have r2 : ((i : Int) + 1).toNat = i + 1 := by omega
            have r3 : IntKind.i64.wrap ((i : Int) + 1) = (i : Int) + 1 := by simp [IntKind.wrap, IntKind.signed, IntKind.bits]; omega
            have r8 : (0 : Int) ≤ (i : Int) + 1 := by omega
            go_wp2_with fail
            go_region_law (first
              | (refine step17 rfl (.tmp 67) (.tmp 73) (by rfl) wc.heap.size (.slice (some ⟨wc.heap.size, 0, none⟩) 0 0) [] (by rfl) (by exact HEA.out _ rfl) (some ⟨g1, 0, none⟩) i (i + 1) (by rfl) (S.take i) (by exact HTA.out _ rfl) (by have := HLS.out; simp; omega) (by simp) (by have := HLS.out; simp; omega) (by simp) ?_; intro v6 w6 ho6 hg6 _; have G6 := hid_intro (HGA.out _ w6 hg6 ⟨rfl, rfl, rfl, rfl⟩); have H6 := hid_intro ho6; have c26 := G6.out.cell c2 (by simp); clear ho6 hg6)
              | (refine step17 rfl (.tmp 74) (.tmp 81) (by rfl) wc.heap.size v6 ([] ++ S.take i) (by rfl) (by exact own_same H6.out (fun g _ => rfl)) (some ⟨g1, 0, none⟩) 0 0 (by rfl) (S.drop (i + 1)) (nt_nil (by have := HLS.out; simp; omega)) (by have := HLS.out; simp; try omega) (by simp) (by have := HLS.out; simp; omega) (by exact G6.out.size) ?_; intro v7 w7 ho7 hg7 _; have G7 := hid_intro (HB6.out _ w6 w7 v6 _ G6.out H6.out hg7 ⟨rfl, rfl, rfl, rfl⟩); have Z7 := HZ.out w7 v7 G7.out ho7; obtain ⟨va, vn, vc, hv7⟩ := owns_shape7 ho7; clear ho7 hg7; subst hv7; have c27 := Z7.2.2.1; have f27 := Z7.2.2.2; have Z8 := hid_intro Z7; clear Z7))
            all_goals
              go_wp2_with fail
              go_meet
              case rel => exact ⟨_, Z8.out.1, Z8.out.2.1⟩
          · have hcap2 : ¬ i + 1 = cs1 := by omega
            have r1 : (i : Int) ≤ (cs1 : Int) := by omega
            have r2 : ((i : Int) + 1).toNat = i + 1 := by omega
            have r3 : IntKind.i64.wrap ((i : Int) + 1) = (i : Int) + 1 := by simp [IntKind.wrap, IntKind.signed, IntKind.bits]; omega
            have r4 : (i : Int) + 1 ≤ (n : Int) := by omega
            have r5 : (n : Int) ≤ (cs1 : Int) := by omega
            have r6 : (i : Int) + 1 ≤ (cs1 : Int) := by omega
            have r7 : ¬ cs1 = i + 1 := by omega
            have r8 : (0 : Int) ≤ (i : Int) + 1 := by omega
            go_wp2_with fail
            go_region_law (first
              | (refine step17 rfl (.tmp 67) (.tmp 73) (by rfl) wc.heap.size (.slice (some ⟨wc.heap.size, 0, none⟩) 0 0) [] (by rfl) (by exact HEA.out _ rfl) (some ⟨g1, 0, none⟩) i cs1 (by rfl) (S.take i) (by exact HTA.out _ rfl) (by have := HLS.out; simp; omega) (by simp) (by have := HLS.out; simp; omega) (by simp) ?_; intro v6 w6 ho6 hg6 _; have G6 := hid_intro (HGA.out _ w6 hg6 ⟨rfl, rfl, rfl, rfl⟩); have H6 := hid_intro ho6; have c26 := G6.out.cell c2 (by simp); clear ho6 hg6)
              | (refine step17 rfl (.tmp 74) (.tmp 81) (by rfl) wc.heap.size v6 ([] ++ S.take i) (by rfl) (by exact own_same H6.out (fun g _ => rfl)) (some ⟨g1, i + 1, none⟩) (n - (i + 1)) (cs1 - (i + 1)) (by rfl) (S.drop (i + 1)) (by have hd := ((HNt.out.keptN G6.out).heap rfl).drop (i + 1); rw [Nat.zero_add] at hd; exact hd) (by have := HLS.out; simp; try omega) (by simp) (by have := HLS.out; simp; omega) (by exact G6.out.size) ?_; intro v7 w7 ho7 hg7 _; have G7 := hid_intro (HB6.out _ w6 w7 v6 _ G6.out H6.out hg7 ⟨rfl, rfl, rfl, rfl⟩); have Z7 := HZ.out w7 v7 G7.out ho7; obtain ⟨va, vn, vc, hv7⟩ := owns_shape7 ho7; clear ho7 hg7; subst hv7; have c27 := Z7.2.2.1; have f27 := Z7.2.2.2; have Z8 := hid_intro Z7; clear Z7))
            all_goals
              go_wp2_with fail
              go_meet
              case rel => exact ⟨_, Z8.out.1, Z8.out.2.1⟩
        case rest =>
          obtain ⟨vs2, hv2, hf2⟩ := hcut
          have hT := lv_trans HF1.out hv2 hf2
          have HE : Hid (upd (upd ls1 1 (S.take i ++ S.drop (i + 1))) 0 (upd ls1 1 (S.take i ++ S.drop (i + 1)) 0 ++ [no]) = tkF ls i no) := by
            show _ = _
            unfold tkF
            rw [← hS, HLS1.out, upd_ne ls _ (show (1 : Fin 4) ≠ 2 by decide), upd_ne _ _ (show (0 : Fin 4) ≠ 1 by decide), upd_ne ls _ (show (0 : Fin 4) ≠ 2 by decide)]
          have HLEN : Hid ((upd ls1 1 (S.take i ++ S.drop (i + 1)) 0).length ≤ 1000000) := by
            show _ ≤ _
            rw [HLS1.out, upd_ne _ _ (show (0 : Fin 4) ≠ 1 by decide), upd_ne ls _ (show (0 : Fin 4) ≠ 2 by decide)]
            exact hs0
          generalize upd ls1 1 (S.take i ++ S.drop (i + 1)) = ls2 at *
          have HT := hid_intro hT
          clear hv2 hf2 hT HNt HLS HEA HTA HGA HB6 HZ HF1 HV1
          obtain ⟨mo2, mcap2, em2, mnt2, mc12, mc22⟩ := (HT.out.1.own 0).shape
          have c1 := HT.out.1.c1
          rw [em2] at c1
          have HZ : Hid (∀ (V w8 : World) (v8 : Value), V.grownBy w8 (Value.slice mo2 (ls2 0).length mcap2).ownBlock → Qt (wc.alloc (.cells #[.int .i64 no] 3)) V → Ow w8 0 v8 (ls2 0 ++ [no]) → (∀ g, v8.ownBlock = some g → (Value.slice mo2 (ls2 0).length mcap2).ownBlock = some g ∨ V.heap.size ≤ g) → (∃ vs', Lv (w8.setCell ⟨X, 1, none⟩ v8) (Nf F wr (w8.setCell ⟨X, 1, none⟩ v8)) X B vs' (tkF ls i no) ver ∧ Fr wr (w8.setCell ⟨X, 1, none⟩ v8) F) ∧ w8.cell? ⟨X, 1, none⟩ = some (.slice mo2 (ls2 0).length mcap2) ∧ w8.frozen? ⟨X, 1, none⟩ = false) := fun V w8 v8 hg hq ho hl => by
            rw [← em2] at hg hl ⊢
            have h3 := HT.out.1.app 0 _ hg hq v8 _ ho hl
            rw [HE.out] at h3
            exact ⟨⟨_, lv_trans HT.out.2 h3.1 h3.2.1⟩, h3.2.2.1, h3.2.2.2⟩
          have HO : Hid (Ow wc 0 (.slice mo2 (ls2 0).length mcap2) (ls2 0)) := by
            have := HT.out.1.own 0
            rw [em2] at this
            exact this
          clear em2 mnt2 HE HLS1 hS
          go_wp2_with (first
            | (at_builtin; refine app17 rfl _ _ rfl 0 (.slice mo2 (ls2 0).length mcap2) (ls2 0) rfl (HO.out.keptN (World.grownBy_alloc wc _ none)) (some ⟨wc.heap.size, 0, none⟩) 1 1 rfl [no] (Nt.lit _ _ _ _ rfl) rfl (by simp) (by have := HLEN.out; omega) (Nat.zero_le _) ?_; intro v8 w8 ho8 hg8 hl8; have Z8 := HZ.out _ w8 v8 hg8 ⟨rfl, rfl, rfl, rfl⟩ ho8 hl8; obtain ⟨va, vn, vc, hv8⟩ := owns_shape7 ho8; clear ho8 hg8 hl8; subst hv8; have c18 := Z8.2.1; have f18 := Z8.2.2; have ZZ := hid_intro Z8.1; clear Z8))
          go_ret
          exact ⟨rfl, ZZ.out⟩
end Go.Proofs.Ytpoflmcmlnghhaa
