import Derived.Test.YtpoflmcmlnghhaaRr5
import Derived.Maps.AppendAt
namespace Go.Proofs.Ytpoflmcmlnghhaa
open Go.RowKit Go.Maps

/-- A pool's blocks behind a call: those that it had, and new ones. -/
def Nf (F : Nat → Prop) (w w' : World) (i : Nat) : Prop := F i ∨ (w.heap.size ≤ i ∧ i < w'.heap.size)

theorem Rf.wide {w : World} {F G : Nat → Prop} {R : Nat} {r : Ro} {vL vP : Value} (h : Rf w F R r vL vP) (k : ∀ i, F i → G i) (hl : ∀ i, G i → i < w.heap.size) : Rf w G R r vL vP :=
  ⟨h.bx, h.lr, h.pr, k _ h.fR, fun g e => k _ (h.fL g e), fun g e => k _ (h.fP g e), hl⟩

theorem Rf.setP {w w1 : World} {F : Nat → Prop} {R : Nat} {r : Ro} {vL vP v' : Value} {ps' : List Int} (h : Rf w F R r vL vP) (hs : w.heap.size ≤ w1.heap.size) (hb : Rb w1 R r.c r.k vL vP) (hl : w1.ownsRow 0 79 2 vL r.l.length (fcs r.l)) (ho : w1.ownsRow 0 3 1 v' ps'.length (ps'.map (Value.int .i64))) (hn : ∀ g, v'.ownBlock = some g → F g ∨ w.heap.size ≤ g) :
    Rf (w1.setCell ⟨R, 3, none⟩ v') (Nf F w (w1.setCell ⟨R, 3, none⟩ v')) R { r with ps := ps' } vL v' := by
  have hg := grown_cellP w1 R 3 v'
  have hz : (w1.setCell ⟨R, 3, none⟩ v').heap.size = w1.heap.size := by simp
  refine ⟨hb.set3 v', own_keptR hl hg (fun g e e' => own_ne_ty hl hb (by decide) (by rw [e, e'])), own_keptR ho hg (fun g e e' => own_ne_ty ho hb (by decide) (by rw [e, e'])), .inl h.fR, fun g e => .inl (h.fL g e), fun g e => ?_, fun i hi => ?_⟩
  · rcases hn g e with h1 | h1
    · exact .inl h1
    · obtain ⟨_, cur, hc⟩ := own_lt ho e
      exact .inr ⟨h1, by rw [hz]; exact (Array.getElem?_eq_some_iff.1 hc).1⟩
  · rcases hi with h1 | h1
    · have := h.low i h1
      omega
    · exact h1.2
set_option maxHeartbeats 1000000 in
set_option maxRecDepth 100000 in
theorem rpin_any {w : World} {F : Nat → Prop} {R : Nat} {r : Ro} (v : Int) (h : Rz w F R r) (hs : r.ps.length ≤ 2000000) :
    Calls Try.prog 32 #[.pointer (some ⟨R, 0, none⟩), .int .i64 v] w fun en w' => en = .returned (.tuple #[]) ∧ Rz w' (Nf F w w') R { r with ps := r.ps ++ [v] } ∧ Fr w w' F := by
  obtain ⟨i1, hi1, hy0, hy1, hy2⟩ := info_parts info_int
  obtain ⟨vL, vP, h⟩ := h
  have c3 := h.c3
  have HR := hid_intro h
  have gA := World.grownBy_alloc w (.cells #[.int .i64 v] 3) none
  have HRA := hid_intro (h.keptN gA)
  obtain ⟨n, hn⟩ : ∃ n, n = r.ps.length := ⟨_, rfl⟩
  have HO := hid_intro h.pr
  rw [← hn] at HO hs
  have HN := hid_intro hn
  clear h gA hn
  go_enter Try.func32, Try.ntmps32
  go_wp2_with (at_builtin; refine wpList_append_own_at _ rfl _ _ 22 rfl 0 3 i1 (.int .i64 0) 1 8 Try.underlying22 hi1 hy0 hy1 hy2 rfl (by decide) vP n (r.ps.map (Value.int .i64)) rfl (HO.out.alloc _) ⟨w.heap.size, 0, none⟩ 1 1 [.int .i64 v] rfl rfl (cell_one_new _ _ _) (by intro u hu; simp at hu; subst hu; rfl) (by unfold maxLen; omega) (by omega) (Nat.zero_le _) ?_; intro v' w1 ho hg hnil hloc; obtain ⟨g3, cap3, cur3, e3, -⟩ := ho.2.resolve_left (fun e => by have := e.2; omega); subst e3; have HO1 := hid_intro ho; have HG1 := hid_intro hg; have HLC := hid_intro hloc; have hbA : (w.alloc (.cells #[.int .i64 v] 3)).heap[R]? = _ := HRA.out.bx; have hb1 : Rb w1 R r.c r.k vL vP := (hg.block R (Array.getElem?_eq_some_iff.1 hbA).1 (own_ne_ty (HO.out.alloc (.cells #[.int .i64 v] 3)) hbA (by decide))).trans hbA; have d3 := hb1.c3; have f3 := hb1.fz 3; have HB1 := hid_intro hb1; clear ho hg hnil hloc hbA hb1)
  refine bodyPost_end (results_none rfl _ _ _) rfl ?_
  have gA := World.grownBy_alloc w (.cells #[.int .i64 v] 3) none
  have ho2 : w1.ownsRow 0 3 1 (.slice (some ⟨g3, 0, none⟩) (n + 1) cap3) (r.ps ++ [v]).length ((r.ps ++ [v]).map (Value.int .i64)) := by
    rw [List.map_append, List.length_append, ← HN.out]
    exact HO1.out
  have hl2 := own_keptR HRA.out.lr HG1.out (fun g e e' => by
    obtain ⟨_, cur, hc⟩ := own_lt (HO.out.alloc (.cells #[.int .i64 v] 3)) e'
    exact own_ne_ty HRA.out.lr hc (by decide) e.symm)
  have hnew : ∀ g, (Value.slice (some ⟨g3, 0, none⟩) (n + 1) cap3).ownBlock = some g → F g ∨ w.heap.size ≤ g := fun g e => by
    rcases HLC.out with h1 | h1
    · exact .inl (HR.out.fP g (h1 ▸ e))
    · right
      rw [h1] at e
      have := Option.some.inj e
      simp at this
      omega
  have hsz : w.heap.size ≤ w1.heap.size := Nat.le_trans gA.size HG1.out.size
  refine ⟨rfl, ⟨vL, _, HR.out.setP hsz HB1.out hl2 ho2 hnew⟩, ?_⟩
  refine ((Fr.ofN gA).trans ?_).trans (Fr.of (grown_cellP w1 R 3 _) (fun j e => .inr (by rw [← Option.some.inj e]; exact HR.out.fR)))
  exact Fr.of HG1.out (fun j e => .inr (HR.out.fP j e))

set_option maxHeartbeats 1000000 in
set_option maxRecDepth 100000 in
/-- Is a number free? -/
theorem rhas_any {w : World} {F : Nat → Prop} {R : Nat} {r : Ro} (x : Int) (h : Rz w F R r) (hs : r.l.length ≤ 2000000) :
    Calls Try.prog 46 #[.pointer (some ⟨R, 0, none⟩), .int .i64 x] w fun en w' => en = .returned (.bool (hasI r.l x)) ∧ w' = w := by
  obtain ⟨vL, vP, h⟩ := h
  obtain ⟨ao, cp, rfl, hc1, hc2, hat⟩ := own_pairs h.lr
  have c2 := h.c2
  have HA := hid_intro hat
  clear h hat
  obtain ⟨n, hn⟩ : ∃ n, n = r.l.length := ⟨_, rfl⟩
  rw [← hn] at hs hc1 c2
  have HN := hid_intro hn
  clear hn
  go_enter Try.func46, Try.ntmps46
  go_wp2
  go_loopw [5] (fun si wr => ∃ i : Nat, i ≤ n ∧ si = .int .i64 i ∧ hasI (r.l.take i) x = false ∧ wr = w) (fun si _ => n - (zOf si).toNat)
  case atStart => exact ⟨0, Nat.zero_le _, rfl, rfl, rfl⟩
  case round =>
    obtain ⟨i, hi, rfl, ha, rfl⟩ := hrel
    have HAA := hid_intro ha
    clear ha
    by_cases hlt : i < n
    · obtain ⟨gL, rfl, q1, -⟩ := HA.out i (by rw [← HN.out]; exact hlt)
      have hil : i < r.l.length := by rw [← HN.out]; exact hlt
      have hg : r.l.getD i (0, 0) = r.l[i] := by simp [List.getD, List.getElem?_eq_getElem hil]
      have HM : Hid (hasI (r.l.take (i + 1)) x = (hasI (r.l.take i) x || decide ((r.l.getD i (0, 0)).1 = x))) := by
        show hasI _ _ = _
        unfold hasI
        rw [List.take_add_one, List.getElem?_eq_getElem hil, hg, List.any_append]
        simp
      have HY : Hid ((r.l.getD i (0, 0)).1 = x → hasI r.l x = true) := by
        intro e
        rw [hasI_iff]
        exact ⟨r.l[i], List.getElem_mem hil, by rw [← hg]; exact e⟩
      clear hg hil
      generalize (r.l.getD i (0, 0)).1 = y at *
      by_cases he : y = x
      · have h2 : (y == x) = true := by simp [he]
        have HX := hid_intro (HY.out he)
        clear he HM HY
        go_wp2
        go_ret
        exact ⟨by rw [HX.out]; rfl, rfl⟩
      · have h2 : (y == x) = false := by simp [he]
        have HX : Hid (hasI (r.l.take (i + 1)) x = false) := by
          show _ = _
          rw [HM.out, HAA.out]
          simp [he]
        clear he HM HY
        go_wp2
        go_roundw
        case rel => exact ⟨i + 1, by omega, by go_num, HX.out, by trivial⟩
        case measure => simp [zOf]; omega
    · have hin : i = n := by omega
      subst hin
      have HX : Hid (hasI r.l x = false) := by
        have := HAA.out
        rw [HN.out, List.take_length] at this
        exact this
      go_wp2
      go_ret
      exact ⟨by rw [HX.out]; rfl, rfl⟩

set_option maxHeartbeats 4000000 in
set_option maxRecDepth 100000 in
/-- How many pages of frees, by the document. -/
theorem rlists_any {w : World} {F : Nat → Prop} {R : Nat} {r : Ro} {p : Po} (h : Rz w F R r) (ag : Ag p r) (ok : Ok p) (hris : Ris p.l) (hps : r.ps.length ≤ 2000000) (d : Int) (a : Option Addr) (n cap : Nat) (g : List Int) (hl : Nt w a g) (hn : g.length = n) (hm : n ≤ 1000000) (hd : -9223372036854775808 ≤ d ∧ d ≤ 9223372036854775807) :
    Calls Try.prog 34 #[.pointer (some ⟨R, 0, none⟩), .int .i64 d, .slice a n cap] w fun e w' => e = .returned (.int .i64 (lsP p d g)) ∧ w.grownBy w' none := by
  have hpl := ok.len hris
  have hrl : r.l.length = p.l.length := by rw [ag.l]
  have HRS := hid_intro (rises_any a n cap r.c g w hl hn (by omega))
  rw [ag.c] at HRS
  have HHS := hid_intro (fun (W : World) (hW : w.grownBy W none) (x : Int) => rhas_any x (h.keptN hW) (by omega))
  rw [ag.l] at HHS
  have HU := hid_intro (fun (W : World) (hW : w.grownBy W none) => rusable_any (h.keptN hW) (by omega) hps)
  rw [ag.us] at HU
  have HSS : Hid (∀ W, w.grownBy W none → W.cell? ⟨R, 0, none⟩ = some (.int .i64 p.c) ∧ ∃ ao cp, W.cell? ⟨R, 2, none⟩ = some (.slice ao p.l.length cp)) := fun W hW => by
    obtain ⟨vL, vP, hr⟩ := h.keptN hW
    obtain ⟨ao, cp, rfl, -⟩ := own_pairs hr.lr
    exact ⟨by rw [← ag.c]; exact hr.c0, ao, cp, by rw [← ag.l]; exact hr.c2⟩
  have HL := hid_intro hl
  have c0 := (HSS.out w (World.grownBy.refl _ _)).1
  have hul := us_len p
  clear h hl hrl
  by_cases h0 : d < 0
  · have HE : Hid (lsP p d g = -1) := by show _ = _; unfold lsP; rw [if_pos (.inl h0)]
    go_enter Try.func34, Try.ntmps34
    go_wp2
    go_ret
    exact ⟨by rw [HE.out]; rfl, World.grownBy.refl _ _⟩
  · have h0d : decide (d < 0) = false := by simp; omega
    cases hr : rp 1 p.c g with
    | false =>
      have HE : Hid (lsP p d g = -1) := by show _ = _; unfold lsP; rw [if_pos (.inr (by unfold mayP; rw [hr]; simp))]
      rw [hr] at HRS
      go_enter Try.func34, Try.ntmps34
      go_wp2_with (go_at_call 45; refine HRS.out.mono ?_; rintro en w2 ⟨rfl, hq2⟩; have HQ := hid_intro hq2; clear hq2)
      go_ret
      exact ⟨by rw [HE.out]; rfl, HQ.out.grown none⟩
    | true =>
      rw [hr] at HRS
      have HMY : Hid (mayP p g = noF p g) := by show mayP p g = _; unfold mayP; rw [hr]; simp
      clear hr
      go_enter Try.func34, Try.ntmps34
      go_wp2_with (go_at_call 45; refine HRS.out.mono ?_; rintro en w2 ⟨rfl, hq2⟩; have HQ := hid_intro (hq2.grown none); clear hq2)
      go_loopw [7, 8] (fun si _ wr => ∃ i : Nat, i ≤ n ∧ si = .int .i64 i ∧ noF p (g.take i) = true ∧ w.grownBy wr none) (fun si _ _ => n - (zOf si).toNat)
      case atStart => exact ⟨0, Nat.zero_le _, rfl, rfl, HQ.out⟩
      case round =>
        obtain ⟨i, hi, rfl, ha, hgw⟩ := hrel
        have HA := hid_intro ha
        have HG := hid_intro hgw
        clear ha hgw HQ
        by_cases hlt : i < n
        · obtain ⟨b, off, rfl, q0⟩ := HL.out.row i (by omega)
          have d0 := HG.out.cell q0 (by simp)
          have HC := hid_intro (HHS.out wr HG.out (g.getD i 0))
          clear q0
          cases hh : hasI p.l (g.getD i 0) with
          | true =>
            have HN := hid_intro (noF_no (p := p) (show i < g.length by omega) hh)
            have HE : Hid (lsP p d g = -1) := by show _ = _; unfold lsP; rw [if_pos (.inr HN.out)]
            rw [hh] at HC
            clear hh HN
            generalize g.getD i 0 = x at *
            go_wp2_with (go_at_call 46; refine HC.out.mono ?_; rintro en w3 ⟨rfl, rfl⟩)
            go_ret
            exact ⟨by rw [HE.out]; rfl, HG.out⟩
          | false =>
            have HN := hid_intro (noF_take (p := p) (show i < g.length by omega) HA.out hh)
            rw [hh] at HC
            clear hh
            generalize g.getD i 0 = x at *
            go_wp2_with (go_at_call 46; refine HC.out.mono ?_; rintro en w3 ⟨rfl, rfl⟩)
            go_roundw
            case rel => exact ⟨i + 1, by omega, by go_num, HN.out, HG.out⟩
            case measure => simp [zOf]; omega
        · have hin : i = n := by omega
          subst hin
          have HF : Hid (mayP p g = true) := by
            have := HA.out
            rw [← hn, List.take_length] at this
            show _ = _
            rw [HMY.out, this]
          have HE : Hid (lsP p d g = (lst (p.l.length + g.length) (us p).length (min d (us p).length).toNat : Nat)) := by
            show lsP p d g = _
            unfold lsP
            rw [if_neg (by rw [HF.out]; simp; omega)]
          rw [hn] at HE
          obtain ⟨u, hu⟩ : ∃ u, u = (us p).length := ⟨_, rfl⟩
          obtain ⟨t, ht⟩ : ∃ t, t = p.l.length := ⟨_, rfl⟩
          rw [← hu] at hul HE HU
          rw [← ht] at hul hpl HE HSS
          obtain ⟨m, hm1⟩ : ∃ m : Nat, m = (min d (u : Int)).toNat := ⟨_, rfl⟩
          rw [← hm1] at HE
          have hm2 : min d (u : Int) = (m : Int) := by rw [hm1]; omega
          clear hu ht hm1 HF HMY HHS HRS
          go_wp2_with fail
          refine (HU.out wr HG.out).mono ?_
          rintro en w4 ⟨v4, rfl, ho4, hg4⟩
          obtain ⟨ua, uc, rfl, -⟩ := owns_ints ho4
          have HG4 := hid_intro (grown_trans HG.out hg4)
          obtain ⟨-, la, lc, c2⟩ := HSS.out w4 HG4.out
          clear ho4 hg4 HG HU
          go_wp2
          go_loopw [10, 11] (fun sf _ wr => ∃ f : Nat, sf = .int .i64 f ∧ (∀ j, j < f → j * 1021 < (t + i) - min (m + j) u) ∧ f ≤ t + i ∧ wr = w4) (fun sf _ _ => (t + i) - (zOf sf).toNat)
          case atStart => exact ⟨0, rfl, fun j hj => by omega, by omega, rfl⟩
          case round =>
            obtain ⟨f, rfl, hgo, hle, rfl⟩ := hrel
            have HGO := hid_intro hgo
            clear hgo
            obtain ⟨x, hx⟩ : ∃ x, x = min (m + f) u := ⟨_, rfl⟩
            have HX := hid_intro hx
            have hxu : x ≤ u := by omega
            have HGT : Hid (f * 1021 < (t + i) - x → ∀ j, j < f + 1 → j * 1021 < (t + i) - min (m + j) u) := by
              intro hgt j hj
              by_cases e : j = f
              · subst e; rw [← HX.out]; exact hgt
              · exact HGO.out j (by omega)
            have HFE : Hid (¬ f * 1021 < (t + i) - x → f = lst (t + i) u m) := fun hgt => Lf.eq ⟨by rw [← HX.out]; omega, HGO.out⟩
            by_cases hdu : d < (u : Int) ∧ d + (f : Int) < (u : Int)
            · have hx1 : d + (f : Int) = (x : Int) := by omega
              have hd1 : decide (d < (u : Int)) = true := by simp; omega
              have hd2 : decide ((x : Int) < (u : Int)) = true := by simp; omega
              have hd3 : decide (x < u) = true := by simp; omega
              have hd4 : x < u := by omega
              clear hx hdu HX
              by_cases hgt : f * 1021 < (t + i) - x
              · have hc : ¬ (t : Int) - (x : Int) + (i : Int) ≤ (f : Int) * 1021 := by omega
                have H2 := hid_intro (HGT.out hgt)
                go_wp2
                go_roundw
                case rel => exact ⟨f + 1, by go_num, H2.out, by omega, by trivial⟩
                case measure => simp [zOf]; omega
              · have hc : (t : Int) - (x : Int) + (i : Int) ≤ (f : Int) * 1021 := by omega
                have H2 := hid_intro (HFE.out hgt)
                go_wp2
                go_ret
                exact ⟨by rw [HE.out, ← H2.out]; rfl, HG4.out⟩
            · have hx1 : x = u := by omega
              clear hx HX
              subst hx1
              by_cases hdx : d < (x : Int)
              · obtain ⟨y, hy⟩ : ∃ y : Nat, d + (f : Int) = (y : Int) := ⟨(d + f).toNat, by omega⟩
                have hd1 : decide (d < (x : Int)) = true := by simp; omega
                have hd2 : decide ((y : Int) < (x : Int)) = false := by simp; omega
                have hd3 : decide (y < x) = false := by simp; omega
                have hd4 : ¬ y < x := by omega
                have hy9 : y ≤ 9000000 := by omega
                clear hdu
                by_cases hgt : f * 1021 < (t + i) - x
                · have hc : ¬ (t : Int) - (x : Int) + (i : Int) ≤ (f : Int) * 1021 := by omega
                  have H2 := hid_intro (HGT.out hgt)
                  go_wp2
                  go_roundw
                  case rel => exact ⟨f + 1, by go_num, H2.out, by omega, by trivial⟩
                  case measure => simp [zOf]; omega
                · have hc : (t : Int) - (x : Int) + (i : Int) ≤ (f : Int) * 1021 := by omega
                  have H2 := hid_intro (HFE.out hgt)
                  go_wp2
                  go_ret
                  exact ⟨by rw [HE.out, ← H2.out]; rfl, HG4.out⟩
              · have hd1 : decide (d < (x : Int)) = false := by simp; omega
                clear hdu
                by_cases hgt : f * 1021 < (t + i) - x
                · have hc : ¬ (t : Int) - (x : Int) + (i : Int) ≤ (f : Int) * 1021 := by omega
                  have H2 := hid_intro (HGT.out hgt)
                  go_wp2
                  go_roundw
                  case rel => exact ⟨f + 1, by go_num, H2.out, by omega, by trivial⟩
                  case measure => simp [zOf]; omega
                · have hc : (t : Int) - (x : Int) + (i : Int) ≤ (f : Int) * 1021 := by omega
                  have H2 := hid_intro (HFE.out hgt)
                  go_wp2
                  go_ret
                  exact ⟨by rw [HE.out, ← H2.out]; rfl, HG4.out⟩

end Go.Proofs.Ytpoflmcmlnghhaa
