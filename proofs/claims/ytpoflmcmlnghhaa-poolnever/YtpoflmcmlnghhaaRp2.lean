import Derived.Test.YtpoflmcmlnghhaaRp1
namespace Go.Proofs.Ytpoflmcmlnghhaa
open Go.RowKit Go.Maps

/-- A call of a pool, as a value. -/
def opc (kd A Bv : Int) (go : Option Addr) (n gc : Nat) (sec : Bool) : Array Value := #[.int .i64 kd, .int .i64 A, .int .i64 Bv, .slice go n gc, .bool sec]
/-- What one call leaves. -/
structure Po1 (w w' : World) (Q B s q R : Nat) (F : Nat → Prop) (r : Ro) : Prop where
  ex : ∃ F' p' r', Pr w' Q B s q R F' p' r' ∧ (∀ i, F' i → F i ∨ w.heap.size ≤ i) ∧ r'.ps.length ≤ r.ps.length + 1
  fr : Fr w w' (Ob Q B s q F)
/-- The list with marks is written over behind it. -/
theorem po1_end {w wK w' : World} {Q B s q R gl cp : Nat} {F : Nat → Prop} {p : Po} {r : Ro} (h0 : Pr w Q B s q R F p r) (hex : ∃ F' p' r', Pr wK Q B s q R F' p' r' ∧ (∀ i, F' i → F i ∨ (w.heap.size ≤ i ∧ i ≠ gl)) ∧ r'.ps.length ≤ r.ps.length + 1) (hfr : Fr w wK (Ob Q B s q F)) (hw : Ow7 wK w' gl cp) (hg : w.heap.size ≤ gl) : Po1 w w' Q B s q R F r := by
  obtain ⟨F', p', r', h1, h2, h3⟩ := hex
  refine ⟨⟨F', p', r', h1.fr hw.fr (fun i hi e => ?_), fun i hi => (h2 i hi).imp id And.left, h3⟩, hfr.then hw.fr (fun i e hi => by omega)⟩
  subst e
  rcases hi with rfl | hi | hi
  · have := h0.qlt
    omega
  · have := h0.pl.low _ hi
    omega
  · rcases h2 _ hi with h4 | h4
    · have := h0.rz.low _ h4
      omega
    · exact h4.2 rfl
/-- The call's own cells, and the list with marks. -/
structure Cl (w : World) (P gl cp n : Nat) (g : List Int) (kd A Bv : Int) (go : Option Addr) (gc : Nat) (sec : Bool) (base : Nat) : Prop where
  px : w.heap[P]? = some (.cells (opc kd A Bv go n gc sec) 35 (0, 0))
  lo : w.ownsRow base 3 1 (.slice (some ⟨gl, 0, none⟩) (n + 2) cp) (n + 2) ((g ++ [201, 202]).map (Value.int .i64))
  bp : base ≤ P
theorem Cl.cell {w : World} {P gl cp n : Nat} {g : List Int} {kd A Bv : Int} {go : Option Addr} {gc : Nat} {sec : Bool} {base : Nat} (h : Cl w P gl cp n g kd A Bv go gc sec base) (i : Nat) : w.cell? ⟨P, i, none⟩ = (opc kd A Bv go n gc sec)[i]? := cell_of_row w P i _ _ _ h.px
theorem Cl.fr {w w' : World} {P gl cp n : Nat} {g : List Int} {kd A Bv : Int} {go : Option Addr} {gc : Nat} {sec : Bool} {base : Nat} {G : Nat → Prop} (h : Cl w P gl cp n g kd A Bv go gc sec base) (hf : Fr w w' G) (hG : ∀ i, G i → i < base ∨ w.heap.size ≤ i) : Cl w' P gl cp n g kd A Bv go gc sec base := by
  have hl := (Array.getElem?_eq_some_iff.1 h.px).1
  refine ⟨(hf.block P hl (fun e => ?_)).trans h.px, own_fr h.lo hf (fun j e e' => ?_), h.bp⟩
  · have := h.bp
    rcases hG P e with h1 | h1 <;> omega
  · obtain ⟨h2, cur, hc⟩ := own_lt h.lo e
    have h3 := (Array.getElem?_eq_some_iff.1 hc).1
    rcases hG j e' with h1 | h1 <;> omega
theorem Cl.keptN {w w' : World} {P gl cp n : Nat} {g : List Int} {kd A Bv : Int} {go : Option Addr} {gc : Nat} {sec : Bool} {base : Nat} (h : Cl w P gl cp n g kd A Bv go gc sec base) (hg : w.grownBy w' none) : Cl w' P gl cp n g kd A Bv go gc sec base := h.fr (Fr.ofN (F := fun _ => False) hg) (fun _ hi => hi.elim)
/-- All cells that a call reads. -/
def Sc (w : World) (Q P B R : Nat) (kd A Bv : Int) (go : Option Addr) (n gc : Nat) : Prop :=
  w.cell? ⟨Q, 0, none⟩ = some (.pointer (some ⟨B, 0, none⟩)) ∧ w.cell? ⟨Q, 1, none⟩ = some (.pointer (some ⟨R, 0, none⟩)) ∧ w.cell? ⟨P, 0, none⟩ = some (.int .i64 kd) ∧ w.cell? ⟨P, 1, none⟩ = some (.int .i64 A) ∧ w.cell? ⟨P, 2, none⟩ = some (.int .i64 Bv) ∧ w.cell? ⟨P, 3, none⟩ = some (.slice go n gc)
theorem sc_of {w : World} {Q B s q R P gl cp n : Nat} {F : Nat → Prop} {p : Po} {r : Ro} {g : List Int} {kd A Bv : Int} {go : Option Addr} {gc : Nat} {sec : Bool} {base : Nat} (h : Pr w Q B s q R F p r) (k : Cl w P gl cp n g kd A Bv go gc sec base) : Sc w Q P B R kd A Bv go n gc :=
  ⟨h.c0, h.c1, k.cell 0, k.cell 1, k.cell 2, k.cell 3⟩
theorem Pr.qB {w : World} {Q B s q R : Nat} {F : Nat → Prop} {p : Po} {r : Ro} (h : Pr w Q B s q R F p r) : ¬ Bk B s q Q := by
  rintro (e | e | e)
  · have h1 := h.qx
    rw [e, h.pl.bx] at h1
    simp at h1
  · obtain ⟨es, clock, hb, _⟩ := h.pl.ms
    rw [← e, h.qx] at hb
    cases hb
  · obtain ⟨es, clock, hb, _⟩ := h.pl.mq
    rw [← e, h.qx] at hb
    cases hb
theorem Sc.fr {w w' : World} {Q P B R : Nat} {kd A Bv : Int} {go : Option Addr} {n gc : Nat} {G : Nat → Prop} (h : Sc w Q P B R kd A Bv go n gc) (hf : Fr w w' G) (hQ : ¬ G Q) (hP : ¬ G P) : Sc w' Q P B R kd A Bv go n gc :=
  ⟨hf.cell h.1 hQ, hf.cell h.2.1 hQ, hf.cell h.2.2.1 hP, hf.cell h.2.2.2.1 hP, hf.cell h.2.2.2.2.1 hP, hf.cell h.2.2.2.2.2 hP⟩
theorem Sc.keptN {w w' : World} {Q P B R : Nat} {kd A Bv : Int} {go : Option Addr} {n gc : Nat} (h : Sc w Q P B R kd A Bv go n gc) (hg : w.grownBy w' none) : Sc w' Q P B R kd A Bv go n gc := h.fr (Fr.ofN (F := fun _ => False) hg) (fun e => e) (fun e => e)
/-- Both pools have changed, the program's first. -/
theorem pr_both {w w2 w3 w4 : World} {Q B s q R gl : Nat} {F : Nat → Prop} {p p' : Po} {r r' : Ro} (h : Pr w Q B s q R F p r) (hg2 : w.grownBy w2 none) (hf3 : Fr w2 w3 (Bk B s q)) (hp3 : Pl w3 B s q p') (hf4 : Fr w3 w4 F) (hz4 : Rz w4 (Nf F w3 w4) R r') (ok : Ok p') (ag : Ag p' r') (hlen : r'.ps.length ≤ r.ps.length + 1) (hps : r.ps.length ≤ 100000) (hgl : gl < w2.heap.size) :
    (∃ F' p' r', Pr w4 Q B s q R F' p' r' ∧ (∀ i, F' i → F i ∨ (w.heap.size ≤ i ∧ i ≠ gl)) ∧ r'.ps.length ≤ r.ps.length + 1) ∧ Fr w w4 (Ob Q B s q F) := by
  have h2 := h.keptN hg2
  have s2 := hg2.size
  have s3 := hf3.size
  refine ⟨⟨Nf F w3 w4, p', r', h2.next ?_ (hf4.pl hp3 (fun i hi hF => h.dj i hF hi)) hz4 ok (fun i hi => ?_) ag (by omega), fun i hi => ?_, hlen⟩, ?_⟩
  · exact (hf4.block Q (Nat.lt_of_lt_of_le h2.qlt s3) h.qF).trans (hf3.block Q h2.qlt h2.qB)
  · rcases hi with hi | hi
    · exact .inl hi
    · exact .inr (by omega)
  · rcases hi with hi | hi
    · exact .inl hi
    · exact .inr ⟨by omega, by omega⟩
  · exact ((Fr.ofN hg2).trans (hf3.wide (fun i hi _ => .inr (.inl hi)))).trans (hf4.wide (fun i hi _ => .inr (.inr hi)))
theorem Cl.glt {w : World} {P gl cp n : Nat} {g : List Int} {kd A Bv : Int} {go : Option Addr} {gc : Nat} {sec : Bool} {base : Nat} (h : Cl w P gl cp n g kd A Bv go gc sec base) : gl < w.heap.size := by
  obtain ⟨_, cur, hc⟩ := own_lt h.lo (g := gl) rfl
  exact (Array.getElem?_eq_some_iff.1 hc).1
theorem fr_drew {w w' : World} {G : Nat → Prop} (h : Fr w.drew w' G) : Fr w w' G := ⟨h.os, h.tape, h.output, h.size, h.block⟩
theorem Sc.drew {w : World} {Q P B R : Nat} {kd A Bv : Int} {go : Option Addr} {n gc : Nat} (h : Sc w Q P B R kd A Bv go n gc) : Sc w.drew Q P B R kd A Bv go n gc := h

set_option maxHeartbeats 16000000 in
set_option maxRecDepth 100000 in
theorem plays_other {w : World} {Q B s q R : Nat} {F : Nat → Prop} {p : Po} {r : Ro} (h : Pr w Q B s q R F p r) (kd A Bv : Int) (go : Option Addr) (n gc : Nat) (g : List Int) (sec : Bool) (hl : Nt w go g) (hw : Wf g) (hn : g.length = n) (hgb : ∀ ad, go = some ad → 0 < n → ¬ Ob Q B s q F ad.block) (hA : -9223372036854775808 ≤ A ∧ A ≤ 9223372036854775807) (hBv : -9223372036854775808 ≤ Bv ∧ Bv ≤ 9223372036854775807) (_hps : r.ps.length ≤ 100000) (hn4 : n ≤ 4000) (h1 : kd ≠ 1) (h2 : kd ≠ 2) (h3 : kd ≠ 3) (h4 : kd ≠ 4) (h5 : kd ≠ 5) :
    Calls Try.prog 11 #[.pointer (some ⟨Q, 0, none⟩), .agg #[.int .i64 kd, .int .i64 A, .int .i64 Bv, .slice go n gc, .bool sec]] w fun e w' => e = .returned (.bool true) ∧ Po1 w w' Q B s q R F r := by
  obtain ⟨i1, hi1, hy0, hy1, hy2⟩ := info_parts info_int
  have HP := hid_intro h
  have HL := hid_intro hl
  have HW := hid_intro hw
  have HGB := hid_intro hgb
  have HA := hid_intro hA
  have HBV := hid_intro hBv
  have hn4' : ¬ (4000 : Int) < (n : Int) := by omega
  have gA := World.grownBy_alloc w (.cells (opc kd A Bv go n gc sec) 35) none
  have HPX : Hid ((w.alloc (.cells (opc kd A Bv go n gc sec) 35)).heap[w.heap.size]? = some (.cells (opc kd A Bv go n gc sec) 35 (0, 0))) := heap_alloc_new w _
  have a3 : (w.alloc (.cells #[.int .i64 kd, .int .i64 A, .int .i64 Bv, .slice go n gc, .bool sec] 35)).cell? ⟨w.heap.size, 3, none⟩ = some (.slice go n gc) := cell_of_row _ _ 3 _ _ _ HPX.out
  clear h hl hw hgb hA hBv
  go_enter Try.func11, Try.ntmps11
  go_wp2_with fail
  have HGA := hid_intro (show w.grownBy (w.alloc (.cells #[.int .i64 kd, .int .i64 A, .int .i64 Bv, .slice go n gc, .bool sec] 35)) none from gA)
  have HPA := hid_intro (show (w.alloc (.cells #[.int .i64 kd, .int .i64 A, .int .i64 Bv, .slice go n gc, .bool sec] 35)).heap[w.heap.size]? = some (.cells (opc kd A Bv go n gc sec) 35 (0, 0)) from HPX.out)
  clear gA HPX
  generalize w.alloc (.cells #[.int .i64 kd, .int .i64 A, .int .i64 Bv, .slice go n gc, .bool sec] 35) = wA at *
  refine (refInts_any go n gc g _ (HL.out.keptN HGA.out) hn (by omega)).mono ?_
  rintro en w1 ⟨⟨v1, rfl, ho1⟩, hg1, hs1⟩
  have HO1 := hid_intro ho1
  have HG1 := hid_intro (grown_trans HGA.out hg1)
  have HPX1 := hid_intro ((hg1.block _ (Array.getElem?_eq_some_iff.1 HPA.out).1 (by simp)).trans HPA.out)
  have hsA := hg1.size
  clear ho1 hg1 a3 HPA
  go_wp2_with (at_builtin; refine wpList_append_own _ rfl _ _ 22 rfl wA.heap.size 3 i1 (.int .i64 0) 1 8 Try.underlying22 hi1 hy0 hy1 hy2 rfl (by decide) v1 n (g.map (Value.int .i64)) rfl (HO1.out.alloc _) ⟨w1.heap.size, 0, none⟩ 2 2 [.int .i64 201, .int .i64 202] rfl rfl (news2 w1 3 (.int .i64 201) (.int .i64 202) _ rfl) (by intro u hu; simp at hu; rcases hu with rfl | rfl <;> rfl) (by unfold maxLen; omega) (by omega) (by simp; omega) ?_; intro v2 w2 ho2 hg2 _; obtain ⟨gl, cp, cur, e2, -⟩ := ho2.2.resolve_left (fun e => by have := e.2; omega); subst e2; have HG2 := hid_intro (grown_app5 HG1.out HO1.out HGA.out.size hg2); have HCL : Hid (Cl w2 w.heap.size gl cp n g kd A Bv go gc sec w.heap.size) := (by refine ⟨(hg2.block _ (by have := (Array.getElem?_eq_some_iff.1 HPX1.out).1; simp; omega) (fun e => own_ne_ty HO1.out HPX1.out (by decide) e)).trans ((Below.heap_alloc w1 _ _ (Array.getElem?_eq_some_iff.1 HPX1.out).1).trans HPX1.out), ?_, Nat.le_refl _⟩; rw [List.map_append]; exact own_base ho2 HGA.out.size); clear ho2 hg2; have hcp := (marks_cells HCL.out.lo hn).2.2.2.1; have hcp2 := (marks_cells HCL.out.lo hn).2.2.2.2; have HP2 := hid_intro (HP.out.keptN HG2.out); have S2 := sc_of HP2.out HCL.out; unfold Sc at S2; have t0 := S2.2.2.1; have HS2 := hid_intro (sc_of HP2.out HCL.out); clear S2)
  have e1 : (kd == 1) = false := by simp [h1]
  have e2 : (kd == 2) = false := by simp [h2]
  have e3 : (kd == 3) = false := by simp [h3]
  have e4 : (kd == 4) = false := by simp [h4]
  have e5 : (kd == 5) = false := by simp [h5]
  clear h1 h2 h3 h4 h5
  go_upto_region 20 with fail
  obtain ⟨wK, hK⟩ : ∃ wK, wK = w2 := ⟨_, rfl⟩
  rw [← hK] at HP2 HCL HG2
  have CLK := hid_intro HCL.out
  have HPN : Hid (∃ F' p' r', Pr wK Q B s q R F' p' r' ∧ (∀ i, F' i → F i ∨ (w.heap.size ≤ i ∧ i ≠ gl)) ∧ r'.ps.length ≤ r.ps.length + 1) := ⟨F, p, r, HP2.out, fun i hi => .inl hi, by omega⟩
  have HFK : Hid (Fr w wK (Ob Q B s q F)) := Fr.ofN HG2.out
  rw [← hK]
  clear hK HP2 HCL HG2 HG1 HO1 HGA HPX1 hsA
  have HLW : Hid (Nt wK go g) := HFK.out.nt HL.out (fun ad e h0 => HGB.out ad e (by omega))
  obtain ⟨m1, m2, m3, -, -⟩ := marks_cells CLK.out.lo hn
  have NL5 := hid_intro m1
  have c3 : wK.cell? ⟨w.heap.size, 3, none⟩ = some (.slice go n gc) := CLK.out.cell 3
  have HSI := hid_intro (fun (W : World) (hW : W.heap = wK.heap) => sameI_yes (some ⟨gl, 0, none⟩) n cp go n gc g W (NL5.out.heap hW) hn (HLW.out.heap hW) hn (by omega))
  have hn1 : (n : Int) < (n : Int) + 2 := by omega
  have hn2 : (n : Int) + 1 < (n : Int) + 2 := by omega
  have hn0 : (0 : Int) ≤ (n : Int) := by omega
  have hn3 : (0 : Int) ≤ (n : Int) + 1 := by omega
  have hncp : (n : Int) ≤ (cp : Int) := by omega
  have hw1 : IntKind.i64.wrap ((n : Int) + 1) = (n : Int) + 1 := by simp [IntKind.wrap, IntKind.signed, IntKind.bits]; omega
  have hgl : Hid (w.heap.size ≤ gl ∧ ∃ cur, wK.heap[gl]? = some (.cells cur 3 (0, 0)) ∧ cur.size = cp) := by
    rcases CLK.out.lo.2 with ⟨e, _⟩ | ⟨g', cp', cur', e, hb', hc', _, _, hsz, _⟩
    · cases e
    · injection e with e1 _ e3
      injection e1 with e1
      injection e1 with e1
      subst e1 e3
      exact ⟨hb', cur', hc', by omega⟩
  clear m1
  go_region_held3 (fun w' => w'.cell? ⟨w.heap.size, 3, none⟩ = some (.slice go n gc) ∧ w'.cell? ⟨gl, n, none⟩ = some (.int .i64 201) ∧ w'.cell? ⟨gl, n + 1, none⟩ = some (.int .i64 202)) (first | exact ⟨c3, m2, m3⟩ | exact T6.out | go_keep)
    (first | (go_at_call 26; refine (HSI.out _ (by rfl)).mono ?_; rintro en w6 ⟨rfl, hq6⟩; have HQ6 : Hid (Qt wK w6) := ⟨hq6.os, hq6.tape, hq6.output, hq6.heap⟩; have T6 := hid_intro (show w6.cell? ⟨w.heap.size, 3, none⟩ = some (.slice go n gc) ∧ w6.cell? ⟨gl, n, none⟩ = some (.int .i64 201) ∧ w6.cell? ⟨gl, n + 1, none⟩ = some (.int .i64 202) from ⟨(HQ6.out.cell _).trans c3, (HQ6.out.cell _).trans m2, (HQ6.out.cell _).trans m3⟩); clear hq6))
  all_goals
    clear T6 c3 m2 m3
    have HW0 : Hid (Ow7 wK w6 gl cp) := by
      obtain ⟨_, cur, hc, hsz⟩ := hgl.out
      exact ⟨⟨cur, by rw [HQ6.out.heap]; exact hc, hsz⟩, Fr.ofN (HQ6.out.grown none)⟩
    go_wp2
    go_loopw [13] (fun si wr => ∃ i : Nat, i ≤ n + 2 ∧ si = .int .i64 i ∧ Ow7 wK wr gl cp) (fun si _ => n + 2 - (zOf si).toNat)
    case atStart => exact ⟨0, Nat.zero_le _, rfl, HW0.out⟩
    case round =>
      obtain ⟨i, hi, rfl, hw⟩ := hrel
      have HWW := hid_intro hw
      clear hw HW0 HQ6
      by_cases hlt : i < n + 2
      · obtain ⟨⟨v, d0⟩, f0⟩ := HWW.out.cell (i := i) (by omega)
        have HW2 := hid_intro (HWW.out.put i (.int .i64 7))
        have g1 : (i : Int) < (n : Int) + 2 := by omega
        go_wp2
        go_roundw
        case rel => exact ⟨i + 1, by omega, by go_num, HW2.out⟩
        case measure => simp [zOf]; omega
      · have g1 : ¬ (i : Int) < (n : Int) + 2 := by omega
        have HEND := hid_intro (po1_end HP.out HPN.out HFK.out HWW.out hgl.out.1)
        go_wp2
        go_ret
        exact ⟨by first | rfl | simp, HEND.out⟩
end Go.Proofs.Ytpoflmcmlnghhaa
