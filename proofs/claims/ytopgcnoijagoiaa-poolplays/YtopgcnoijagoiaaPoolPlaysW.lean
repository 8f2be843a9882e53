import Derived.Test.YtopgcnoijagoiaaOpIn17
import Derived.Test.YtopgcnoijagoiaaPoolNewsW
namespace Go.Proofs.Ytopgcnoijagoiaa
open Go.RowKit Go.Maps

theorem begin_sx {w0 : World} (c k : Int) (a : Option Addr) (n cap : Nat) (fr : List Int) (w : World) (hl : Nt w a fr) (hn : fr.length = n) (hm : n ≤ 4000) (h0 : w0.heap.size ≤ w.heap.size) :
    Calls Try.prog 8 #[.int .i64 c, .int .i64 k, .slice a n cap] w fun e w' => ∃ Q b, e = .returned (.tuple #[.pointer (some ⟨Q, 0, none⟩), .bool true]) ∧ Sx w0 w' Q (fun i => w.heap.size ≤ i ∧ i < w'.heap.size) 0 b ∧ w.grownBy w' none := by
  cases hok : newOk c k fr with
  | false =>
    refine (begin_no c k a n cap fr _ hl hn hm hok).mono ?_
    rintro en w2 ⟨Q, rfl, hq, hg2, hs⟩
    exact ⟨Q, true, rfl, Sx.begun_no hq h0 hs, hg2⟩
  | true =>
    refine (begin_yes c k a n cap fr _ hl hn hm hok).mono ?_
    rintro en w2 ⟨Q, B, s, q, R, F, rfl, hp, hg2, hs⟩
    exact ⟨Q, false, rfl, Sx.begun_yes hp rfl h0 hs, hg2⟩

/-- Two pairs beside one another, since w0. -/
structure Two (w0 w : World) (Qa Qc : Nat) (ba bc : Bool) (t : Nat) : Prop where
  ex : ∃ Oa Oc : Nat → Prop, Sx w0 w Qa Oa t ba ∧ Sx w0 w Qc Oc t bc ∧ (∀ i, Oa i → ¬ Oc i)
  gr : w0.grownBy w none
theorem gr_fr {w0 w w' : World} {O : Nat → Prop} (h : w0.grownBy w none) (hf : Fr w w' O) (hO : ∀ i, O i → w0.heap.size ≤ i) : w0.grownBy w' none :=
  ((Fr.ofN (F := fun _ => False) h).then hf (fun i hi hl => absurd (hO i hi) (by omega))).grown (fun i hi => hi.elim)
theorem Two.more {w0 w : World} {Qa Qc : Nat} {ba bc : Bool} {t : Nat} (h : Two w0 w Qa Qc ba bc t) : Two w0 w Qa Qc ba bc (t + 1) := by
  obtain ⟨Oa, Oc, h1, h2, h3⟩ := h.ex
  exact ⟨⟨Oa, Oc, h1.more (by omega), h2.more (by omega), h3⟩, h.gr⟩
theorem Two.swap {w0 w : World} {Qa Qc : Nat} {ba bc : Bool} {t : Nat} (h : Two w0 w Qa Qc ba bc t) : Two w0 w Qc Qa bc ba t := by
  obtain ⟨Oa, Oc, h1, h2, h3⟩ := h.ex
  exact ⟨⟨Oc, Oa, h2, h1, fun i hi hj => h3 i hj hi⟩, h.gr⟩
theorem Two.ca {w0 w : World} {Qa Qc : Nat} {ba bc : Bool} {t : Nat} (h : Two w0 w Qa Qc ba bc t) : ∃ bo : Option Addr, w.cell? ⟨Qa, 0, none⟩ = some (.pointer bo) ∧ (ba = true → bo = none) ∧ (ba = false → ∃ ad, bo = some ad) := by
  obtain ⟨Oa, Oc, h1, h2, h3⟩ := h.ex
  exact h1.c0
theorem Two.step {w0 w : World} {Qa Qc : Nat} {bc : Bool} {t : Nat} (h : Two w0 w Qa Qc false bc t) (o : Opq) (ho : Opm w0 o) (ht : t ≤ 100000) :
    Calls Try.prog 11 #[.pointer (some ⟨Qa, 0, none⟩), .agg #[.int .i64 o.k, .int .i64 o.a, .int .i64 o.b, .slice o.ao o.n o.c, .bool o.sec]] w fun e w' => e = .returned (.bool true) ∧ Two w0 w' Qa Qc false bc (t + 1) := by
  obtain ⟨Oa, Oc, h1, h2, h3⟩ := h.ex
  refine (plays_sx h1 o.k o.a o.b o.ao o.n o.c o.g o.sec (ho.nt.keptN h.gr) ho.wf ho.ln ho.low ho.ha ho.hb ht).mono ?_
  rintro e w' ⟨rfl, h4, hf⟩
  refine ⟨rfl, ⟨⟨_, Oc, h4, (h2.fr hf (fun i hi hj => h3 i hj hi)).more (by omega), fun i hi hj => ?_⟩, gr_fr h.gr hf (fun i hi => (h1.low i hi).1)⟩⟩
  rcases hi with hi | hi
  · exact h3 i hi hj
  · have := (h2.low i hj).2
    omega
theorem Two.tells {w0 w : World} {Qa Qc : Nat} {bc : Bool} {t : Nat} (h : Two w0 w Qa Qc false bc t) :
    Calls Try.prog 9 #[.pointer (some ⟨Qa, 0, none⟩)] w fun e w' => e = .returned (.bool true) ∧ Two w0 w' Qa Qc false bc t := by
  obtain ⟨Oa, Oc, h1, h2, h3⟩ := h.ex
  refine (tells_sx h1).mono ?_
  rintro e w' ⟨rfl, hg⟩
  exact ⟨rfl, ⟨Oa, Oc, h1.keptN hg, h2.keptN hg, h3⟩, grown_trans h.gr hg⟩
theorem Two.begun {w0 w1 w2 w3 : World} {Qa Qc : Nat} {ba bc : Bool} (g1 : w0.grownBy w1 none) (h1 : Sx w0 w2 Qa (fun i => w1.heap.size ≤ i ∧ i < w2.heap.size) 0 ba) (g2 : w1.grownBy w2 none) (h2 : Sx w0 w3 Qc (fun i => w2.heap.size ≤ i ∧ i < w3.heap.size) 0 bc) (g3 : w2.grownBy w3 none) : Two w0 w3 Qa Qc ba bc 0 :=
  ⟨⟨_, _, h1.keptN g3, h2, fun i hi hj => by have := hi.2; have := hj.1; omega⟩, grown_trans (grown_trans g1 g2) g3⟩

set_option maxHeartbeats 8000000 in
set_option maxRecDepth 100000 in
theorem poolPlays_walk (c k : Int) (a : Option Addr) (n cap : Nat) (fr : List Int) (sc : Int) (a4 : Option Addr) (n4 c4 : Nat) (ops : List Opq) (w : World) (hl : Nt w a fr) (hn : fr.length = n) (hO : Opl w a4 ops) (hlen : ops.length = n4) (hl63 : n4 ≤ 9223372036854775807) :
    Calls Try.prog 4 #[.int .i64 c, .int .i64 k, .slice a n cap, .int .i64 sc, .slice a4 n4 c4] w fun en w' => en = .returned (.bool true) ∧ w.grownBy w' none := by
  have HL := hid_intro hl
  have HO := hid_intro hO
  clear hl hO
  cases hfit : (decide (k ≤ 20000) && decide (n ≤ 4000)) with
  | false =>
    go_enter Try.func4, Try.ntmps4
    go_wp2_with (first
      | (go_at_call 7; refine (first17_any _).mono ?_; rintro en w1 ⟨rfl, hg1⟩; have HG1 := hid_intro hg1; clear hg1)
      | (go_at_call 10; refine (fits_any k a n cap _).mono ?_; rw [hfit]; rintro en w1 ⟨rfl, rfl⟩))
    go_ret
    exact ⟨rfl, HG1.out⟩
  | true =>
    simp only [Bool.and_eq_true, decide_eq_true_eq] at hfit
    obtain ⟨hk, hn4⟩ := hfit
    have hfit : (decide (k ≤ 20000) && decide (n ≤ 4000)) = true := by simp [hk, hn4]
    have HFT := hid_intro hfit
    clear hfit hk
    go_enter Try.func4, Try.ntmps4
    go_wp2_with fail
    refine (first17_any _).mono ?_
    rintro en w1 ⟨rfl, hg1⟩
    have HG1 := hid_intro hg1
    clear hg1
    go_wp2_with fail
    refine (fits_any k a n cap _).mono ?_
    rw [HFT.out]
    rintro en w1 ⟨rfl, rfl⟩
    go_wp2_with fail
    refine (begin_sx (w0 := w) c k a n cap fr _ (HL.out.keptN HG1.out) hn hn4 HG1.out.size).mono ?_
    rintro en w2 ⟨Qa, ba, rfl, hsa, hg2⟩
    have HSA := hid_intro hsa
    have HG2 := hid_intro hg2
    clear hsa hg2
    go_wp2_with fail
    refine (begin_sx (w0 := w) sc k none 0 0 [] _ (Nt.zero _ _) rfl (by omega) (Nat.le_trans HG1.out.size HG2.out.size)).mono ?_
    rintro en w3 ⟨Qc, bc, rfl, hsc, hg3⟩
    have HT := hid_intro (Two.begun HG1.out HSA.out HG2.out hsc hg3)
    clear hsc hg3 HSA HG2 HG1 HFT HL
    go_wp2
    go_loopw [11, 16, 17] (fun sb si _ wr => ∃ i : Nat, i ≤ min n4 1000 ∧ sb = .bool true ∧ si = .int .i64 i ∧ Two w wr Qa Qc ba bc i) (fun _ si _ _ => 1000 - (zOf si).toNat)
    case atStart => exact ⟨0, Nat.zero_le _, rfl, rfl, HT.out⟩
    case round =>
      obtain ⟨i, hi, rfl, rfl, ht⟩ := hrel
      clear HT
      have HT := hid_intro ht
      clear ht
      by_cases hlt : i < min n4 1000
      · have b1 : (i : Int) < (n4 : Int) := by omega
        have b2 : (i : Int) < 1000 := by omega
        have hget : ops[i]? = some (ops[i]'(by omega)) := List.getElem?_eq_getElem _
        obtain ⟨hom, b, off, rfl, d0, d1, d2, d3, d4⟩ := HO.out.ats i _ hget
        generalize (ops[i]'(by omega)) = o at *
        have HM := hid_intro hom
        clear hom hget
        have hgr := HT.out.gr
        replace d0 := hgr.cell d0 (by simp)
        replace d1 := hgr.cell d1 (by simp)
        replace d2 := hgr.cell d2 (by simp)
        replace d3 := hgr.cell d3 (by simp)
        replace d4 := hgr.cell d4 (by simp)
        clear hgr
        cases hs : o.sec with
        | false =>
          rw [hs] at d4
          obtain ⟨bo, e0, e1, e2⟩ := HT.out.ca
          cases ba with
          | true =>
            rw [e1 rfl] at e0
            clear e1 e2
            go_wp2
            go_roundw
            case rel => exact ⟨i + 1, by omega, rfl, by go_num, HT.out.more⟩
            case measure => simp [zOf]; omega
          | false =>
            obtain ⟨ad, rfl⟩ := e2 rfl
            have ST := hid_intro (HT.out.step o HM.out (by omega))
            clear e1 e2
            rw [hs] at ST
            go_wp2_with fail
            refine ST.out.mono ?_
            rintro e w6 ⟨rfl, hp6⟩
            have P6 := hid_intro hp6
            clear hp6
            go_wp2
            go_roundw
            case rel => exact ⟨i + 1, by omega, rfl, by go_num, P6.out⟩
            case measure => simp [zOf]; omega
        | true =>
          rw [hs] at d4
          obtain ⟨bo, e0, e1, e2⟩ := HT.out.swap.ca
          cases bc with
          | true =>
            rw [e1 rfl] at e0
            clear e1 e2
            go_wp2
            go_roundw
            case rel => exact ⟨i + 1, by omega, rfl, by go_num, HT.out.more⟩
            case measure => simp [zOf]; omega
          | false =>
            obtain ⟨ad, rfl⟩ := e2 rfl
            have ST := hid_intro (HT.out.swap.step o HM.out (by omega))
            clear e1 e2
            rw [hs] at ST
            go_wp2_with fail
            refine ST.out.mono ?_
            rintro e w6 ⟨rfl, hp6⟩
            have P6 := hid_intro hp6
            clear hp6
            go_wp2
            go_roundw
            case rel => exact ⟨i + 1, by omega, rfl, by go_num, P6.out.swap⟩
            case measure => simp [zOf]; omega
      · obtain ⟨bo, e0, e1, e2⟩ := HT.out.ca
        by_cases b1 : (i : Int) < (n4 : Int)
        · have b2 : ¬ (i : Int) < 1000 := by omega
          cases ba with
          | true =>
            rw [e1 rfl] at e0
            clear e1 e2
            have P6 := HT
            obtain ⟨bp, f0, f1, f2⟩ := P6.out.swap.ca
            cases bc with
            | true =>
              rw [f1 rfl] at f0
              clear f1 f2
              go_wp2
              go_ret
              exact ⟨rfl, P6.out.gr⟩
            | false =>
              obtain ⟨ad2, rfl⟩ := f2 rfl
              clear f1 f2
              go_wp2_with fail
              refine P6.out.swap.tells.mono ?_
              rintro e w7 ⟨rfl, hp7⟩
              have P7 := hid_intro hp7
              clear hp7
              go_wp2
              go_ret
              exact ⟨rfl, P7.out.gr⟩
          | false =>
            obtain ⟨ad, rfl⟩ := e2 rfl
            clear e1 e2
            go_wp2_with fail
            refine HT.out.tells.mono ?_
            rintro e w6 ⟨rfl, hp6⟩
            have P6 := hid_intro hp6
            clear hp6
            obtain ⟨bp, f0, f1, f2⟩ := P6.out.swap.ca
            cases bc with
            | true =>
              rw [f1 rfl] at f0
              clear f1 f2
              go_wp2
              go_ret
              exact ⟨rfl, P6.out.gr⟩
            | false =>
              obtain ⟨ad2, rfl⟩ := f2 rfl
              clear f1 f2
              go_wp2_with fail
              refine P6.out.swap.tells.mono ?_
              rintro e w7 ⟨rfl, hp7⟩
              have P7 := hid_intro hp7
              clear hp7
              go_wp2
              go_ret
              exact ⟨rfl, P7.out.gr⟩
        · cases ba with
          | true =>
            rw [e1 rfl] at e0
            clear e1 e2
            have P6 := HT
            obtain ⟨bp, f0, f1, f2⟩ := P6.out.swap.ca
            cases bc with
            | true =>
              rw [f1 rfl] at f0
              clear f1 f2
              go_wp2
              go_ret
              exact ⟨rfl, P6.out.gr⟩
            | false =>
              obtain ⟨ad2, rfl⟩ := f2 rfl
              clear f1 f2
              go_wp2_with fail
              refine P6.out.swap.tells.mono ?_
              rintro e w7 ⟨rfl, hp7⟩
              have P7 := hid_intro hp7
              clear hp7
              go_wp2
              go_ret
              exact ⟨rfl, P7.out.gr⟩
          | false =>
            obtain ⟨ad, rfl⟩ := e2 rfl
            clear e1 e2
            go_wp2_with fail
            refine HT.out.tells.mono ?_
            rintro e w6 ⟨rfl, hp6⟩
            have P6 := hid_intro hp6
            clear hp6
            obtain ⟨bp, f0, f1, f2⟩ := P6.out.swap.ca
            cases bc with
            | true =>
              rw [f1 rfl] at f0
              clear f1 f2
              go_wp2
              go_ret
              exact ⟨rfl, P6.out.gr⟩
            | false =>
              obtain ⟨ad2, rfl⟩ := f2 rfl
              clear f1 f2
              go_wp2_with fail
              refine P6.out.swap.tells.mono ?_
              rintro e w7 ⟨rfl, hp7⟩
              have P7 := hid_intro hp7
              clear hp7
              go_wp2
              go_ret
              exact ⟨rfl, P7.out.gr⟩
end Go.Proofs.Ytopgcnoijagoiaa
