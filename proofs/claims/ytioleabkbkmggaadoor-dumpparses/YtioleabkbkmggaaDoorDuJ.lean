import Derived.Test.YtioleabkbkmggaaDoorDuH
namespace Go.Proofs.YtioleabkbkmggaaDoor
open Go.RowKit

theorem Pm.two {w : World} {a : Option Addr} {l : List Pq} (h : Pm w a l) {i : Nat} {p : Pq} (hp : l[i]? = some p) : ∃ b off ao c bo d, a = some ⟨b, off, none⟩ ∧ w.cell? ⟨b, off + i * 2, none⟩ = some (.slice ao p.1.length c) ∧ w.cell? ⟨b, off + i * 2 + 1, none⟩ = some (.slice bo p.2.length d) := by
  obtain ⟨b, off, ao, c, bo, d, h1, h2, h3, _⟩ := h.el i p hp
  exact ⟨b, off, ao, c, bo, d, h1, h2, h3⟩
theorem mem_take_snoc {l : List Pq} {i : Nat} {p q : Pq} (hp : l[i]? = some p) (hq : q ∈ l.take (i + 1)) : q ∈ l.take i ∨ q = p := by
  obtain ⟨hi, e⟩ := List.getElem?_eq_some_iff.1 hp
  rw [List.take_succ_eq_append_getElem hi, e, List.mem_append] at hq
  simpa using hq
/-- What few answers. -/
def FewP (w : World) (n : Nat) (l : List Pq) (en : Ending) (w' : World) : Prop := ∃ f : Bool, en = .returned (.bool f) ∧ Qt w w' ∧ (f = true → n ≤ 2000 ∧ ∀ p ∈ l, p.1.length ≤ 1048576 ∧ p.2.length ≤ 1048576)
set_option maxHeartbeats 4000000 in
set_option maxRecDepth 100000 in
theorem few20 (a : Option Addr) (n c : Nat) (l : List Pq) (w : World) (h : Pm w a l) (hn : l.length = n) :
    Calls Tryd.prog 17 #[.slice a n c] w fun en w' => FewP w n l en w' := by
  have HP := hid_intro h
  have HL := hid_intro hn
  clear h hn
  by_cases hb : 2000 < n
  · have g1 : (2000 : Int) < (n : Int) := by omega
    go_enter Tryd.func17, Tryd.ntmps17
    go_wp2
    go_ret
    exact ⟨false, rfl, Qt.refl _, fun e => by cases e⟩
  · have g1 : ¬ (2000 : Int) < (n : Int) := by omega
    go_enter Tryd.func17, Tryd.ntmps17
    go_wp2
    go_loopw [3, 4] (fun sn si wr => ∃ (i s : Nat), i ≤ n ∧ si = .int .i64 (i : Nat) ∧ sn = .int .i64 (s : Nat) ∧ s ≤ i * 2097152 ∧ Qt w wr ∧ ∀ p ∈ l.take i, p.1.length ≤ 1048576 ∧ p.2.length ≤ 1048576) (fun _ si _ => n - (intOf si).toNat)
    case atStart => exact ⟨0, 0, Nat.zero_le _, rfl, rfl, Nat.zero_le _, Qt.refl _, fun p hp => by simp at hp⟩
    case round =>
      obtain ⟨i, s, hi, rfl, rfl, hs, hq, hsm⟩ := hrel
      have HQ := hid_intro hq
      have HSM := hid_intro hsm
      clear hq hsm
      by_cases hlt : i < n
      · obtain ⟨p, hp⟩ : ∃ p, l[i]? = some p := ⟨_, List.getElem?_eq_getElem (by have := HL.out; omega)⟩
        obtain ⟨b, off, ao, c1, bo, d1, rfl, q1, q2⟩ := HP.out.two hp
        have c0 := (HQ.out.cell _).trans q1
        have c2 := (HQ.out.cell _).trans q2
        have HMT : Hid (∀ q, q ∈ l.take (i + 1) → q ∈ l.take i ∨ q = p) := fun q hq => mem_take_snoc hp hq
        clear q1 q2 hp
        obtain ⟨n1, hn1⟩ : ∃ n1, p.1.length = n1 := ⟨_, rfl⟩
        obtain ⟨n2, hn2⟩ : ∃ n2, p.2.length = n2 := ⟨_, rfl⟩
        rw [hn1] at c0
        rw [hn2] at c2
        have H1 := hid_intro hn1
        have H2 := hid_intro hn2
        clear hn1 hn2
        have j0 : (0 : Int) ≤ (i : Int) := by omega
        have j1 : (i : Int) < (n : Int) := by omega
        by_cases h1 : 1048576 < n1
        · have k1 : (1048576 : Int) < (n1 : Int) := by omega
          go_wp2
          go_ret
          exact ⟨false, rfl, HQ.out, fun e => by cases e⟩
        · have k1 : ¬ (1048576 : Int) < (n1 : Int) := by omega
          by_cases h2 : 1048576 < n2
          · have k2 : (1048576 : Int) < (n2 : Int) := by omega
            go_wp2
            go_ret
            exact ⟨false, rfl, HQ.out, fun e => by cases e⟩
          · have k2 : ¬ (1048576 : Int) < (n2 : Int) := by omega
            have k3 : IntKind.i64.wrap ((s : Int) + (n1 : Int)) = (s : Int) + (n1 : Int) := wrap_small _ (by omega) (by omega)
            have k4 : IntKind.i64.wrap ((s : Int) + (n1 : Int) + (n2 : Int)) = (s : Int) + (n1 : Int) + (n2 : Int) := wrap_small _ (by omega) (by omega)
            go_wp2
            go_quiet (fail)
            go_wp2
            go_roundw
            case rel =>
              refine ⟨i + 1, s + n1 + n2, by omega, by go_num, by go_num, by omega, HQ.out.trans (Qt.drewN _ _), fun q hq => ?_⟩
              rcases HMT.out q hq with h | rfl
              · exact HSM.out q h
              · have := H1.out; have := H2.out; omega
            case measure => simp [intOf]; omega
      · obtain rfl : i = n := by omega
        have e : l.take i = l := by rw [← HL.out, List.take_length]
        rw [e] at HSM
        go_wp2
        go_ret
        exact ⟨_, rfl, HQ.out, fun _ => ⟨by omega, HSM.out⟩⟩
theorem jdg_zero_drop {l : List Pq} {i : Nat} {p : Pq} (hp : l[i]? = some p) (hj : jdg [] l = jdg (ahd l i) (l.drop i)) (hf : flt (ahd l i) p ≠ 0) : decide (jdg [] l = 0) = false := by
  rw [decide_eq_false]
  rw [jdg_take hp hj, if_neg hf]
  exact hf
theorem jdg_next {l : List Pq} {i : Nat} {p : Pq} (hp : l[i]? = some p) (hj : jdg [] l = jdg (ahd l i) (l.drop i)) (hf : flt (ahd l i) p = 0) : jdg [] l = jdg (ahd l (i + 1)) (l.drop (i + 1)) := by
  rw [jdg_take hp hj, if_pos hf]
set_option maxHeartbeats 8000000 in
set_option maxRecDepth 100000 in
theorem may20 (a : Option Addr) (n c : Nat) (l : List Pq) (w : World) (h : Pm w a l) (hn : l.length = n) (hm : n ≤ 100000000) :
    Calls Tryd.prog 25 #[.slice a n c] w fun en w' => en = .returned (.bool (decide (jdg [] l = 0))) ∧ Qt w w' := by
  have HP := hid_intro h
  have HL := hid_intro hn
  clear h hn
  go_enter Tryd.func25, Tryd.ntmps25
  go_wp2
  go_loopw [3] (fun si wr => ∃ i : Nat, i ≤ n ∧ si = .int .i64 (i : Nat) ∧ Qt w wr ∧ jdg [] l = jdg (ahd l i) (l.drop i)) (fun si _ => n - (intOf si).toNat)
  case atStart => exact ⟨0, Nat.zero_le _, rfl, Qt.refl _, rfl⟩
  case round =>
    obtain ⟨i, hi, rfl, hq, hj⟩ := hrel
    have HQ := hid_intro hq
    have HJ := hid_intro hj
    clear hq hj
    by_cases hlt : i < n
    · obtain ⟨p, hp⟩ : ∃ p, l[i]? = some p := ⟨_, List.getElem?_eq_getElem (by have := HL.out; omega)⟩
      have HZ := hid_intro (jdg_zero_drop hp HJ.out)
      have HN := hid_intro (jdg_next hp HJ.out)
      obtain ⟨b, off, ao, c1, bo, d1, rfl, q1, q2, q3, q4, q5, q6⟩ := HP.out.el i p hp
      obtain ⟨ky, vl⟩ := p
      simp only at q1 q2 q3 q4 q5 q6
      obtain ⟨n1, hn1⟩ : ∃ n1, ky.length = n1 := ⟨_, rfl⟩
      obtain ⟨n2, hn2⟩ : ∃ n2, vl.length = n2 := ⟨_, rfl⟩
      rw [hn1] at q1 q3
      rw [hn2] at q2 q5
      have HF : Hid (flt (ahd l i) (ky, vl) = if n1 < 1 ∨ 255 < n1 ∨ 262144 < n2 then 41 else if cmpZ ky (ahd l i) ≤ 0 then 30 else 0) := by show _ = _; unfold flt; simp only; rw [hn1, hn2]
      have c0 := (HQ.out.cell _).trans q1
      have c2 := (HQ.out.cell _).trans q2
      have g0 : (0 : Int) ≤ (i : Int) := by omega
      have g1 : (i : Int) < (n : Int) := by omega
      have H3 := hid_intro (q3.heap HQ.out.heap)
      have H4 := hid_intro q4
      have H1 := hid_intro hn1
      clear q1 q2 q3 q4 q5 q6 hp hn1 hn2
      by_cases h1 : n1 < 1
      · have k1 : (n1 : Int) < 1 := by omega
        have k1' : decide ((n1 : Int) < 1) = true := decide_eq_true k1
        have HR := hid_intro (HZ.out (by rw [HF.out, if_pos (.inl h1)]; decide))
        go_wp2
        go_quiet (fail)
        go_wp2
        go_ret
        exact ⟨by rw [HR.out]; rfl, HQ.out.trans (Qt.drewN _ _)⟩
      · have k1 : ¬ (n1 : Int) < 1 := by omega
        have k1' : decide ((n1 : Int) < 1) = false := decide_eq_false k1
        by_cases h2 : 255 < n1
        · have k2 : (255 : Int) < (n1 : Int) := by omega
          have k2' : decide ((255 : Int) < (n1 : Int)) = true := decide_eq_true k2
          have HR := hid_intro (HZ.out (by rw [HF.out, if_pos (.inr (.inl h2))]; decide))
          go_wp2
          go_quiet (fail)
          go_wp2
          go_ret
          exact ⟨by rw [HR.out]; rfl, HQ.out.trans (Qt.drewN _ _)⟩
        · have k2 : ¬ (255 : Int) < (n1 : Int) := by omega
          have k2' : decide ((255 : Int) < (n1 : Int)) = false := decide_eq_false k2
          by_cases h3 : 262144 < n2
          · have k3 : (262144 : Int) < (n2 : Int) := by omega
            have k3' : decide ((262144 : Int) < (n2 : Int)) = true := decide_eq_true k3
            have HR := hid_intro (HZ.out (by rw [HF.out, if_pos (.inr (.inr h3))]; decide))
            go_wp2
            go_quiet (fail)
            go_wp2
            go_ret
            exact ⟨by rw [HR.out]; rfl, HQ.out.trans (Qt.drewN _ _)⟩
          · have k3 : ¬ (262144 : Int) < (n2 : Int) := by omega
            have k3' : decide ((262144 : Int) < (n2 : Int)) = false := decide_eq_false k3
            rw [if_neg (by omega)] at HF
            by_cases hz : i = 0
            · have HJ2 := hid_intro (HN.out (by
                have hf := HF.out
                rw [hz] at hf ⊢
                have e0 : ahd l 0 = [] := rfl
                rw [e0] at hf ⊢
                rw [if_neg (cmp_gt_nil (by have := H1.out; omega))] at hf
                exact hf))
              have k4 : ¬ (0 : Int) < (i : Int) := by omega
              have k5 : ¬ 0 < i := by omega
              have k6 : decide (0 < (i : Int)) = false := decide_eq_false k4
              have k7 : decide (0 < i) = false := decide_eq_false k5
              clear hz
              go_wp2
              go_quiet (fail)
              go_wp2
              go_roundw
              case rel => exact ⟨i + 1, by omega, by go_num, HQ.out.trans (Qt.drewN _ _), HJ2.out⟩
              case measure => simp [intOf]; omega
            · obtain ⟨j, hj⟩ : ∃ j, i = j + 1 := ⟨i - 1, by omega⟩
              obtain ⟨p', hp'⟩ : ∃ p', l[j]? = some p' := ⟨_, List.getElem?_eq_getElem (by have := HL.out; omega)⟩
              obtain ⟨b', off', ao', c', bo', d', e1, r1, r2, r3, r4, r5, r6⟩ := HP.out.el j p' hp'
              simp only [Option.some.injEq, Addr.mk.injEq, and_true] at e1
              obtain ⟨rfl, rfl⟩ := e1
              obtain ⟨kk, vv⟩ := p'
              simp only at r1 r3 r4
              have ha : ahd l i = kk := by rw [hj]; simp [ahd, hp']
              rw [ha] at HF HZ HN
              obtain ⟨n3, hn3⟩ : ∃ n3, kk.length = n3 := ⟨_, rfl⟩
              rw [hn3] at r1 r3
              have c4 := (HQ.out.cell _).trans r1
              have r3' := r3.heap HQ.out.heap
              have HC : Hid (∀ W : World, W.heap = wr.heap → Calls Tryd.prog 38 #[.slice ao' n3 c', .slice ao n1 c1] W fun en w' => en = .returned (.bool (decide (cmpZ kk ky < 0))) ∧ w' = W) := fun W hW => lessD ao' ao n3 n1 c' c1 kk ky W (r3'.heap hW) (H3.out.heap hW) r4 H4.out
              have HAN := hid_intro (cmp_anti kk ky)
              have k4 : (0 : Int) < (i : Int) := by omega
              have k5 : 0 < i := by omega
              have k6 : decide (0 < (i : Int)) = true := decide_eq_true k4
              have k7 : decide (0 < i) = true := decide_eq_true k5
              have k8 : (i : Int) - 1 = (j : Int) := by omega
              have k9 : (j : Int) < (n : Int) := by omega
              have k10 : (0 : Int) ≤ (j : Int) := by omega
              have k11 : IntKind.i64.wrap (j : Int) = (j : Int) := wrap_small _ (by omega) (by omega)
              clear r1 r2 r3 r3' r4 r5 r6 hp' hn3 ha hj hz
              by_cases hc : cmpZ kk ky < 0
              · rw [decide_eq_true hc] at HC
                have HJ2 := hid_intro (HN.out (by rw [HF.out, if_neg (by have := HAN.out; omega)]))
                go_wp2
                go_quiet ((go_at_call 38; exact Calls.quiet_of_same (HC.out _ rfl)))
                go_wp2
                go_roundw
                case rel => exact ⟨i + 1, by omega, by go_num, HQ.out.trans (Qt.drewN _ _), HJ2.out⟩
                case measure => simp [intOf]; omega
              · rw [decide_eq_false hc] at HC
                have HR := hid_intro (HZ.out (by rw [HF.out, if_pos (by have := HAN.out; omega)]; decide))
                go_wp2
                go_quiet ((go_at_call 38; exact Calls.quiet_of_same (HC.out _ rfl)))
                go_wp2
                go_ret
                exact ⟨by rw [HR.out]; rfl, HQ.out.trans (Qt.drewN _ _)⟩
    · obtain rfl : i = n := by omega
      have HR : Hid (decide (jdg [] l = 0) = true) := decide_eq_true (by rw [HJ.out, ← HL.out, List.drop_length]; rfl)
      go_wp2
      go_ret
      exact ⟨by rw [HR.out]; rfl, HQ.out⟩
end Go.Proofs.YtioleabkbkmggaaDoor
