import Derived.Test.YtcjgmiilfjjbcaaGreatDoorSrH
namespace Go.Proofs.YtcjgmiilfjjbcaaGreatDoor
open Go.RowKit

theorem ftr_own {w : World} {B n c : Nat} {a : Option Addr} {l : List (Int × Int)} (h : w.ownsRow B 43 2 (.slice a n c) n (fcl l)) : FtR w a l := by
  intro i p hp
  rcases h.2 with ⟨e1, e2⟩ | ⟨g, cap, cur, e1, _, e3, _, _, _, e7⟩
  · have hl := h.1
    have hfl : (fcl l).length = l.length * 2 := by
      clear h hp e1 e2 hl
      induction l with
      | nil => rfl
      | cons x l ih => unfold fcl at *; rw [List.flatMap_cons, List.length_append, ih]; simp; omega
    have := (List.getElem?_eq_some_iff.1 hp).1
    omega
  · simp only [Value.slice.injEq] at e1
    obtain ⟨rfl, _, rfl⟩ := e1
    have hc : ∀ (l : List (Int × Int)) (i : Nat) (p : Int × Int), l[i]? = some p → (fcl l)[i * 2]? = some (.int .i64 p.1) ∧ (fcl l)[i * 2 + 1]? = some (.int .i64 p.2) := by
      intro l
      induction l with
      | nil => intro i p h; simp at h
      | cons x l ih =>
        intro i p h
        cases i with
        | zero => simp at h; subst h; exact ⟨rfl, rfl⟩
        | succ i =>
          obtain ⟨h1, h2⟩ := ih i p (by simpa using h)
          unfold fcl at *
          rw [List.flatMap_cons]
          refine ⟨?_, ?_⟩
          · rw [show (i + 1) * 2 = i * 2 + 2 by omega]; exact h1
          · rw [show (i + 1) * 2 + 1 = i * 2 + 1 + 2 by omega]; exact h2
    obtain ⟨h1, h2⟩ := hc l i p hp
    have hk : ∀ j u, (fcl l)[j]? = some u → w.cell? ⟨g, j, none⟩ = some u := by
      intro j u hu
      rw [cell_of_row w g j cur _ _ e3, ← Array.getElem?_toList]
      rw [← e7, List.getElem?_take] at hu
      split at hu
      · exact hu
      · cases hu
    exact ⟨g, 0, rfl, by rw [Nat.zero_add]; exact hk _ _ h1, by rw [Nat.zero_add]; exact hk _ _ h2⟩
theorem OpV.opr {w : World} {B : Nat} {o : Opq} {kv vv hv fv : Value} (h : OpV w B o kv vv hv fv) : ∃ ka kc va vc ha hc fa fc, kv = .slice ka o.key.length kc ∧ vv = .slice va o.val.length vc ∧ hv = .slice ha o.hi.length hc ∧ fv = .slice fa o.f.length fc ∧ OpR w o ka kc va vc ha hc fa fc := by
  obtain ⟨ka, kc, rfl⟩ := own_shape20 h.key
  obtain ⟨va, vc, rfl⟩ := own_shape20 h.val
  obtain ⟨ha, hc, rfl⟩ := own_shape20 h.hi
  obtain ⟨fa, fc, rfl⟩ := own_shape20 h.f
  exact ⟨ka, kc, va, vc, ha, hc, fa, fc, rfl, rfl, rfl, rfl, byt_of_ownD h.key, byt_of_ownD h.val, byt_of_ownD h.hi, ftr_own h.f, h.bk, h.bv, h.bh⟩
/-- What Parse made can be read. -/
theorem OpL.opsR {w : World} {B c : Nat} {a : Option Addr} {xs : List Value} {l : List Opq} (h : OpL w B xs l) (ho : w.ownsRow B 35 8 (.slice a l.length c) l.length xs) : OpsR w a l := by
  intro i o hi
  obtain ⟨kv, vv, hv, fv, h1, h2⟩ := h.el i o hi
  obtain ⟨ka, kc, va, vc, ha, hc, fa, fc, rfl, rfl, rfl, rfl, hr⟩ := h2.opr
  have hil := (List.getElem?_eq_some_iff.1 hi).1
  rcases ho.2 with ⟨e1, e2⟩ | ⟨g, cap, cur, e1, _, e3, _, _, _, e7⟩
  · omega
  · simp only [Value.slice.injEq] at e1
    obtain ⟨rfl, _, rfl⟩ := e1
    refine ⟨g, 0, ka, kc, va, vc, ha, hc, fa, fc, rfl, fun j u hj => ?_, hr⟩
    have hu := h1 j u hj
    rw [Nat.zero_add, cell_of_row w g _ cur _ _ e3, ← Array.getElem?_toList]
    rw [← e7, List.getElem?_take] at hu
    split at hu
    · exact hu
    · cases hu
set_option maxHeartbeats 8000000 in
set_option maxRecDepth 100000 in
theorem sameOps_any (a b : Option Addr) (c d : Nat) (l k : List Opq) (w : World) (ha : OpsR w a l) (hb : OpsR w b k) (hf : Fnw l) (hl : l.length ≤ 140737488355328) :
    Calls Tryz.prog 34 #[.slice a l.length c, .slice b k.length d] w fun en w' => ∃ b, en = .returned (.bool b) ∧ (b = true ↔ l = k) ∧ w.grownBy w' none := by
  have HA := hid_intro ha
  have HB := hid_intro hb
  have HF := hid_intro hf
  obtain ⟨n, hn⟩ : ∃ n, l.length = n := ⟨_, rfl⟩
  obtain ⟨m, hm⟩ : ∃ m, k.length = m := ⟨_, rfl⟩
  rw [hn] at hl ⊢
  rw [hm]
  have HN := hid_intro hn
  have HM := hid_intro hm
  clear ha hb hn hm hf
  by_cases hnm : n = m
  · subst hnm
    go_enter Tryz.func34, Tryz.ntmps34
    go_wp2
    go_loopw [5, 6] (fun s5 _ wr => ∃ i : Nat, i ≤ n ∧ s5 = .int .i64 (i : Nat) ∧ w.grownBy wr none ∧ l.take i = k.take i) (fun s5 _ _ => n - (intOf s5).toNat)
    case atStart => exact ⟨0, Nat.zero_le _, rfl, World.grownBy.refl _ _, rfl⟩
    case round =>
      obtain ⟨i, hi, rfl, hg, ht⟩ := hrel
      have HG := hid_intro hg
      have HT := hid_intro ht
      clear hg ht
      by_cases him : i < n
      · have e1 : (i : Int) < (n : Int) := by omega
        have e2 : (0 : Int) ≤ (i : Int) := by omega
        obtain ⟨o, hp⟩ : ∃ p, l[i]? = some p := ⟨_, List.getElem?_eq_getElem (by rw [HN.out]; exact him)⟩
        obtain ⟨q, hq⟩ : ∃ q, k[i]? = some q := ⟨_, List.getElem?_eq_getElem (by rw [HM.out]; exact him)⟩
        obtain ⟨ga, oa, ka, kc, va, vc, ha, hc, fa, fc, ea, hca, ra⟩ := (HA.out.keptN HG.out) i o hp
        obtain ⟨gb, ob, kb, kd, vb, vd, hb, hd, fb, fd, eb, hcb, rb⟩ := (HB.out.keptN HG.out) i q hq
        have HTS := hid_intro (takeS_snoc hp hq HT.out)
        have hpq : o ≠ q → l ≠ k := fun hne e => hne (by rw [e, hq] at hp; exact (Option.some.inj hp).symm)
        have HPQ := hid_intro hpq
        have hof := HF.out o (List.mem_of_getElem? hp)
        subst ea eb
        have HSO : Hid (∀ W : World, W.heap = wr.heap → wr.grownBy W none → Calls Tryz.prog 46 #[.agg #[.int .i64 o.k, .int .i64 o.a, .int .i64 o.b, .int .i64 o.c, .slice ka o.key.length kc, .slice va o.val.length vc, .slice ha o.hi.length hc, .slice fa o.f.length fc], .agg #[.int .i64 q.k, .int .i64 q.a, .int .i64 q.b, .int .i64 q.c, .slice kb q.key.length kd, .slice vb q.val.length vd, .slice hb q.hi.length hd, .slice fb q.f.length fd]] W fun en w' => ∃ b, en = .returned (.bool b) ∧ (b = true ↔ o = q) ∧ W.grownBy w' none) := fun W _ hW => sameOp_any o ka kc va vc ha hc fa fc q kb kd vb vd hb hd fb fd W (ra.keptN hW) (rb.keptN hW) (by omega)
        have p0 := hca 0 _ rfl
        have p1 := hca 1 _ rfl
        have p2 := hca 2 _ rfl
        have p3 := hca 3 _ rfl
        have p4 := hca 4 _ rfl
        have p5 := hca 5 _ rfl
        have p6 := hca 6 _ rfl
        have p7 := hca 7 _ rfl
        have r0 := hcb 0 _ rfl
        have r1 := hcb 1 _ rfl
        have r2 := hcb 2 _ rfl
        have r3 := hcb 3 _ rfl
        have r4 := hcb 4 _ rfl
        have r5 := hcb 5 _ rfl
        have r6 := hcb 6 _ rfl
        have r7 := hcb 7 _ rfl
        simp only [Nat.add_zero] at p0 r0
        have hwr : IntKind.i64.wrap ((i : Int) + 1) = (i : Int) + 1 := wrap_small _ (by omega) (by omega)
        clear hp hq hpq hca hcb ra rb hof
        go_upto_region 6 with fail
        go_region_with ((go_at_call 46; refine (HSO.out wr.drew rfl (grown_drewS wr)).mono ?_; rintro en w3 ⟨b, rfl, hb3, hg3⟩; have G3 := hid_intro (grown_trans HG.out (grown_trans (grown_drewS wr) hg3)); have H3 := hid_intro hb3; clear hg3 hb3))
        all_goals
          cases b with
          | false =>
            have HNE : Hid (l ≠ k) := HPQ.out (fun e => by have := H3.out.2 e; cases this)
            go_wp2
            go_ret
            exact ⟨false, rfl, by simp [HNE.out], G3.out⟩
          | true =>
            go_wp2
            go_roundw
            case rel => exact ⟨i + 1, by omega, by go_num, G3.out, HTS.out.2 (H3.out.1 rfl)⟩
            case measure => simp [intOf]; omega
      · obtain rfl : i = n := by omega
        have HE : Hid (l = k) := by
          have := HT.out
          rwa [List.take_of_length_le (by rw [HN.out]; exact Nat.le_refl _), List.take_of_length_le (by rw [HM.out]; exact Nat.le_refl _)] at this
        go_wp2
        go_ret
        exact ⟨true, rfl, by simp [HE.out], HG.out⟩
  · have g0 : ((n : Int) == (m : Int)) = false := by rw [beq_eq_false_iff_ne]; omega
    have HNE : Hid (l ≠ k) := fun e => hnm (by rw [← HN.out, ← HM.out, e])
    clear hnm
    go_enter Tryz.func34, Tryz.ntmps34
    go_wp2
    go_ret
    exact ⟨false, rfl, by simp [HNE.out], World.grownBy.refl _ _⟩
set_option maxHeartbeats 2000000 in
set_option maxRecDepth 100000 in
theorem sameScript_any (x y : Int) (a b : Option Addr) (c d : Nat) (l k : List Opq) (w : World) (ha : OpsR w a l) (hb : OpsR w b k) (hf : Fnw l) (hl : l.length ≤ 140737488355328) :
    Calls Tryz.prog 13 #[.agg #[.int .i64 x, .slice a l.length c], .agg #[.int .i64 y, .slice b k.length d]] w fun en w' => ∃ b, en = .returned (.bool b) ∧ (b = true ↔ (x = y ∧ l = k)) ∧ w.grownBy w' none := by
  have g1 := World.grownBy_alloc w (.cells #[.int .i64 x, .slice a l.length c] 24) none
  have g2 := World.grownBy_alloc (w.alloc (.cells #[.int .i64 x, .slice a l.length c] 24)) (.cells #[.int .i64 y, .slice b k.length d] 24) none
  have g3 := grown_trans g1 g2
  have x1 := heap_keptS (heap_at0S w #[.int .i64 x, .slice a l.length c] 24) g2
  have x2 := heap_at0S (w.alloc (.cells #[.int .i64 x, .slice a l.length c] 24)) #[.int .i64 y, .slice b k.length d] 24
  rw [show (w.alloc (.cells #[.int .i64 x, .slice a l.length c] 24)).heap.size = w.heap.size + 1 by simp] at x2
  have HS := hid_intro (sameOps_any a b c d l k _ (ha.keptN g3) (hb.keptN g3) hf hl)
  have G3 := hid_intro g3
  have X1 := hid_intro x1
  have X2 := hid_intro x2
  have c1 := cell_heapS (i := 1) x1 rfl
  have c2 := cell_heapS (i := 1) x2 rfl
  clear ha hb hf hl g1 g2 g3 x1 x2
  go_enter Tryz.func13, Tryz.ntmps13
  go_wp2_with fail
  refine HS.out.mono ?_
  rintro en w4 ⟨b, rfl, hb4, hg4⟩
  have e1 := cell_heapS (i := 0) (heap_keptS X1.out hg4) rfl
  have e2 := cell_heapS (i := 0) (heap_keptS X2.out hg4) rfl
  have G4 := hid_intro (grown_trans G3.out hg4)
  have H4 := hid_intro hb4
  clear hg4 hb4
  cases b with
  | false =>
    go_wp2
    go_ret
    exact ⟨false, rfl, ⟨fun h => by (cases h), fun h => H4.out.2 h.2⟩, G4.out⟩
  | true =>
    have hlk : l = k := H4.out.1 rfl
    go_wp2
    go_ret
    exact ⟨x == y, rfl, by simp [hlk], G4.out⟩
end Go.Proofs.YtcjgmiilfjjbcaaGreatDoor
