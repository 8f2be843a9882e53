import Derived.Test.YtcjgmiilfjjbcaaGreatDoorSg1
namespace Go.Proofs.YtcjgmiilfjjbcaaGreatDoor
open Go.RowKit

/-- A script that is small enough to be looked at. -/
structure FitP (l : List Opq) : Prop where
  len : l.length ≤ 3000
  el : ∀ o ∈ l, o.key.length ≤ 2097152 ∧ o.val.length ≤ 2097152 ∧ o.hi.length ≤ 2097152 ∧ o.f.length ≤ 1048576
set_option maxHeartbeats 8000000 in
set_option maxRecDepth 100000 in
theorem refOps23 (ao : Option Addr) (n cap : Nat) (l : List Opq) (w : World) (hR : OpsR w ao l) (hl : l.length = n) (hF : FitP l) :
    Calls Tryz.prog 9 #[.slice ao n cap] w fun en w' => ∃ a c xs, en = .returned (.slice a n c) ∧ w'.ownsRow w.heap.size 35 8 (.slice a n c) n xs ∧ OpL w' w.heap.size xs l ∧ w.grownBy w' none := by
  obtain ⟨ip, hip, hp0, hp1, hp2⟩ := info_parts info_aopS
  have HR := hid_intro hR
  have HL := hid_intro hl
  have hn : n ≤ 3000 := by have := hF.len; omega
  have HFE := hid_intro hF.el
  clear hR hl hF
  go_enter Tryz.func9, Tryz.ntmps9
  go_wp2_with (at_make; refine wpList_make_own _ rfl _ _ 22 rfl w.heap.size 35 ip (.agg #[.int .i64 0, .int .i64 0, .int .i64 0, .int .i64 0, .slice none 0 0, .slice none 0 0, .slice none 0 0, .slice none 0 0]) 8 Tryz.underlying22 hip hp0 hp1 _ _ _ n rfl rfl rfl ?b2 ?b3 (Nat.le_refl _) ?_)
  case b2 => rw [hp2]; omega
  case b3 => unfold maxLen; omega
  intro w0 hown0 hgrow0
  have O0 := hid_intro hown0
  have G0 := hid_intro hgrow0
  clear hown0 hgrow0
  go_wp2_with fail
  go_loopw [3, 4, 5] (fun sv si _ wr => ∃ (k : Nat) (xs : List Value), k ≤ n ∧ si = .int .i64 (k : Int) ∧ wr.ownsRow w.heap.size 35 8 sv k xs ∧ OpL wr w.heap.size xs (l.take k) ∧ w.grownBy wr none) (fun _ si _ _ => n - (intOf si).toNat)
  case atStart => exact ⟨0, [], Nat.zero_le _, rfl, O0.out, OpL.nil _ _, G0.out⟩
  case round =>
    obtain ⟨k, xs, hk, rfl, hown, hol, hg⟩ := hrel
    have HG := hid_intro hg
    have HO := hid_intro hown
    have HOL := hid_intro hol
    obtain ⟨ra, rc, hsv⟩ := own_shape20 hown
    subst hsv
    clear hg hown hol O0 G0
    by_cases hlt : k < n
    · have hlt' : (k : Int) < (n : Int) := by omega
      have hk0 : (0 : Int) ≤ (k : Int) := by omega
      have wk : IntKind.i64.wrap ((k : Int) + 1) = (k : Int) + 1 := wrap_small _ (by omega) (by omega)
      obtain ⟨o, ho⟩ : ∃ o, l[k]? = some o := ⟨_, List.getElem?_eq_getElem (by have := HL.out; omega)⟩
      obtain ⟨g, off, ka, kc, va, vc, ha, hc, fa, fc, eao, hcells, hop⟩ := (HR.out.keptN HG.out) k o ho
      subst eao
      have d0 : wr.cell? ⟨g, off + k * 8, none⟩ = some (.int .i64 o.k) := hcells 0 _ rfl
      have d1 : wr.cell? ⟨g, off + k * 8 + 1, none⟩ = some (.int .i64 o.a) := hcells 1 _ rfl
      have d2 : wr.cell? ⟨g, off + k * 8 + 2, none⟩ = some (.int .i64 o.b) := hcells 2 _ rfl
      have d3 : wr.cell? ⟨g, off + k * 8 + 3, none⟩ = some (.int .i64 o.c) := hcells 3 _ rfl
      have d4 : wr.cell? ⟨g, off + k * 8 + 4, none⟩ = some (.slice ka o.key.length kc) := hcells 4 _ rfl
      have d5 : wr.cell? ⟨g, off + k * 8 + 5, none⟩ = some (.slice va o.val.length vc) := hcells 5 _ rfl
      have d6 : wr.cell? ⟨g, off + k * 8 + 6, none⟩ = some (.slice ha o.hi.length hc) := hcells 6 _ rfl
      have d7 : wr.cell? ⟨g, off + k * 8 + 7, none⟩ = some (.slice fa o.f.length fc) := hcells 7 _ rfl
      obtain ⟨b1, b2, b3, b4⟩ := HFE.out o (List.mem_of_getElem? ho)
      have HCO := hid_intro (refOp23 o ka kc va vc ha hc fa fc wr hop b1 b2 b3 b4)
      have HTK : Hid (l.take (k + 1) = l.take k ++ [o]) := by show _ = _; rw [List.take_add_one, ho]; rfl
      clear hcells hop ho b1 b2 b3 b4
      go_wp2_with fail
      refine HCO.out.mono ?_
      rintro en w4 ⟨ka', kc', va', vc', ha', hc', fa', fc', rfl, hg4, hV⟩
      have ga := World.grownBy_alloc w4 (.cells #[.int .i64 o.k, .int .i64 o.a, .int .i64 o.b, .int .i64 o.c, .slice ka' o.key.length kc', .slice va' o.val.length vc', .slice ha' o.hi.length hc', .slice fa' o.f.length fc'] 35) none
      have g5 := grown_trans hg4 ga
      have G5 := hid_intro (grown_trans HG.out g5)
      have O5 := hid_intro (own_keptD HO.out g5)
      have L5 := hid_intro (HOL.out.keptN g5)
      have V5 := hid_intro ((hV.low (B' := w.heap.size) HG.out.size).keptN ga)
      have xb := heap_at0S w4 #[.int .i64 o.k, .int .i64 o.a, .int .i64 o.b, .int .i64 o.c, .slice ka' o.key.length kc', .slice va' o.val.length vc', .slice ha' o.hi.length hc', .slice fa' o.f.length fc'] 35
      have xb0 := cell_heapS (i := 0) xb rfl
      have xb1 := cell_heapS (i := 1) xb rfl
      have xb2 := cell_heapS (i := 2) xb rfl
      have xb3 := cell_heapS (i := 3) xb rfl
      have xb4 := cell_heapS (i := 4) xb rfl
      have xb5 := cell_heapS (i := 5) xb rfl
      have xb6 := cell_heapS (i := 6) xb rfl
      have xb7 := cell_heapS (i := 7) xb rfl
      clear hg4 ga g5 hV xb HCO d0 d1 d2 d3 d4 d5 d6 d7
      go_upto_region 6 with fail
      generalize w4.alloc (.cells #[.int .i64 o.k, .int .i64 o.a, .int .i64 o.b, .int .i64 o.c, .slice ka' o.key.length kc', .slice va' o.val.length vc', .slice ha' o.hi.length hc', .slice fa' o.f.length fc'] 35) = w5 at *
      have hs5 : w.heap.size ≤ w5.heap.size := G5.out.size
      have HAP := hid_intro (O5.out.alloc (.cells #[.int .i64 o.k, .int .i64 o.a, .int .i64 o.b, .int .i64 o.c, .slice ka' o.key.length kc', .slice va' o.val.length vc', .slice ha' o.hi.length hc', .slice fa' o.f.length fc'] 35))
      go_wp2_with (at_builtin; refine wpList_append_own _ rfl _ _ 22 rfl w.heap.size 35 ip (.agg #[.int .i64 0, .int .i64 0, .int .i64 0, .int .i64 0, .slice none 0 0, .slice none 0 0, .slice none 0 0, .slice none 0 0]) 8 128 Tryz.underlying22 hip hp0 hp1 hp2 rfl (by decide) _ _ _ rfl HAP.out ⟨w5.heap.size, 0, none⟩ 1 1 [.int .i64 o.k, .int .i64 o.a, .int .i64 o.b, .int .i64 o.c, .slice ka' o.key.length kc', .slice va' o.val.length vc', .slice ha' o.hi.length hc', .slice fa' o.f.length fc'] rfl rfl (by exact fun j u hj => cells_new w5 35 #[.int .i64 o.k, .int .i64 o.a, .int .i64 o.b, .int .i64 o.c, .slice ka' o.key.length kc', .slice va' o.val.length vc', .slice ha' o.hi.length hc', .slice fa' o.f.length fc'] j u hj) (by intro u hu; simp at hu; rcases hu with rfl | rfl | rfl | rfl | rfl | rfl | rfl | rfl <;> rfl) (by unfold maxLen; omega) (by omega) (by simp; omega) ?_)
      intro v8 w8 ho8 hg8 _
      have gb := World.grownBy_alloc w5 (.cells #[.int .i64 o.k, .int .i64 o.a, .int .i64 o.b, .int .i64 o.c, .slice ka' o.key.length kc', .slice va' o.val.length vc', .slice ha' o.hi.length hc', .slice fa' o.f.length fc'] 35) none
      have G8 := hid_intro (grown_app20 G5.out O5.out (Nat.le_refl _) hg8)
      have o6 := own_keptD O5.out gb
      have L8 := hid_intro (((L5.out.keptN gb).own o6 (by decide) (by decide) hg8).snoc ((V5.out.keptN gb).own o6 (by decide) (by decide) hg8))
      rw [← HTK.out] at L8
      have O8 := hid_intro ho8
      clear ho8 hg8 gb o6 HAP
      go_wp2
      go_roundw
      case rel => exact ⟨k + 1, _, by omega, by go_num, O8.out, L8.out, G8.out⟩
      case measure => simp [intOf]; omega
    · obtain rfl : k = n := by omega
      rw [List.take_of_length_le (by have := HL.out; omega)] at HOL
      go_wp2
      go_ret
      exact ⟨ra, rc, xs, rfl, HO.out, HOL.out, HG.out⟩
def FtqP (l : List Opq) (en : Ending) : Prop := ∃ b, en = .returned (.bool b) ∧ (b = true → FitP l)
set_option maxHeartbeats 8000000 in
set_option maxRecDepth 100000 in
theorem fits23 (x : Int) (ao : Option Addr) (n cap : Nat) (l : List Opq) (w : World) (hR : OpsR w ao l) (hl : l.length = n) :
    Calls Tryz.prog 5 #[.agg #[.int .i64 x, .slice ao n cap]] w fun en w' => FtqP l en ∧ w.grownBy w' none := by
  have HR := hid_intro hR
  have HL := hid_intro hl
  have g1 := World.grownBy_alloc w (.cells #[.int .i64 x, .slice ao n cap] 24) none
  have X1 := hid_intro (heap_at0S w #[.int .i64 x, .slice ao n cap] 24)
  have G1 := hid_intro g1
  clear hR hl g1
  by_cases h3 : 3000 < n
  · have t1 : (3000 : Int) < (n : Int) := by omega
    go_enter Tryz.func5, Tryz.ntmps5
    go_wp2
    go_ret
    exact ⟨⟨false, rfl, fun e => by cases e⟩, G1.out⟩
  · have t1 : ¬ (3000 : Int) < (n : Int) := by omega
    go_enter Tryz.func5, Tryz.ntmps5
    go_upto_region 1 with fail
    generalize w.alloc (.cells #[.int .i64 x, .slice ao n cap] 24) = w1 at *
    have c1 := cell_heapS (i := 1) X1.out rfl
    go_wp2
    go_loopw [3, 4, 5] (fun sn si _ wr => ∃ k m : Nat, k ≤ n ∧ si = .int .i64 (k : Nat) ∧ sn = .int .i64 (m : Nat) ∧ m ≤ k * 7340032 ∧ w1.grownBy wr none ∧ ∀ o ∈ l.take k, o.key.length ≤ 2097152 ∧ o.val.length ≤ 2097152 ∧ o.hi.length ≤ 2097152 ∧ o.f.length ≤ 1048576) (fun _ si _ _ => n - (intOf si).toNat)
    case atStart => exact ⟨0, 0, Nat.zero_le _, rfl, rfl, Nat.le_refl _, World.grownBy.refl _ _, fun o ho => by simp at ho⟩
    case round =>
      obtain ⟨k, m, hk, rfl, rfl, hm, hg, hall⟩ := hrel
      have HG := hid_intro hg
      have HA := hid_intro hall
      have d1 := cell_heapS (i := 1) (heap_keptS X1.out hg) rfl
      clear hg hall c1
      by_cases hlt : k < n
      · have hlt' : (k : Int) < (n : Int) := by omega
        have hk0 : (0 : Int) ≤ (k : Int) := by omega
        have wk : IntKind.i64.wrap ((k : Int) + 1) = (k : Int) + 1 := wrap_small _ (by omega) (by omega)
        obtain ⟨o, ho⟩ : ∃ o, l[k]? = some o := ⟨_, List.getElem?_eq_getElem (by have := HL.out; omega)⟩
        obtain ⟨g, off, ka, kc, va, vc, ha, hc, fa, fc, eao, hcells, hop⟩ := (HR.out.keptN (grown_trans G1.out HG.out)) k o ho
        subst eao
        have d0 : wr.cell? ⟨g, off + k * 8, none⟩ = some (.int .i64 o.k) := hcells 0 _ rfl
        have d1 : wr.cell? ⟨g, off + k * 8 + 1, none⟩ = some (.int .i64 o.a) := hcells 1 _ rfl
        have d2 : wr.cell? ⟨g, off + k * 8 + 2, none⟩ = some (.int .i64 o.b) := hcells 2 _ rfl
        have d3 : wr.cell? ⟨g, off + k * 8 + 3, none⟩ = some (.int .i64 o.c) := hcells 3 _ rfl
        have d4 : wr.cell? ⟨g, off + k * 8 + 4, none⟩ = some (.slice ka o.key.length kc) := hcells 4 _ rfl
        have d5 : wr.cell? ⟨g, off + k * 8 + 5, none⟩ = some (.slice va o.val.length vc) := hcells 5 _ rfl
        have d6 : wr.cell? ⟨g, off + k * 8 + 6, none⟩ = some (.slice ha o.hi.length hc) := hcells 6 _ rfl
        have d7 : wr.cell? ⟨g, off + k * 8 + 7, none⟩ = some (.slice fa o.f.length fc) := hcells 7 _ rfl
        have HTK : Hid (l.take (k + 1) = l.take k ++ [o]) := by show _ = _; rw [List.take_add_one, ho]; rfl
        have ga := World.grownBy_alloc wr (.cells #[.int .i64 o.k, .int .i64 o.a, .int .i64 o.b, .int .i64 o.c, .slice ka o.key.length kc, .slice va o.val.length vc, .slice ha o.hi.length hc, .slice fa o.f.length fc] 35) none
        have GA := hid_intro (grown_trans HG.out ga)
        have xb := heap_at0S wr #[.int .i64 o.k, .int .i64 o.a, .int .i64 o.b, .int .i64 o.c, .slice ka o.key.length kc, .slice va o.val.length vc, .slice ha o.hi.length hc, .slice fa o.f.length fc] 35
        obtain ⟨q1, hq1⟩ : ∃ q, o.key.length = q := ⟨_, rfl⟩
        obtain ⟨q2, hq2⟩ : ∃ q, o.val.length = q := ⟨_, rfl⟩
        obtain ⟨q3, hq3⟩ : ∃ q, o.hi.length = q := ⟨_, rfl⟩
        obtain ⟨q4, hq4⟩ : ∃ q, o.f.length = q := ⟨_, rfl⟩
        have HQ : Hid (o.key.length = q1 ∧ o.val.length = q2 ∧ o.hi.length = q3 ∧ o.f.length = q4) := ⟨hq1, hq2, hq3, hq4⟩
        rw [hq1] at d4 GA xb
        rw [hq2] at d5 GA xb
        rw [hq3] at d6 GA xb
        rw [hq4] at d7 GA xb
        have xb0 := cell_heapS (i := 0) xb rfl
        have xb1 := cell_heapS (i := 1) xb rfl
        have xb2 := cell_heapS (i := 2) xb rfl
        have xb3 := cell_heapS (i := 3) xb rfl
        have xb4 := cell_heapS (i := 4) xb rfl
        have xb5 := cell_heapS (i := 5) xb rfl
        have xb6 := cell_heapS (i := 6) xb rfl
        have xb7 := cell_heapS (i := 7) xb rfl
        clear hcells hop ho ga xb hq1 hq2 hq3 hq4
        by_cases a1 : 2097152 < q1
        · have b1 : (2097152 : Int) < (q1 : Int) := by omega
          go_wp2
          go_ret
          exact ⟨⟨false, rfl, fun e => by cases e⟩, grown_trans G1.out GA.out⟩
        have b1 : ¬ (2097152 : Int) < (q1 : Int) := by omega
        by_cases a2 : 2097152 < q2
        · have b2 : (2097152 : Int) < (q2 : Int) := by omega
          go_wp2
          go_ret
          exact ⟨⟨false, rfl, fun e => by cases e⟩, grown_trans G1.out GA.out⟩
        have b2 : ¬ (2097152 : Int) < (q2 : Int) := by omega
        by_cases a3 : 2097152 < q3
        · have b3 : (2097152 : Int) < (q3 : Int) := by omega
          go_wp2
          go_ret
          exact ⟨⟨false, rfl, fun e => by cases e⟩, grown_trans G1.out GA.out⟩
        have b3 : ¬ (2097152 : Int) < (q3 : Int) := by omega
        by_cases a4 : 1048576 < q4
        · have b4 : (1048576 : Int) < (q4 : Int) := by omega
          go_wp2
          go_ret
          exact ⟨⟨false, rfl, fun e => by cases e⟩, grown_trans G1.out GA.out⟩
        have b4 : ¬ (1048576 : Int) < (q4 : Int) := by omega
        have hmz : (m : Int) ≤ 30000000000 := by omega
        have w1' : IntKind.i64.wrap ((m : Int) + (q1 : Int)) = (m : Int) + (q1 : Int) := wrap_small _ (by omega) (by omega)
        have w2' : IntKind.i64.wrap ((m : Int) + (q1 : Int) + (q2 : Int)) = (m : Int) + (q1 : Int) + (q2 : Int) := wrap_small _ (by omega) (by omega)
        have w3' : IntKind.i64.wrap ((m : Int) + (q1 : Int) + (q2 : Int) + (q3 : Int)) = (m : Int) + (q1 : Int) + (q2 : Int) + (q3 : Int) := wrap_small _ (by omega) (by omega)
        have w4' : IntKind.i64.wrap ((m : Int) + (q1 : Int) + (q2 : Int) + (q3 : Int) + (q4 : Int)) = (m : Int) + (q1 : Int) + (q2 : Int) + (q3 : Int) + (q4 : Int) := wrap_small _ (by omega) (by omega)
        have HA2 : Hid (∀ o ∈ l.take (k + 1), o.key.length ≤ 2097152 ∧ o.val.length ≤ 2097152 ∧ o.hi.length ≤ 2097152 ∧ o.f.length ≤ 1048576) := by
          intro p hp
          rw [HTK.out] at hp
          rcases List.mem_append.1 hp with hp | hp
          · exact HA.out p hp
          · simp only [List.mem_cons, List.not_mem_nil, or_false] at hp
            subst hp
            obtain ⟨h1, h2, h3', h4⟩ := HQ.out
            exact ⟨by omega, by omega, by omega, by omega⟩
        have hm2 : m + q1 + q2 + q3 + q4 ≤ (k + 1) * 7340032 := by omega
        have HM2 := hid_intro hm2
        clear a1 a2 a3 a4 hm2
        go_wp2
        go_roundw
        case rel => exact ⟨k + 1, m + q1 + q2 + q3 + q4, by omega, by go_num, by go_num, HM2.out, GA.out, HA2.out⟩
        case measure => simp [intOf]; omega
      · obtain rfl : k = n := by omega
        have HF : Hid (FitP l) := by
          have h := HA.out
          rw [List.take_of_length_le (by have := HL.out; omega)] at h
          exact ⟨by have := HL.out; omega, h⟩
        go_wp2
        go_ret
        exact ⟨⟨_, rfl, fun _ => HF.out⟩, grown_trans G1.out HG.out⟩
end Go.Proofs.YtcjgmiilfjjbcaaGreatDoor
