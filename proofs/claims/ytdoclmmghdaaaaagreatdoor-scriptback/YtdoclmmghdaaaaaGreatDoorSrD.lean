import Derived.Test.YtdoclmmghdaaaaaGreatDoorSrC
namespace Go.Proofs.YtdoclmmghdaaaaaGreatDoor
open Go.RowKit

/-- Steps in memory, read. -/
def OpsR (w : World) (ao : Option Addr) (l : List Opq) : Prop := ∀ i o, l[i]? = some o → ∃ g off ka kc va vc ha hc fa fc, ao = some ⟨g, off, none⟩ ∧ (∀ j u, ([.int .i64 o.k, .int .i64 o.a, .int .i64 o.b, .int .i64 o.c, .slice ka o.key.length kc, .slice va o.val.length vc, .slice ha o.hi.length hc, .slice fa o.f.length fc] : List Value)[j]? = some u → w.cell? ⟨g, off + i * 8 + j, none⟩ = some u) ∧ OpR w o ka kc va vc ha hc fa fc
theorem OpsR.keptN {w w' : World} {ao : Option Addr} {l : List Opq} (h : OpsR w ao l) (hg : w.grownBy w' none) : OpsR w' ao l := fun i o ho => by
  obtain ⟨g, off, ka, kc, va, vc, ha, hc, fa, fc, h1, h2, h3⟩ := h i o ho
  exact ⟨g, off, ka, kc, va, vc, ha, hc, fa, fc, h1, fun j u hj => cell_keptS (h2 j u hj) hg, h3.keptN hg⟩
def Fnw (l : List Opq) : Prop := ∀ o ∈ l, o.f.length ≤ 1000000000000
set_option maxHeartbeats 8000000 in
set_option maxRecDepth 100000 in
theorem judge_any (n : Int) (l : List Opq) (ao : Option Addr) (c : Nat) (w : World) (hL : Lv w) (hR : OpsR w ao l) (hf : Fnw l) (hm : l.length ≤ 140737488355328) : Calls Tryz.prog 24 #[.agg #[.int .i64 n, .slice ao l.length c]] w fun en w' => en = .returned (.int .i64 (jdg23 n l)) ∧ w.grownBy w' none := by
  have HL : Hid (Lv w) := hL
  have g1 := World.grownBy_alloc w (.cells #[.int .i64 n, .slice ao l.length c] 25) none
  have G1 := hid_intro g1
  have HR := hid_intro (hR.keptN g1)
  have HF := hid_intro hf
  have HN := hid_intro (fun W => isNumber_any n W)
  have HJ : Hid (jdg23 n l = if smn n = true then (if 2000 < l.length then 234 else jdA l) else 232) := rfl
  obtain ⟨m, hmn⟩ : ∃ m, l.length = m := ⟨_, rfl⟩
  have HMN := hid_intro hmn
  rw [hmn] at hm HJ ⊢
  rw [hmn] at G1 HR
  clear hL hR hf g1 hmn
  generalize jdg23 n l = J at *
  cases hs : smn n with
  | false =>
    rw [hs] at HN HJ
    go_enter Tryz.func24, Tryz.ntmps24
    go_wp2_with fail
    refine (HN.out _).mono ?_
    rintro en w2 ⟨rfl, rfl⟩
    go_wp2
    go_ret
    exact ⟨by rw [HJ.out]; rfl, G1.out⟩
  | true =>
    rw [hs] at HN
    by_cases h2 : 2000 < m
    · have e2 : (2000 : Int) < (m : Int) := by omega
      have HJ2 : Hid (J = 234) := by show _ = _; rw [HJ.out, if_pos hs, if_pos h2]
      go_enter Tryz.func24, Tryz.ntmps24
      go_wp2_with fail
      refine (HN.out _).mono ?_
      rintro en w2 ⟨rfl, rfl⟩
      go_wp2
      go_ret
      exact ⟨by rw [HJ2.out]; rfl, G1.out⟩
    · have e2 : ¬ (2000 : Int) < (m : Int) := by omega
      have e3 : (m : Int) ≤ 2000 := by omega
      have HJ2 : Hid (J = jdA l) := by show _ = _; rw [HJ.out, if_pos hs, if_neg h2]
      clear HJ h2 hm hs
      go_enter Tryz.func24, Tryz.ntmps24
      go_wp2_with fail
      refine (HN.out _).mono ?_
      rintro en w2 ⟨rfl, rfl⟩
      go_wp2
      generalize w.alloc (.cells #[.int .i64 n, .slice ao m c] 25) = w3 at *
      go_loopw [4, 5, 17] (fun _ _ s17 wr => ∃ i : Nat, i ≤ m ∧ s17 = .int .i64 (i : Nat) ∧ w.grownBy wr none ∧ OpsR wr ao l ∧ jdA l = jdA (l.drop i)) (fun _ _ s17 _ => m - (intOf s17).toNat)
      case atStart => exact ⟨0, Nat.zero_le _, rfl, G1.out, HR.out, rfl⟩
      case round =>
        obtain ⟨i, hi, rfl, hg, hr, hj⟩ := hrel
        have HG := hid_intro hg
        have HR2 := hid_intro hr
        have HJ3 := hid_intro hj
        clear hg hr hj G1 HR
        by_cases him : i < m
        · have e4 : (i : Int) < (m : Int) := by omega
          have e5 : (0 : Int) ≤ (i : Int) := by omega
          have hil : i < l.length := by rw [HMN.out]; exact him
          obtain ⟨o, ho⟩ : ∃ o, l[i]? = some o := ⟨_, List.getElem?_eq_getElem hil⟩
          obtain ⟨g, off, ka, kc, va, vc, ha, hc, fa, fc, ea, hcell, hopr⟩ := HR2.out i o ho
          have hjs : jdA (l.drop i) = if jdS o = 0 then jdA (l.drop (i + 1)) else jdS o := by
            rw [List.drop_eq_getElem_cons hil, (List.getElem?_eq_some_iff.1 ho).2]
            rfl
          have HJS := hid_intro hjs
          have hof := HF.out o (List.mem_of_getElem? ho)
          subst ea
          have y0 := hcell 0 _ rfl
          have y1 := hcell 1 _ rfl
          have y2 := hcell 2 _ rfl
          have y3 := hcell 3 _ rfl
          have y4 := hcell 4 _ rfl
          have y5 := hcell 5 _ rfl
          have y6 := hcell 6 _ rfl
          have y7 := hcell 7 _ rfl
          simp only [Nat.add_zero] at y0
          have ga := World.grownBy_alloc wr (.cells #[.int .i64 o.k, .int .i64 o.a, .int .i64 o.b, .int .i64 o.c, .slice ka o.key.length kc, .slice va o.val.length vc, .slice ha o.hi.length hc, .slice fa o.f.length fc] 49) none
          have G6 := hid_intro (grown_trans HG.out ga)
          have R6 := hid_intro (HR2.out.keptN ga)
          have HJT := hid_intro (judgeStep_any o ka kc va vc ha hc fa fc _ (HL.out.keptN G6.out) (hopr.keptN ga) hof)
          have hwr : IntKind.i64.wrap ((i : Int) + 1) = (i : Int) + 1 := wrap_small _ (by omega) (by omega)
          clear hjs ho hcell hopr hof hil
          generalize jdS o = js at *
          by_cases h0 : js = 0
          · subst h0
            have HJ6 : Hid (jdA l = jdA (l.drop (i + 1))) := by show _ = _; rw [HJ3.out, HJS.out, if_pos rfl]
            clear HJS HJ3 ga
            go_wp2_with fail
            refine HJT.out.mono ?_
            rintro en w7 ⟨rfl, hg7⟩
            have G7 := hid_intro (grown_trans G6.out hg7)
            have R7 := hid_intro (R6.out.keptN hg7)
            clear hg7
            go_wp2
            go_roundw
            case rel => exact ⟨i + 1, by omega, by go_num, G7.out, R7.out, HJ6.out⟩
            case measure => simp [intOf]; omega
          · have gj : (js == 0) = false := by rw [beq_eq_false_iff_ne]; exact h0
            have HJ6 : Hid (J = js) := by show _ = _; rw [HJ2.out, HJ3.out, HJS.out, if_neg h0]
            clear HJS HJ3 ga
            go_wp2_with fail
            refine HJT.out.mono ?_
            rintro en w7 ⟨rfl, hg7⟩
            have G7 := hid_intro (grown_trans G6.out hg7)
            clear hg7
            go_wp2
            go_ret
            exact ⟨by rw [HJ6.out]; rfl, G7.out⟩
        · obtain rfl : i = m := by omega
          have HJ6 : Hid (J = 0) := by show _ = _; rw [HJ2.out, HJ3.out, ← HMN.out, List.drop_length]; rfl
          go_wp2
          go_ret
          exact ⟨by rw [HJ6.out]; rfl, HG.out⟩

/-! The words of a step. -/
def fwd (p : Int × Int) : List UInt8 := if p.1 = 0 then [108] else if p.1 = 1 then [107] else 116 :: Lib.itoa p.2
def wlt (o : Opq) (c : UInt8) : List (List UInt8) := match nvl o c with
  | some n => [Lib.itoa n]
  | none => match bvl o c with
    | some b => [hx b]
    | none => []
def stw (o : Opq) : List (List UInt8) := wrd o.k :: ((fds o.k).flatMap (wlt o) ++ o.f.map fwd)
def lsz (o : Opq) : Nat := o.key.length + o.val.length + o.hi.length + o.f.length
def lnw (ws : List (List UInt8)) : List UInt8 := Lib.join ws [32] ++ [10]
set_option maxHeartbeats 1000000 in
set_option maxRecDepth 100000 in
theorem leastSize_any (o : Opq) (ka : Option Addr) (kc : Nat) (va : Option Addr) (vc : Nat) (ha : Option Addr) (hc : Nat) (fa : Option Addr) (fc : Nat) (w : World) (h : o.key.length + o.val.length + o.hi.length + o.f.length ≤ 140737488355328) : Calls Tryz.prog 28 #[.agg #[.int .i64 o.k, .int .i64 o.a, .int .i64 o.b, .int .i64 o.c, .slice ka o.key.length kc, .slice va o.val.length vc, .slice ha o.hi.length hc, .slice fa o.f.length fc]] w fun en w' => en = .returned (.int .i64 ((lsz o : Nat) : Int)) ∧ w.grownBy w' none := by
  have G1 := hid_intro (World.grownBy_alloc w (.cells #[.int .i64 o.k, .int .i64 o.a, .int .i64 o.b, .int .i64 o.c, .slice ka o.key.length kc, .slice va o.val.length vc, .slice ha o.hi.length hc, .slice fa o.f.length fc] 49) none)
  have HE : Hid (((lsz o : Nat) : Int) = (o.key.length : Int) + (o.val.length : Int) + (o.hi.length : Int) + (o.f.length : Int)) := by show _ = _; unfold lsz; omega
  have w1 : IntKind.i64.wrap ((o.key.length : Int) + (o.val.length : Int)) = (o.key.length : Int) + (o.val.length : Int) := wrap_small _ (by omega) (by omega)
  have w2 : IntKind.i64.wrap ((o.key.length : Int) + (o.val.length : Int) + (o.hi.length : Int)) = (o.key.length : Int) + (o.val.length : Int) + (o.hi.length : Int) := wrap_small _ (by omega) (by omega)
  have w3 : IntKind.i64.wrap ((o.key.length : Int) + (o.val.length : Int) + (o.hi.length : Int) + (o.f.length : Int)) = (o.key.length : Int) + (o.val.length : Int) + (o.hi.length : Int) + (o.f.length : Int) := wrap_small _ (by omega) (by omega)
  go_enter Tryz.func28, Tryz.ntmps28
  go_wp2
  go_ret
  exact ⟨by rw [HE.out]; rfl, G1.out⟩
theorem itoa_len (n : Int) (h0 : -9223372036854775808 ≤ n) (h1 : n ≤ 9223372036854775807) : (Lib.itoa n).length ≤ 20 := by
  unfold Lib.itoa
  split
  · have := dec_len 18 n.natAbs (by omega)
    simp; omega
  · have := dec_len 18 n.toNat (by omega)
    omega
set_option maxHeartbeats 1000000 in
set_option maxRecDepth 100000 in
theorem fateWord_any (a b : Int) (w : World) (hL : Tzd w) (h0 : -9223372036854775808 ≤ b) (h1 : b ≤ 9223372036854775807) : Calls Tryz.prog 52 #[.agg #[.int .i64 a, .int .i64 b]] w fun en w' => en = .returned (.string (tstr (fwd (a, b)))) ∧ w.grownBy w' none := by
  have g1 := World.grownBy_alloc w (.cells #[.int .i64 a, .int .i64 b] 51) none
  have G1 := hid_intro g1
  unfold fwd
  by_cases ha : a = 0
  · subst ha
    rw [if_pos rfl]
    go_enter Tryz.func52, Tryz.ntmps52
    go_wp2
    go_ret
    exact ⟨rfl, G1.out⟩
  · have ga : (a == 0) = false := by rw [beq_eq_false_iff_ne]; exact ha
    rw [if_neg ha]
    by_cases hb : a = 1
    · subst hb
      rw [if_pos rfl]
      go_enter Tryz.func52, Tryz.ntmps52
      go_wp2
      go_ret
      exact ⟨rfl, G1.out⟩
    · have gb : (a == 1) = false := by rw [beq_eq_false_iff_ne]; exact hb
      rw [if_neg hb]
      have HI := hid_intro (itoa_any b h0 h1 _ (hL.keptN g1))
      have hlz := itoa_len b h0 h1
      rw [← tstr_size] at hlz
      have HC : Hid ((⟨#[116]⟩ : ByteArray) ++ tstr (Lib.itoa b) = tstr (116 :: Lib.itoa b)) := tstr_app [116] (Lib.itoa b)
      generalize tstr (116 :: Lib.itoa b) = st at *
      generalize tstr (Lib.itoa b) = si at *
      have hc := HC.out
      have hl1 : ¬ 9223372036854775807 < 1 + si.size := by omega
      clear hL h0 h1 g1 HC
      go_enter Tryz.func52, Tryz.ntmps52
      go_wp2_with fail
      refine HI.out.mono ?_
      rintro en w2 ⟨rfl, hg2⟩
      have G2 := hid_intro (grown_trans G1.out hg2)
      clear hg2
      go_wp2
      go_ret
      exact ⟨rfl, G2.out⟩
end Go.Proofs.YtdoclmmghdaaaaaGreatDoor
