import Derived.Test.YthodgddoolbenaaGreatDoorQ18
import Derived.Lib.ConvBytes
import Derived.KernelRfl
namespace Go.Proofs.YthodgddoolbenaaGreatDoor
open Go.RowKit
def Tzd (w : World) : Prop := Lib.TabIs Tryz.prog w "internal/strconv.uint64pow10" .u64 Lib.pow10Tab
theorem tzd_named : Tryz.prog.globalNamed "internal/strconv.uint64pow10" = some 1 := by kernel_rfl
theorem Tzd.lt {w : World} (h : Tzd w) : 1 < w.heap.size := by
 unfold Tzd Lib.TabIs World.var? at h
 rw [tzd_named] at h
 simp only [Option.bind_some] at h
 rcases Nat.lt_or_ge 1 w.heap.size with h' | h'
 ·exact h'
 ·simp [Array.getElem?_eq_none h'] at h
theorem Tzd.keptN {w w' : World} (h : Tzd w) (hg : w.grownBy w' none) : Tzd w' := by
 have hb := hg.block 1 h.lt (by simp)
 unfold Tzd Lib.TabIs World.var? at h ⊢
 rw [tzd_named] at h ⊢
 simp only [Option.bind_some] at h ⊢
 rw [hb]
 exact h
theorem sort_grownD (w : World) (k : Nat) (os : Array Obj) : w.grownBy (Sort.grow (w.drewN k) os) none := by
 have hq := (Qt.drewN w k)
 refine ⟨hq.os, hq.tape, hq.output, ?_, fun i hi _ => ?_⟩
 ·have := congrArg Array.size hq.heap; simp [Sort.grow]
 ·show ((w.drewN k).heap ++ os)[i]? = _
  rw [hq.heap, Array.getElem?_append_left hi]
structure Pm (w : World) (a : Option Addr) (l : List Pq) : Prop where
 el : ∀ i p, l[i]? = some p → ∃ b off ao c bo d, a = some ⟨b, off, none⟩ ∧ w.cell? ⟨b, off + i * 2, none⟩ = some (.slice ao p.1.length c) ∧ w.cell? ⟨b, off + i * 2 + 1, none⟩ = some (.slice bo p.2.length d) ∧ Byt w ao p.1.length c p.1 ∧ Bt p.1 ∧ Byt w bo p.2.length d p.2 ∧ Bt p.2
theorem Pm.keptN {w w' : World} {a : Option Addr} {l : List Pq} (h : Pm w a l) (hg : w.grownBy w' none) : Pm w' a l :=
 ⟨fun i p hp => by
  obtain ⟨b, off, ao, c, bo, d, h1, h2, h3, h4, h5, h6, h7⟩ := h.el i p hp
  exact ⟨b, off, ao, c, bo, d, h1, hg.cell h2 (by simp), hg.cell h3 (by simp), h4.keptN hg, h5, h6.keptN hg, h7⟩⟩
theorem Pm.nil (w : World) (a : Option Addr) : Pm w a [] := ⟨fun i p h => by simp at h⟩
theorem Pm.bt {w : World} {a : Option Addr} {l : List Pq} (h : Pm w a l) : BtP l := fun p hp => by
 obtain ⟨i, hi, e⟩ := List.mem_iff_getElem.1 hp
 obtain ⟨b, off, ao, c, bo, d, h1, h2, h3, h4, h5, h6, h7⟩ := h.el i p (by rw [List.getElem?_eq_getElem hi, e])
 exact ⟨h5, h7⟩
set_option maxHeartbeats 400000 in
set_option maxRecDepth 100000 in
theorem validD (ao : Option Addr) (n c : Nat) (w : World) : Calls Tryz.prog 99 #[.slice ao n c] w fun en w' => en = .returned (.bool (decide (1 ≤ n ∧ n ≤ 255))) ∧ w' = w := by
 by_cases h1 : 1 ≤ n
 ·by_cases h2 : n ≤ 255
  ·rw [decide_eq_true ⟨h1, h2⟩]
   have g1 : (1 : Int) ≤ (n : Int) := by omega
   have g2 : (n : Int) ≤ 255 := by omega
   go_enter Tryz.func99, Tryz.ntmps99
   go_wp2
   go_ret
   exact ⟨rfl, rfl⟩
  ·rw [decide_eq_false (fun e => h2 e.2)]
   have g1 : (1 : Int) ≤ (n : Int) := by omega
   have g2 : ¬ (n : Int) ≤ 255 := by omega
   go_enter Tryz.func99, Tryz.ntmps99
   go_wp2
   go_ret
   exact ⟨rfl, rfl⟩
 ·rw [decide_eq_false (fun e => h1 e.1)]
  have g1 : ¬ (1 : Int) ≤ (n : Int) := by omega
  go_enter Tryz.func99, Tryz.ntmps99
  go_wp2
  go_ret
  exact ⟨rfl, rfl⟩
set_option maxHeartbeats 400000 in
set_option maxRecDepth 100000 in
theorem behind_any (ao bo : Option Addr) (n m c d : Nat) (za zb : List Int) (w : World) (ha : Byt w ao n c za) (hb : Byt w bo m d zb) (ba : Bt za) (bb : Bt zb) :
  Calls Tryz.prog 40 #[.slice ao n c, .slice bo m d] w fun en w' => en = .returned (.bool (decide (0 < cmpZ za zb))) ∧ w' = w := by
 have HC := hid_intro (compare_any ao bo n m c d za zb w ha hb ba bb)
 clear ha hb
 go_enter Tryz.func40, Tryz.ntmps40
 go_wp2_with fail
 refine HC.out.mono ?_
 rintro en w' ⟨rfl, rfl⟩
 go_wp2
 go_ret
 exact ⟨rfl, rfl⟩
theorem less_numsD : ∀ {a b : List Int}, Bt a → Bt b → Op.bytesLess (a.map fun n => UInt8.ofNat n.toNat) (b.map fun n => UInt8.ofNat n.toNat) = decide (cmpZ a b < 0)
 | [], [], _, _ => by simp [Op.bytesLess, cmpZ]
 | _ :: _, [], _, _ => by simp [Op.bytesLess, cmpZ]
 | [], _ :: _, _, _ => by simp [Op.bytesLess, cmpZ]
 | a :: xs, b :: ys, ha, hb => by
  have h1 := ha a (List.mem_cons_self ..)
  have h2 := hb b (List.mem_cons_self ..)
  have ih := less_numsD (a := xs) (b := ys) (fun z hz => ha z (List.mem_cons_of_mem _ hz)) (fun z hz => hb z (List.mem_cons_of_mem _ hz))
  have e1 : (UInt8.ofNat a.toNat < UInt8.ofNat b.toNat) ↔ a < b := by
   rw [UInt8.lt_iff_toNat_lt]; simp; omega
  have e2 : (UInt8.ofNat a.toNat = UInt8.ofNat b.toNat) ↔ a = b := by
   rw [← UInt8.toNat_inj]; simp; omega
  rw [List.map_cons, List.map_cons, Op.bytesLess, ih, cmp_cons]
  by_cases h3 : a < b
  ·simp [e1, h3]
  ·by_cases h4 : b < a
   ·have h5 : ¬ a = b := by omega
    simp [e1, e2, h3, h4, h5]
   ·have h5 : a = b := by omega
    subst h5
    simp
set_option maxHeartbeats 400000 in
set_option maxRecDepth 100000 in
theorem lessD (ao bo : Option Addr) (n m c d : Nat) (za zb : List Int) (w : World) (ha : Byt w ao n c za) (hb : Byt w bo m d zb) (ba : Bt za) (bb : Bt zb) :
  Calls Tryz.prog 34 #[.slice ao n c, .slice bo m d] w fun en w' => en = .returned (.bool (decide (cmpZ za zb < 0))) ∧ w' = w := by
 have h1 := conv_str ha
 have h2 := conv_str hb
 have HE : Hid (Op.bytesLess (strOfNums za).toList (strOfNums zb).toList = decide (cmpZ za zb < 0)) := by
  show _ = _
  rw [ByteArray.toList_eq, ByteArray.toList_eq, strOfNums_data, strOfNums_data]
  exact less_numsD ba bb
 clear ha hb
 go_enter Tryz.func34, Tryz.ntmps34
 go_wp2
 go_ret
 exact ⟨by rw [← HE.out]; rfl, rfl⟩
theorem jdg_drop {l : List Pq} {i : Nat} {p : Pq} (a : List Int) (h : l[i]? = some p) : jdg a (l.drop i) = if flt a p = 0 then jdg p.1 (l.drop (i + 1)) else flt a p := by
 obtain ⟨hi, e⟩ := List.getElem?_eq_some_iff.1 h
 rw [List.drop_eq_getElem_cons hi, e]; rfl
set_option maxHeartbeats 4000000 in
set_option maxRecDepth 100000 in
theorem judge_any (a : Option Addr) (n c : Nat) (l : List Pq) (w : World) (h : Pm w a l) (hn : l.length = n) (hm : n ≤ 100000000) :
  Calls Tryz.prog 30 #[.slice a n c] w fun en w' => en = .returned (.int .i64 (jdg [] l)) ∧ w.grownBy w' none := by
 have HP := hid_intro h
 have HL := hid_intro hn
 clear h hn
 go_enter Tryz.func30, Tryz.ntmps30
 go_wp2
 go_loopw [3, 5, 8] (fun sa _ si wr => ∃ (i k kc : Nat) (ka : Option Addr) (za : List Int), i ≤ n ∧ si = .int .i64 (i : Nat) ∧ sa = .slice ka k kc ∧ Byt wr ka k kc za ∧ Bt za ∧ w.grownBy wr none ∧ jdg [] l = jdg za (l.drop i)) (fun _ _ si _ => n - (intOf si).toNat)
 case atStart => exact ⟨0, 0, 0, none, [], Nat.zero_le _, rfl, rfl, Byt.empty _, Bt.nil, World.grownBy.refl _ _, rfl⟩
 case round =>
  obtain ⟨i, k, kc, ka, za, hi, rfl, rfl, hb, bt, hg, hj⟩ := hrel
  have HB := hid_intro hb
  have HBT := hid_intro bt
  have HG := hid_intro hg
  have HJ := hid_intro hj
  clear hb bt hg hj
  by_cases hlt : i < n
  ·obtain ⟨p, hp⟩ : ∃ p, l[i]? = some p := ⟨_, List.getElem?_eq_getElem (by have := HL.out; omega)⟩
   have HD := hid_intro (HJ.out.trans (jdg_drop za hp))
   obtain ⟨b, off, ao, c1, bo, d1, rfl, q1, q2, q3, q4, q5, q6⟩ := HP.out.el i p hp
   obtain ⟨ky, vl⟩ := p
   simp only at q1 q2 q3 q4 q5 q6 HD
   have c0 := HG.out.cell q1 (by simp)
   have c2 := HG.out.cell q2 (by simp)
   obtain ⟨n1, hn1⟩ : ∃ n1, ky.length = n1 := ⟨_, rfl⟩
   obtain ⟨n2, hn2⟩ : ∃ n2, vl.length = n2 := ⟨_, rfl⟩
   rw [hn1] at c0 q3
   rw [hn2] at c2 q5
   have HF : Hid (flt za (ky, vl) = if n1 < 1 ∨ 255 < n1 ∨ 262144 < n2 then 41 else if cmpZ ky za ≤ 0 then 30 else 0) := by show _ = _; unfold flt; simp only; rw [hn1, hn2]
   have ga := World.grownBy_alloc wr (.cells #[.slice ao n1 c1, .slice bo n2 d1] 54) none
   have HK := hid_intro ((q3.keptN HG.out).keptN ga)
   have HA := hid_intro (HB.out.keptN ga)
   have HQ4 := hid_intro q4
   have HG2 := hid_intro (grown_trans HG.out ga)
   have x0 : (wr.alloc (.cells #[.slice ao n1 c1, .slice bo n2 d1] 54)).cell? ⟨wr.heap.size, 0, none⟩ = some (.slice ao n1 c1) := by simp
   have x1 : (wr.alloc (.cells #[.slice ao n1 c1, .slice bo n2 d1] 54)).cell? ⟨wr.heap.size, 1, none⟩ = some (.slice bo n2 d1) := by simp
   clear q1 q2 q3 q4 q5 q6 hn1 hn2 ga HB hp HJ
   by_cases hv : 1 ≤ n1 ∧ n1 ≤ 255
   ·go_upto_region 5 with fail
    generalize wr.alloc (.cells #[.slice ao n1 c1, .slice bo n2 d1] 54) = w1 at *
    go_wp2_with fail
    refine (validD ao n1 c1 _).mono ?_
    rintro en w2 ⟨rfl, hw2⟩
    subst hw2
    rw [decide_eq_true hv]
    by_cases hv2 : 262144 < n2
    ·have g1 : (262144 : Int) < (n2 : Int) := by omega
     have HZ : Hid (41 = jdg [] l) := by show _ = _; have hf := HF.out; rw [if_pos (.inr (.inr hv2))] at hf; rw [HD.out, hf, if_neg (by decide)]
     go_wp2
     go_ret
     exact ⟨ret20 HZ.out, HG2.out⟩
    ·have g1 : ¬ (262144 : Int) < (n2 : Int) := by omega
     rw [if_neg (by omega)] at HF
     go_wp2_with fail
     refine (behind_any ao ka n1 k c1 kc ky za _ HK.out HA.out HQ4.out HBT.out).mono ?_
     rintro en w3 ⟨rfl, hw3⟩
     subst hw3
     by_cases hc : cmpZ ky za ≤ 0
     ·rw [decide_eq_false (by omega)]
      have HZ : Hid (30 = jdg [] l) := by show _ = _; have hf := HF.out; rw [if_pos hc] at hf; rw [HD.out, hf, if_neg (by decide)]
      go_wp2
      go_ret
      exact ⟨ret20 HZ.out, HG2.out⟩
     ·rw [decide_eq_true (by omega)]
      have HZ : Hid (jdg [] l = jdg ky (l.drop (i + 1))) := by show _ = _; have hf := HF.out; rw [if_neg hc] at hf; rw [HD.out, hf, if_pos rfl]
      go_wp2
      go_roundw
      case rel => exact ⟨i + 1, n1, c1, ao, ky, by omega, by go_num, rfl, HK.out, HQ4.out, HG2.out, HZ.out⟩
      case measure => simp [intOf]; omega
   ·go_upto_region 5 with fail
    generalize wr.alloc (.cells #[.slice ao n1 c1, .slice bo n2 d1] 54) = w1 at *
    go_wp2_with fail
    refine (validD ao n1 c1 _).mono ?_
    rintro en w2 ⟨rfl, hw2⟩
    subst hw2
    rw [decide_eq_false hv]
    have HZ : Hid (41 = jdg [] l) := by show _ = _; have hf := HF.out; rw [if_pos (by omega)] at hf; rw [HD.out, hf, if_neg (by decide)]
    go_wp2
    go_ret
    exact ⟨ret20 HZ.out, HG2.out⟩
  ·obtain rfl : i = n := by omega
   have HZ : Hid (0 = jdg [] l) := by
    show _ = _
    rw [HJ.out, ← HL.out, List.drop_length]; rfl
   go_wp2
   go_ret
   exact ⟨ret20 HZ.out, HG.out⟩
def ahd (l : List Pq) : Nat → List Int
 | 0 => []
 | i + 1 => ((l[i]?).getD ([], [])).1
theorem cmp_gt_nil {k : List Int} (h : 1 ≤ k.length) : ¬ cmpZ k [] ≤ 0 := by
 cases k with
 | nil => simp at h
 | cons x t => simp [cmpZ]
set_option maxHeartbeats 4000000 in
set_option maxRecDepth 100000 in
theorem refFault_any (a : Option Addr) (n c i : Nat) (l : List Pq) (w : World) (h : Pm w a l) (hn : l.length = n) (hm : n ≤ 100000000) (p : Pq) (hp : l[i]? = some p) :
  Calls Tryz.prog 18 #[.slice a n c, .int .i64 (i : Nat)] w fun en w' => en = .returned (.int .i64 (flt (ahd l i) p)) ∧ Qt w w' := by
 obtain ⟨hi, e⟩ := List.getElem?_eq_some_iff.1 hp
 obtain ⟨b, off, ao, c1, bo, d1, rfl, q1, q2, q3, q4, q5, q6⟩ := h.el i p hp
 obtain ⟨ky, vl⟩ := p
 simp only at q1 q2 q3 q4 q5 q6
 obtain ⟨n1, hn1⟩ : ∃ n1, ky.length = n1 := ⟨_, rfl⟩
 obtain ⟨n2, hn2⟩ : ∃ n2, vl.length = n2 := ⟨_, rfl⟩
 rw [hn1] at q1 q3
 rw [hn2] at q2 q5
 have HF : Hid (flt (ahd l i) (ky, vl) = if n1 < 1 ∨ 255 < n1 ∨ 262144 < n2 then 41 else if cmpZ ky (ahd l i) ≤ 0 then 30 else 0) := by show _ = _; unfold flt; simp only; rw [hn1, hn2]
 have g0 : (0 : Int) ≤ (i : Int) := by omega
 have g1 : (i : Int) < (n : Int) := by omega
 have HP := hid_intro h
 have HL := hid_intro hn
 have H3 := hid_intro q3
 have H4 := hid_intro q4
 have H1 := hid_intro hn1
 clear h hn q3 q4 q5 q6 hp e hn1 hn2
 by_cases h1 : n1 < 1
 ·have k1 : (n1 : Int) < 1 := by omega
  have HZ : Hid (41 = flt (ahd l i) (ky, vl)) := by rw [HF.out, if_pos (.inl h1)]; rfl
  go_enter Tryz.func18, Tryz.ntmps18
  go_wp2
  go_ret
  exact ⟨ret20 HZ.out, Qt.refl _⟩
 ·have k1 : ¬ (n1 : Int) < 1 := by omega
  by_cases h2 : 255 < n1
  ·have k2 : (255 : Int) < (n1 : Int) := by omega
   have HZ : Hid (41 = flt (ahd l i) (ky, vl)) := by rw [HF.out, if_pos (.inr (.inl h2))]; rfl
   go_enter Tryz.func18, Tryz.ntmps18
   go_wp2
   go_ret
   exact ⟨ret20 HZ.out, Qt.refl _⟩
  ·have k2 : ¬ (255 : Int) < (n1 : Int) := by omega
   by_cases h3 : 262144 < n2
   ·have k3 : (262144 : Int) < (n2 : Int) := by omega
    have HZ : Hid (41 = flt (ahd l i) (ky, vl)) := by rw [HF.out, if_pos (.inr (.inr h3))]; rfl
    go_enter Tryz.func18, Tryz.ntmps18
    go_wp2
    go_ret
    exact ⟨ret20 HZ.out, Qt.refl _⟩
   ·have k3 : ¬ (262144 : Int) < (n2 : Int) := by omega
    rw [if_neg (by omega)] at HF
    by_cases hz : i = 0
    ·have HZ : Hid (0 = flt (ahd l i) (ky, vl)) := by
      have hf := HF.out
      rw [hz] at hf ⊢
      have e0 : ahd l 0 = [] := rfl
      rw [e0] at hf ⊢
      rw [if_neg (cmp_gt_nil (by have := H1.out; omega))] at hf
      exact hf.symm
     have k4 : ¬ (0 : Int) < (i : Int) := by omega
     have k5 : ¬ 0 < i := by omega
     have k6 : decide (0 < (i : Int)) = false := decide_eq_false k4
     have k7 : decide (0 < i) = false := decide_eq_false k5
     clear hz
     go_enter Tryz.func18, Tryz.ntmps18
     go_wp2
     go_quiet (fail)
     go_wp2
     go_ret
     exact ⟨ret20 HZ.out, Qt.drewN _ _⟩
    ·obtain ⟨j, hj⟩ : ∃ j, i = j + 1 := ⟨i - 1, by omega⟩
     obtain ⟨p', hp'⟩ : ∃ p', l[j]? = some p' := ⟨_, List.getElem?_eq_getElem (by omega)⟩
     obtain ⟨b', off', ao', c', bo', d', e1, r1, r2, r3, r4, r5, r6⟩ := HP.out.el j p' hp'
     simp only [Option.some.injEq, Addr.mk.injEq, and_true] at e1
     obtain ⟨rfl, rfl⟩ := e1
     obtain ⟨kk, vv⟩ := p'
     simp only at r1 r3 r4
     have ha : ahd l i = kk := by rw [hj]; simp [ahd, hp']
     rw [ha] at HF ⊢
     obtain ⟨n3, hn3⟩ : ∃ n3, kk.length = n3 := ⟨_, rfl⟩
     rw [hn3] at r1 r3
     have HC : Hid (∀ W : World, W.heap = w.heap → Calls Tryz.prog 34 #[.slice ao' n3 c', .slice ao n1 c1] W fun en w' => en = .returned (.bool (decide (cmpZ kk ky < 0))) ∧ w' = W) := fun W hW => lessD ao' ao n3 n1 c' c1 kk ky W (r3.heap hW) (H3.out.heap hW) r4 H4.out
     have HAN := hid_intro (cmp_anti kk ky)
     have k4 : (0 : Int) < (i : Int) := by omega
     have k5 : 0 < i := by omega
     have k6 : decide (0 < (i : Int)) = true := decide_eq_true k4
     have k7 : decide (0 < i) = true := decide_eq_true k5
     have k8 : (i : Int) - 1 = (j : Int) := by omega
     have k9 : (j : Int) < (n : Int) := by omega
     have k10 : (0 : Int) ≤ (j : Int) := by omega
     have k11 : IntKind.i64.wrap (j : Int) = (j : Int) := wrap_small _ (by omega) (by omega)
     clear r2 r3 r4 r5 r6 hp' hn3 ha hj hz
     by_cases hc : cmpZ kk ky < 0
     ·rw [decide_eq_true hc] at HC
      have HZ : Hid (0 = flt kk (ky, vl)) := by rw [HF.out, if_neg (by have := HAN.out; omega)]; rfl
      go_enter Tryz.func18, Tryz.ntmps18
      go_wp2
      go_quiet ((go_at_call 34; exact Calls.quiet_of_same (HC.out _ rfl)))
      go_wp2
      go_ret
      exact ⟨ret20 HZ.out, Qt.drewN _ _⟩
     ·rw [decide_eq_false hc] at HC
      have HZ : Hid (30 = flt kk (ky, vl)) := by rw [HF.out, if_pos (by have := HAN.out; omega)]; rfl
      go_enter Tryz.func18, Tryz.ntmps18
      go_wp2
      go_quiet ((go_at_call 34; exact Calls.quiet_of_same (HC.out _ rfl)))
      go_wp2
      go_ret
      exact ⟨ret20 HZ.out, Qt.drewN _ _⟩
end Go.Proofs.YthodgddoolbenaaGreatDoor
