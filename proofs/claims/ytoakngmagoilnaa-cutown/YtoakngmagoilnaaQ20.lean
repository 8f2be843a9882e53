import Derived.Test.YtoakngmagoilnaaQ19
import Derived.Test.YtoakngmagoilnaaQ17
import Derived.ProofKit
import Derived.OpenShut
import Derived.Deep.Slices
import Derived.ChangeSame
import Derived.Test.YtoakngmagoilnaaQ10
namespace Go.Proofs.Ytoakngmagoilnaa
open Go.ChangeShapes Go.WideShapes Go.ChangeAt Go.WideMaps Go.WideElems Go.RowKit Go.Deep
theorem list_ofG {T : Type} (d : T) {P : Nat → T → Prop} : ∀ (n : Nat), (∀ i, i < n → ∃ x, P i x) → ∃ L : List T, L.length = n ∧ ∀ i, i < n → P i (L.getD i d)
 | 0, _ => ⟨[], rfl, fun i hi => by omega⟩
 | n + 1, h => by
  obtain ⟨L, hl, hL⟩ := list_ofG d n (fun i hi => h i (by omega))
  obtain ⟨z, hz⟩ := h n (by omega)
  refine ⟨L ++ [z], by simp [hl], fun i hi => ?_⟩
  by_cases hin : i < n
  ·have e : (L ++ [z]).getD i d = L.getD i d := by simp [List.getD, List.getElem?_append_left (show i < L.length by omega)]
   rw [e]; exact hL i hin
  ·have : i = n := by omega
   subst this
   have e : (L ++ [z]).getD i d = z := by subst hl; simp [List.getD]
   rw [e]; exact hz
end Go.Proofs.Ytoakngmagoilnaa
namespace Go.Proofs.Ytoakngmagoilnaa
open Go.RowKit
set_option maxHeartbeats 4000000 in
set_option maxRecDepth 100000 in
theorem refPrefix_some (a : Option Addr) (cap : Nat) (z : List Int) (L : List (List Int)) (w : World) (hl : Lz w a (z :: L)) (hz : z.length ≤ 140737488351240) (hL : L.length + 1 ≤ 5000) :
  Calls Try.prog 52 #[.slice a (L.length + 1) cap] w fun en w' => en = .returned (.int .i64 ((bpre (z :: L) : Nat) : Int)) ∧ Qt w w' := by
 have HM : Hid (bpre (z :: L) = comAll z z.length L) := rfl
 obtain ⟨b, off, ao, n, c, rfl, h2, h3, h4, h5⟩ := hl.row 0 (by simp)
 have h3' : Byt w ao n c z := by simpa using h3
 have hzn := h3'.len
 have HF := hid_intro h3'
 have HL := hid_intro hl
 have HE : Hid (L.take L.length = L) := List.take_length
 rw [Nat.add_zero] at h2
 clear h3 h3' hl
 obtain ⟨m, hm⟩ : ∃ m, L.length = m := ⟨_, rfl⟩
 rw [hm] at hL ⊢
 have HMm := hid_intro hm
 clear hm
 go_enter Try.func52, Try.ntmps52
 go_wp2
 go_loopw [3, 4, 5] (fun sn si _ wr => ∃ i : Nat, i ≤ m ∧ si = .int .i64 ((i + 1 : Nat) : Int) ∧ sn = .int .i64 ((comAll z n (L.take i) : Nat) : Int) ∧ Qt w wr) (fun _ si _ _ => m + 1 - (intOf si).toNat)
 case atStart => exact ⟨0, Nat.zero_le _, rfl, rfl, Qt.refl _⟩
 case round =>
  obtain ⟨i, hi, rfl, rfl, hq⟩ := hrel
  have HQ := hid_intro hq
  clear hq
  have hle : comAll z n (L.take i) ≤ n := comAll_le z _ n
  by_cases hlt : i < m
  ·obtain ⟨b', off', bo, k, d, e1, k2, k3, k4, k5⟩ := HL.out.row (i + 1) (by simp; have := HMm.out; omega)
   simp only [Option.some.injEq, Addr.mk.injEq] at e1
   obtain ⟨rfl, rfl, _⟩ := e1
   have k3' : Byt w bo k d (L.getD i []) := by simpa using k3
   have hkl := k3'.len
   have HB := hid_intro k3'
   have HS := hid_intro (comAll_snoc z n L i (by have := HMm.out; omega))
   have c1 := (HQ.out.cell _).trans h2
   have c2 := (HQ.out.cell _).trans k2
   have HK2 := hid_intro k2
   clear k2 k3 k3'
   generalize comAll z n (L.take i) = t at *
   generalize L.getD i [] = s at *
   have hcs1 := com_le1 z s
   have hcs2 := com_le2 z s
   obtain ⟨u, hu⟩ : ∃ u, min t k = u := ⟨_, rfl⟩
   obtain ⟨T, hT⟩ : ∃ T, min t (com z s) = T := ⟨_, rfl⟩
   have hTu : T ≤ u := by omega
   have hmin : ∀ (ts : Array TypeId) (ty : TypeId) (W : World), (Builtin.min_ ts ty #[.int .i64 t, .int .i64 k]).run Try.prog W = .ok (.int .i64 u) W := fun ts ty W => by
    rw [run_min_int2]
    congr 2
    split <;> omega
   rw [hT] at HS
   have HT := hid_intro hT
   have HU := hid_intro hu
   have hu1 : u ≤ k := by omega
   have hu2 : u ≤ n := by omega
   clear hT hu
   obtain ⟨j, hj⟩ : ∃ j, i + 1 = j := ⟨_, rfl⟩
   have g1 : ((j : Nat) : Int) < (m : Int) + 1 := by omega
   have g0 : (0 : Int) ≤ (j : Int) := by omega
   rw [hj] at c2 HK2 ⊢
   have HJ := hid_intro hj
   clear hj
   go_wp2
   go_loopw [3, 5] (fun sn si wr' => ∃ (k' p' : Nat), si = .int .i64 k' ∧ sn = .int .i64 p' ∧ ((p' = u ∧ k' ≤ T) ∨ (p' = T ∧ k' = T + 1)) ∧ Qt w wr') (fun _ si _ => u + 2 - (intOf si).toNat)
   case atStart => exact ⟨0, u, rfl, rfl, .inl ⟨rfl, Nat.zero_le _⟩, HQ.out⟩
   case round =>
    obtain ⟨k', p', rfl, rfl, hcase, hq⟩ := hrel
    have HQ2 := hid_intro hq
    clear hq
    rcases hcase with ⟨rfl, hk1⟩ | ⟨rfl, rfl⟩
    ·by_cases hlt2 : k' < p'
     ·obtain ⟨b1, o1, rfl, _, y1⟩ := HF.out.at (by omega)
      obtain ⟨b2, o2, rfl, _, y2⟩ := HB.out.at (by omega)
      have d0 := (HQ2.out.cell _).trans h2
      have d1 := (HQ2.out.cell _).trans HK2.out
      have d2 := (HQ2.out.cell _).trans (y1 k' (by omega))
      have d3 := (HQ2.out.cell _).trans (y2 k' (by omega))
      have hth : Hid (z.getD k' 0 = s.getD k' 0 → k' + 1 ≤ T) := fun h => by
       have h6 := HT.out
       have h5 := HU.out
       by_cases hc : k' < com z s
       ·omega
       ·exfalso
        have h7 : com z s = k' := by omega
        have h8 := com_of_take z s (com z s + 1) (by omega) (by omega) (by
         have h9 := com_prefix z s (com z s) (Nat.le_refl _)
         rw [List.take_add_one, List.take_add_one, h9, h7]
         congr 1
         rw [List.getElem?_eq_getElem (show k' < z.length by omega), List.getElem?_eq_getElem (show k' < s.length by omega)]
         simpa [List.getD, List.getElem?_eq_getElem (show k' < z.length by omega), List.getElem?_eq_getElem (show k' < s.length by omega)] using h)
        omega
      have hne : Hid (¬ z.getD k' 0 = s.getD k' 0 → T = k') := fun h => by
       have h6 := HT.out
       have h5 := HU.out
       by_cases hc : k' < com z s
       ·exfalso
        refine h ?_
        have h9 := com_prefix z s (com z s) (Nat.le_refl _)
        have h10 := congrArg (fun l => l.getD k' 0) h9
        simpa [List.getD, List.getElem?_take, hc] using h10
       ·omega
      clear y1 y2
      have g2 : (k' : Int) < (n : Int) := by omega
      have g3 : (k' : Int) < (k : Int) := by omega
      have g4 : (0 : Int) ≤ (k' : Int) := by omega
      have g5 : (k' : Int) < (p' : Int) := by omega
      have g6 : (0 : Int) < (m : Int) + 1 := by omega
      generalize z.getD k' 0 = zx at *
      generalize s.getD k' 0 = sx at *
      by_cases hxy : zx = sx
      ·subst hxy
       have hk9 := hth.out rfl
       clear hth hne
       have hd : (zx != zx) = false := by simp
       go_wp2
       go_quiet (fail)
       go_wp2
       go_roundw
       case rel => exact ⟨k' + 1, p', by go_num, rfl, .inl ⟨by trivial, by omega⟩, HQ2.out.trans (Qt.drewN _ _)⟩
       case measure => simp [intOf]; omega
      ·have hk9 := hne.out hxy
       have hd : (sx != zx) = true := bne_iff_ne.2 (fun e => hxy e.symm)
       have hd2 : (sx == zx) = false := beq_eq_false_iff_ne.2 (fun e => hxy e.symm)
       clear hth hne
       go_wp2
       go_quiet (fail)
       go_wp2
       go_roundw
       case rel => exact ⟨k' + 1, k', by go_num, rfl, .inr ⟨by omega, by omega⟩, HQ2.out.trans (Qt.drewN _ _)⟩
       case measure => simp [intOf]; omega
     ·have hpt : p' = T := by omega
      have g5 : ¬ (k' : Int) < (p' : Int) := by omega
      go_wp2
      go_roundw
      case rel => exact ⟨i + 1, by omega, by have := HJ.out; go_num, by rw [HS.out, hpt], HQ2.out⟩
      case measure => have := HJ.out; simp [intOf]; omega
    ·have g5 : ¬ ((p' + 1 : Nat) : Int) < (p' : Int) := by omega
     go_wp2
     go_roundw
     case rel => exact ⟨i + 1, by omega, by have := HJ.out; go_num, by rw [HS.out], HQ2.out⟩
     case measure => have := HJ.out; simp [intOf]; omega
  ·have hin : i = m := by omega
   subst hin
   have hE : L.take i = L := by have := HE.out; rw [HMm.out] at this; exact this
   rw [hE]
   have HR : Hid (comAll z n L = bpre (z :: L)) := by show _ = _; rw [HM.out, hzn]
   rw [HR.out]
   go_wp2
   go_ret
   exact ⟨rfl, HQ.out⟩
set_option maxHeartbeats 400000 in
set_option maxRecDepth 100000 in
theorem refPrefix_none (a : Option Addr) (cap : Nat) (w : World) : Calls Try.prog 52 #[.slice a 0 cap] w fun en w' => en = .returned (.int .i64 0) ∧ w' = w := by
 go_enter Try.func52, Try.ntmps52
 go_wp2
 go_ret
 exact ⟨rfl, rfl⟩
theorem refPrefix_any (a : Option Addr) (n cap : Nat) (L : List (List Int)) (w : World) (hl : Lz w a L) (hn : L.length = n) (hm : n ≤ 5000) (hs : ∀ s ∈ L, s.length ≤ 140737488351240) :
  Calls Try.prog 52 #[.slice a n cap] w fun en w' => en = .returned (.int .i64 ((bpre L : Nat) : Int)) ∧ Qt w w' := by
 cases L with
 | nil =>
  obtain rfl : n = 0 := by simpa using hn.symm
  refine (refPrefix_none a cap w).mono ?_
  rintro en w' ⟨rfl, rfl⟩
  exact ⟨rfl, Qt.refl _⟩
 | cons z L =>
  obtain rfl : L.length + 1 = n := by simpa using hn
  exact refPrefix_some a cap z L w hl (hs z List.mem_cons_self) hm
set_option maxHeartbeats 2000000 in
set_option maxRecDepth 100000 in
theorem refSize5_any (a : Option Addr) (n cap : Nat) (L : List (List Int)) (w : World) (hl : Lz w a L) (hn : L.length = n) (hm : n ≤ 5000) (hk : ∀ x ∈ L, x.length ≤ 140737488351240) :
  Calls Try.prog 30 #[.slice a n cap] w fun en w' => en = .returned (.int .i64 ((bsize L : Nat) : Int)) ∧ Qt w w' := by
 have HL := hid_intro hl
 have HP : Hid (∀ x ∈ L, bpre L ≤ x.length) := fun x hx => (bpre_each x hx).1
 have HS := hid_intro (bsize_int (by omega) hk)
 have HM : Hid (bsize L = 12 + vl (bpre L) + bpre L + bsums (bpre L) L) := rfl
 have HN := hid_intro (fun i h => bsums_snoc (bpre L) L i h)
 have hv : (vform (bpre L)).length ≤ 10 := vl_le (bpre L)
 have hpl : bpre L ≤ 140737488351240 := by
  cases L with
  | nil => exact Nat.zero_le _
  | cons x L => exact Nat.le_trans (bpre_each x List.mem_cons_self).1 (hk x List.mem_cons_self)
 have HK := hid_intro hk
 have HPX := hid_intro (refPrefix_any a n cap L w hl hn hm hk)
 clear hl hk
 go_enter Try.func30, Try.ntmps30
 go_wp2_with fail
 refine HPX.out.mono ?_
 rintro en w1 ⟨rfl, hq1⟩
 have HQ := hid_intro hq1
 clear hq1 HPX
 have HV : Hid (vl (bpre L) = (vform (bpre L)).length) := rfl
 generalize bpre L = p at *
 go_wp2_with fail
 refine (refVLen_any p _ (by omega)).mono ?_
 rintro en w2 ⟨rfl, rfl⟩
 generalize (vform p).length = v at *
 go_wp2
 go_loopw [4, 5, 6] (fun sn si _ wr => ∃ i : Nat, i ≤ n ∧ si = .int .i64 i ∧ sn = .int .i64 ((12 + v + p + bsums p (L.take i) : Nat) : Int) ∧ Qt w wr) (fun _ si _ _ => n - (intOf si).toNat)
 case atStart => exact ⟨0, Nat.zero_le _, rfl, by simp [bsums], HQ.out⟩
 case round =>
  obtain ⟨i, hi, rfl, rfl, hq⟩ := hrel
  have HQ1 := hid_intro hq
  have b1 := HS.out i (by omega)
  clear hq HQ
  by_cases hlt : i < n
  ·obtain ⟨b, off, ao, m, c, rfl, q2, q3, q4, q5⟩ := HL.out.row i (by omega)
   have c0 := (HQ1.out.cell _).trans q2
   have hx := lget_mem (L := L) (i := i) (by omega)
   have hm1 := q3.len
   have hp1 := HP.out _ hx
   have hk1 := HK.out _ hx
   have HX : Hid (bsums p (L.take (i + 1)) = bsums p (L.take i) + (2 + bcl p (L.getD i []))) := HN.out i (by omega)
   obtain ⟨r, hr⟩ : ∃ r, m - p = r := ⟨_, rfl⟩
   have HCL : Hid (bcl p (L.getD i []) = (vform r).length + r + 8) := by show _ = _; unfold bcl vl; rw [hm1, hr]
   have hvr : (vform r).length ≤ 10 := vl_le r
   rw [HCL.out] at HX
   have hr' : (m : Int) - (p : Int) = (r : Int) := by omega
   clear q2 q3 HCL
   generalize bsums p (L.take i) = U at *
   rw [hm1] at hp1 hk1
   clear hm1 hx
   go_wp2_with fail
   refine (refVLen_any r _ (by omega)).mono ?_
   rintro en w2 ⟨rfl, rfl⟩
   generalize (vform r).length = vr at *
   go_wp2
   go_roundw
   case rel => exact ⟨i + 1, by omega, by go_num, by rw [HX.out]; go_num, HQ1.out⟩
   case measure => simp [intOf]; omega
  ·have hin : i = n := by omega
   subst hin
   go_wp2
   go_ret
   refine ⟨ret_int ?_, HQ1.out⟩
   rw [HM.out, HV.out, ← hn, List.take_length]
end Go.Proofs.Ytoakngmagoilnaa
namespace Go.Proofs.Ytoakngmagoilnaa
open Go.RowKit
theorem Ow.blk {w : World} {g cap : Nat} {zs : List Int} (h : Ow w g cap zs) : ∃ cur, w.heap[g]? = some (.cells cur 5 (0, 0)) := by
 obtain ⟨cur, h1, _⟩ := h.ex
 exact ⟨cur, h1⟩
theorem ow_byt {w : World} {g cap : Nat} {zs ts : List Int} (h : Ow w g cap (zs ++ ts)) (n : Nat) (hn : n = zs.length) : Byt w (some ⟨g, 0, none⟩) n cap zs := h.part.byt n hn
theorem own_kept5 {w w' : World} {base sz : Nat} {e : TypeId} {v : Value} {n : Nat} {xs : List Value} (h : w.ownsRow base e sz v n xs) (hg : w.grownBy w' none) : w'.ownsRow base e sz v n xs :=
 h.kept hg (by cases v.ownBlock with | none => exact .inl rfl | some g => exact .inr (by simp))
structure Lp (w : World) (base : Nat) (gs : List (Nat × Nat)) (xs : List Value) (L : List (List Int)) : Prop where
 gl : gs.length = L.length
 len : xs.length = L.length
 el : ∀ j, j < L.length → xs[j]? = some (.slice (some ⟨(gs.getD j (0, 0)).1, 0, none⟩) (L.getD j []).length (gs.getD j (0, 0)).2) ∧ Ow w (gs.getD j (0, 0)).1 (gs.getD j (0, 0)).2 (L.getD j [] ++ [201, 202]) ∧ base ≤ (gs.getD j (0, 0)).1
 dif : ∀ i j, i < j → j < L.length → (gs.getD i (0, 0)).1 < (gs.getD j (0, 0)).1
theorem Lp.nil (w : World) (base : Nat) : Lp w base [] [] [] := ⟨rfl, rfl, fun j hj => by simp at hj, fun i j _ hj => by simp at hj⟩
theorem Lp.kept {w w' : World} {base : Nat} {gs : List (Nat × Nat)} {xs : List Value} {L : List (List Int)} {row : Option Nat} (h : Lp w base gs xs L) (hg : w.grownBy w' row) (hne : ∀ (g : Nat) (cur : Array Value), base ≤ g → w.heap[g]? = some (.cells cur 5 (0, 0)) → some g ≠ row) : Lp w' base gs xs L := by
 refine ⟨h.gl, h.len, fun j hj => ?_, h.dif⟩
 obtain ⟨h1, h2, h3⟩ := h.el j hj
 obtain ⟨cur, h4⟩ := h2.blk
 exact ⟨h1, h2.kept hg (hne _ cur h3 h4), h3⟩
theorem Lp.keptN {w w' : World} {base : Nat} {gs : List (Nat × Nat)} {xs : List Value} {L : List (List Int)} (h : Lp w base gs xs L) (hg : w.grownBy w' none) : Lp w' base gs xs L := h.kept hg (fun _ _ _ _ => by simp)
theorem Lp.snoc {w : World} {base : Nat} {gs : List (Nat × Nat)} {xs : List Value} {L : List (List Int)} (h : Lp w base gs xs L) {g c n : Nat} {x : List Int} (hx : Ow w g c (x ++ [201, 202])) (hn : x.length = n) (hb : base ≤ g) (hlt : ∀ j, j < L.length → (gs.getD j (0, 0)).1 < g) :
  Lp w base (gs ++ [(g, c)]) (xs ++ [.slice (some ⟨g, 0, none⟩) n c]) (L ++ [x]) := by
 have hl := h.len
 have hgl := h.gl
 refine ⟨by simp [hgl], by simp [hl], fun j hj => ?_, fun i j hij hj => ?_⟩
 ·rw [List.length_append] at hj
  simp only [List.length_cons, List.length_nil] at hj
  by_cases e : j < L.length
  ·obtain ⟨h1, h2, h3⟩ := h.el j e
   have eg : (L ++ [x]).getD j [] = L.getD j [] := by simp [List.getD, List.getElem?_append_left e]
   have ef : (gs ++ [(g, c)]).getD j (0, 0) = gs.getD j (0, 0) := by simp [List.getD, List.getElem?_append_left (show j < gs.length by omega)]
   rw [eg, ef]
   exact ⟨by rw [List.getElem?_append_left (by omega)]; exact h1, h2, h3⟩
  ·obtain rfl : j = L.length := by omega
   have eg : (L ++ [x]).getD L.length [] = x := by simp [List.getD]
   have ef : (gs ++ [(g, c)]).getD L.length (0, 0) = (g, c) := by rw [← hgl]; simp [List.getD]
   rw [eg, ef, hn]
   exact ⟨by rw [List.getElem?_append_right (by omega), hl, Nat.sub_self]; rfl, hx, hb⟩
 ·rw [List.length_append] at hj
  simp only [List.length_cons, List.length_nil] at hj
  have ei : (gs ++ [(g, c)]).getD i (0, 0) = gs.getD i (0, 0) := by simp [List.getD, List.getElem?_append_left (show i < gs.length by omega)]
  rw [ei]
  by_cases e : j < L.length
  ·have ej : (gs ++ [(g, c)]).getD j (0, 0) = gs.getD j (0, 0) := by simp [List.getD, List.getElem?_append_left (show j < gs.length by omega)]
   rw [ej]; exact h.dif i j hij e
  ·obtain rfl : j = L.length := by omega
   have ej : (gs ++ [(g, c)]).getD L.length (0, 0) = (g, c) := by rw [← hgl]; simp [List.getD]
   rw [ej]; exact hlt i hij
structure Ln (w : World) (base A cap h : Nat) (gs : List (Nat × Nat)) (xs : List Value) (L : List (List Int)) : Prop where
 own : w.ownsRow base 26 1 (.slice (some ⟨A, 0, none⟩) (L.length + 1) cap) (L.length + 1) (xs ++ [.slice (some ⟨h, 0, none⟩) 1 1])
 lp : Lp w base gs xs L
 last : Ow w h 1 [203]
 lb : base ≤ h
 sz : ∀ s ∈ L, s.length ≤ 140737488351240
theorem Ln.keptN {w w' : World} {base A cap h : Nat} {gs : List (Nat × Nat)} {xs : List Value} {L : List (List Int)} (k : Ln w base A cap h gs xs L) (hg : w.grownBy w' none) : Ln w' base A cap h gs xs L :=
 ⟨own_kept5 k.own hg, k.lp.keptN hg, k.last.keptN hg, k.lb, k.sz⟩
theorem Ln.cell {w : World} {base A cap h : Nat} {gs : List (Nat × Nat)} {xs : List Value} {L : List (List Int)} (k : Ln w base A cap h gs xs L) (i : Nat) (hi : i < L.length) : w.cell? ⟨A, i, none⟩ = some (.slice (some ⟨(gs.getD i (0, 0)).1, 0, none⟩) (L.getD i []).length (gs.getD i (0, 0)).2) := by
 have hl := k.lp.len
 rw [k.own.cellAt i (by omega), List.getElem?_append_left (by omega)]
 exact (k.lp.el i hi).1
theorem Ln.lz {w : World} {base A cap h : Nat} {gs : List (Nat × Nat)} {xs : List Value} {L : List (List Int)} (k : Ln w base A cap h gs xs L) : Lz w (some ⟨A, 0, none⟩) L := by
 refine ⟨fun i hi => ?_⟩
 obtain ⟨_, h2, _⟩ := k.lp.el i hi
 have hle := h2.le
 have hmx := h2.max
 rw [List.length_append] at hle
 simp only [List.length_cons, List.length_nil] at hle
 exact ⟨A, 0, _, _, _, rfl, by rw [Nat.zero_add]; exact k.cell i hi, ow_byt h2 _ rfl, by omega, hmx⟩
theorem Ln.set {w : World} {base A cap h : Nat} {gs : List (Nat × Nat)} {xs : List Value} {L : List (List Int)} (k : Ln w base A cap h gs xs L) (i : Nat) (hi : i < L.length) (j : Nat) (hj : j < (L.getD i []).length) (v : Int) :
  Lz (w.setCell ⟨(gs.getD i (0, 0)).1, j, none⟩ (.int .u8 v)) (some ⟨A, 0, none⟩) (L.set i ((L.getD i []).set j v)) := by
 have hg := grown_cell w (gs.getD i (0, 0)).1 j (.int .u8 v)
 obtain ⟨_, hi2, hi3⟩ := k.lp.el i hi
 obtain ⟨cur, hcur⟩ := hi2.blk
 have hA : some (gs.getD i (0, 0)).1 ≠ some A := own_ne k.own hcur (by decide)
 refine ⟨fun m hm => ?_⟩
 rw [List.length_set] at hm
 have hcell : (w.setCell ⟨(gs.getD i (0, 0)).1, j, none⟩ (.int .u8 v)).cell? ⟨A, 0 + m, none⟩ = some (.slice (some ⟨(gs.getD m (0, 0)).1, 0, none⟩) (L.getD m []).length (gs.getD m (0, 0)).2) := by
  rw [Nat.zero_add]
  exact hg.cell (k.cell m hm) (fun e => hA e.symm)
 obtain ⟨_, h2, _⟩ := k.lp.el m hm
 have hle := h2.le
 have hmx := h2.max
 rw [List.length_append] at hle
 simp only [List.length_cons, List.length_nil] at hle
 refine ⟨A, 0, _, _, _, rfl, hcell, ?_, by omega, hmx⟩
 by_cases e : m = i
 ·subst e
  have eg : (L.set m ((L.getD m []).set j v)).getD m [] = (L.getD m []).set j v := by simp only [List.getD, List.getElem?_set_self hm, Option.getD_some]
  rw [eg]
  have h3 := h2.set j v (by rw [List.length_append]; omega)
  rw [List.set_append_left _ _ hj] at h3
  exact ow_byt h3 _ (by rw [List.length_set])
 ·have eg : (L.set i ((L.getD i []).set j v)).getD m [] = L.getD m [] := by
   simp only [List.getD]
   rw [List.getElem?_set_ne (fun h => e h.symm)]
  rw [eg]
  refine ow_byt (h2.kept hg (fun e2 => ?_)) _ rfl
  have e3 := Option.some.inj e2
  rcases Nat.lt_or_gt_of_ne e with q | q
  ·have := k.lp.dif m i q hi; omega
  ·have := k.lp.dif i m q hm; omega
theorem grown_app5 {w wr w' : World} {o : Obj} {base n : Nat} {v : Value} {xs : List Value} {t : TypeId} {sz : Nat} (hg : w.grownBy wr none) (ho : wr.ownsRow base t sz v n xs) (hb : w.heap.size ≤ base) (h : (wr.alloc o).grownBy w' v.ownBlock) : w.grownBy w' none := by
 refine ⟨h.os.trans hg.os, h.tape.trans hg.tape, h.output.trans hg.output, ?_, fun q hq _ => ?_⟩
 ·have := h.size; have := hg.size; simp at *; omega
 ·have hq2 : q < wr.heap.size := Nat.lt_of_lt_of_le hq hg.size
  rw [h.block q (by simp; omega) (by intro e; have := (ho.lt q e.symm).1; omega), Below.heap_alloc wr _ q hq2]
  exact hg.block q hq (by simp)
end Go.Proofs.Ytoakngmagoilnaa
namespace Go.Proofs.Ytoakngmagoilnaa
open Go.RowKit
set_option maxHeartbeats 1000000 in
set_option maxRecDepth 100000 in
theorem refLists_any (a : Option Addr) (n cap : Nat) (L : List (List Int)) (w : World) (hl : Lz w a L) (hn : L.length = n) (hm : n ≤ 5000) (hs : ∀ s ∈ L, s.length ≤ 140737488351240) :
  Calls Try.prog 6 #[.slice a n cap] w fun en w' => (∃ a' c', en = .returned (.slice a' n c') ∧ Lz w' a' L ∧ n ≤ c' ∧ c' ≤ 9223372036854775807) ∧ w.grownBy w' none := by
 obtain ⟨i0, hi, hz0, hz1, hz2⟩ := info_parts info_bytesS
 have HL := hid_intro hl
 have HS := hid_intro hs
 clear hl hs
 go_enter Try.func6, Try.ntmps6
 go_wp2_with (at_make; refine wpList_make_own _ rfl _ _ 23 rfl w.heap.size 26 i0 (.slice none 0 0) 1 Try.underlying23 hi hz0 hz1 _ _ _ n rfl rfl rfl ?b2 ?b3 (Nat.le_refl _) ?_)
 case b2 => rw [hz2]; omega
 case b3 => unfold maxLen; omega
 intro w0 hown0 hg0
 have O0 := hid_intro hown0
 have G0 := hid_intro hg0
 clear hown0 hg0
 go_wp2
 go_loopw [3, 4, 5] (fun sl si _ wr => ∃ (i : Nat) (xs : List Value), i ≤ n ∧ si = .int .i64 i ∧ Sv wr w.heap.size xs (L.take i) ∧ wr.ownsRow w.heap.size 26 1 sl i xs ∧ w.grownBy wr none) (fun _ si _ _ => n - (intOf si).toNat)
 case atStart => exact ⟨0, [], Nat.zero_le _, rfl, Sv.nil _ _, O0.out, G0.out⟩
 case round =>
  obtain ⟨i, xs, hi', rfl, hsv, hown, hg⟩ := hrel
  have HV := hid_intro hsv
  have HO := hid_intro hown
  have HG := hid_intro hg
  clear hsv hown hg O0 G0
  by_cases hlt : i < n
  ·obtain ⟨b1, off, ao, k, c, rfl, q2, q3, q4, q5⟩ := HL.out.row i (by omega)
   have c0 := HG.out.cell q2 (by simp)
   have B0 := hid_intro (q3.keptN HG.out)
   have hk := q3.len
   have hk2 := HS.out _ (lget_mem (show i < L.length by omega))
   have HTK : Hid (L.take (i + 1) = L.take i ++ [L.getD i []]) := by
    show _ = _
    rw [List.take_add_one, List.getElem?_eq_getElem (show i < L.length by omega)]
    simp [List.getD, List.getElem?_eq_getElem (show i < L.length by omega)]
   clear q2 q3
   generalize L.getD i [] = x at *
   go_wp2_with fail
   refine (refBytes_any ao k c x _ B0.out (by omega)).mono ?_
   rintro en w2 ⟨rfl, hown2, hg2, hs2⟩
   have R2 := hid_intro (Rw.of_owns hown2)
   have HV2 := hid_intro (HV.out.kept hg2 (fun _ _ _ _ => by simp))
   have HO2 := hid_intro (own_kept5 HO.out hg2)
   have HG2 := hid_intro (grown_trans HG.out hg2)
   have hgl := HG.out.size
   clear hown2 hg2 hs2 HV HO HG B0 c0
   generalize wr.heap.size = g at *
   go_wp2_with (at_builtin; refine wpList_append_own _ rfl _ _ 23 rfl w.heap.size 26 i0 (.slice none 0 0) 1 24 Try.underlying23 hi hz0 hz1 hz2 rfl (by decide) _ i xs rfl (HO2.out.alloc _) ⟨w2.heap.size, 0, none⟩ 1 1 [.slice (some ⟨g, 0, none⟩) k k] rfl rfl (cell_one_new _ _ _) (by intro u hu; simp at hu; subst hu; rfl) (by unfold maxLen; omega) (by omega) (by have := HG2.out.size; simp; omega) ?_)
   intro v' w4 ho4 hg4 _
   have hg24 := World.grownBy_alloc w2 (.cells #[.slice (some ⟨g, 0, none⟩) k k] 26) none
   have hnu : ∀ (q : Nat) (ys : List Int), w.heap.size ≤ q → Rw (w2.alloc (.cells #[.slice (some ⟨g, 0, none⟩) k k] 26)) q ys → some q ≠ _ := fun q ys _ hq => own_ne (HO2.out.alloc (.cells #[.slice (some ⟨g, 0, none⟩) k k] 26)) hq (by decide)
   have HV4 := hid_intro (((HV2.out.kept hg24 (fun _ _ _ _ => by simp)).kept hg4 hnu).snoc ((R2.out.keptN hg24).kept hg4 (hnu g x hgl (R2.out.keptN hg24))) hk hgl (by omega))
   have HG4 := hid_intro (grown_app5 HG2.out HO2.out (Nat.le_refl _) hg4)
   have HO4 := hid_intro ho4
   clear hg24 hnu ho4 hg4 HV2 HO2 HG2 R2
   go_wp2
   go_roundw
   case rel => exact ⟨i + 1, _, by omega, by go_num, by rw [HTK.out]; exact HV4.out, HO4.out, HG4.out⟩
   case measure => simp [intOf]; omega
  ·have hin : i = n := by omega
   subst hin
   have e : L.take i = L := by rw [← hn, List.take_length]
   rw [e] at HV
   obtain ⟨a2, cap3, e1, e2, e3, e4, e5⟩ := HV.out.lz HO.out
   subst e1
   have HM := hid_intro e2
   clear e2 HV HO e
   go_wp2
   go_ret
   exact ⟨⟨a2, cap3, rfl, HM.out, e4, e5⟩, HG.out⟩
end Go.Proofs.Ytoakngmagoilnaa
namespace Go.Proofs.Ytoakngmagoilnaa
open Go.RowKit
structure Sx (w : World) (xs : List Value) (M : List (List Int)) : Prop where
 len : xs.length = M.length
 el : ∀ j, j < M.length → ∃ b v, xs[j]? = some v ∧ w.ownsRow b 5 1 v (M.getD j []).length ((M.getD j []).map (Value.int .u8))
theorem Sx.nil (w : World) : Sx w [] [] := ⟨rfl, fun j hj => by simp at hj⟩
theorem Sx.kept {w w' : World} {xs : List Value} {M : List (List Int)} {base sz n : Nat} {vl : Value} {ys : List Value} (h : Sx w xs M) (hg : w.grownBy w' vl.ownBlock) (ho : w.ownsRow base 26 sz vl n ys) : Sx w' xs M := by
 refine ⟨h.len, fun j hj => ?_⟩
 obtain ⟨b, v, h1, h2⟩ := h.el j hj
 refine ⟨b, v, h1, h2.kept hg ?_⟩
 rcases h2.2 with ⟨rfl, _⟩ | ⟨g, cap, cur', rfl, _, hgg, _⟩
 ·exact .inl rfl
 ·exact .inr (own_ne ho hgg (by decide))
theorem Sx.keptN {w w' : World} {xs : List Value} {M : List (List Int)} (h : Sx w xs M) (hg : w.grownBy w' none) : Sx w' xs M := by
 refine ⟨h.len, fun j hj => ?_⟩
 obtain ⟨b, v, h1, h2⟩ := h.el j hj
 exact ⟨b, v, h1, h2.kept hg (by cases v.ownBlock with | none => exact .inl rfl | some g => exact .inr (by simp))⟩
theorem Sx.snoc {w : World} {xs : List Value} {M : List (List Int)} {b n : Nat} {v : Value} {x : List Int} (h : Sx w xs M) (h1 : w.ownsRow b 5 1 v n (x.map (Value.int .u8))) (hn : x.length = n) : Sx w (xs ++ [v]) (M ++ [x]) := by
 have hl := h.len
 refine ⟨by simp [hl], fun j hj => ?_⟩
 rw [List.length_append] at hj
 simp only [List.length_cons, List.length_nil] at hj
 by_cases e : j < M.length
 ·obtain ⟨b, v, k1, k2⟩ := h.el j e
  have eg : (M ++ [x]).getD j [] = M.getD j [] := by simp [List.getD, List.getElem?_append_left e]
  rw [eg]
  exact ⟨b, v, by rw [List.getElem?_append_left (by omega)]; exact k1, k2⟩
 ·obtain rfl : j = M.length := by omega
  have eg : (M ++ [x]).getD M.length [] = x := by simp [List.getD]
  rw [eg, hn]
  exact ⟨b, v, by rw [List.getElem?_append_right (by omega), hl, Nat.sub_self]; rfl, h1⟩
theorem Sx.lz {w : World} {base : Nat} {v : Value} {n : Nat} {xs : List Value} {M : List (List Int)} (h : Sx w xs M) (ho : w.ownsRow base 26 1 v n xs) : ∃ a cap, v = .slice a n cap ∧ Lz w a M ∧ M.length = n ∧ n ≤ cap ∧ cap ≤ 9223372036854775807 := by
 have hl := h.len
 have hn : M.length = n := by have := ho.1; omega
 rcases ho.2 with ⟨rfl, rfl⟩ | ⟨g, cap, cur, rfl, _, _, hc, hm, _⟩
 ·obtain rfl : M = [] := List.length_eq_zero_iff.1 hn
  exact ⟨none, 0, rfl, Lz.zero _ _, rfl, Nat.le_refl _, by omega⟩
 ·refine ⟨_, cap, rfl, ⟨fun i hi => ?_⟩, hn, hc, by unfold maxLen at hm; omega⟩
  obtain ⟨b, v', h1, h2⟩ := h.el i hi
  have hcl := ho.cellAt i (by omega)
  obtain ⟨ao, c', e1, hb⟩ := owns_any h2
  subst e1
  rcases h2.2 with ⟨e2, e3⟩ | ⟨g', cap', cur', e2, _, _, hc', hm', _⟩
  ·rw [e3] at hb h1
   simp only [Value.slice.injEq] at e2
   obtain ⟨rfl, _, rfl⟩ := e2
   exact ⟨g, 0, none, 0, 0, rfl, by rw [Nat.zero_add, hcl]; exact h1, hb, Nat.le_refl _, by omega⟩
  ·simp only [Value.slice.injEq] at e2
   obtain ⟨rfl, _, rfl⟩ := e2
   exact ⟨g, 0, _, _, c', rfl, by rw [Nat.zero_add, hcl]; exact h1, hb, hc', by unfold maxLen at hm'; omega⟩
end Go.Proofs.Ytoakngmagoilnaa
