import Derived.Test.YtoecgpckkodmcaaGreatQ40
import Derived.Test.YtoecgpckkodmcaaGreatQ43
import Derived.Test.YtoecgpckkodmcaaGreatQ29
import Derived.Test.YtoecgpckkodmcaaGreatQ32
namespace Go.Proofs.YtoecgpckkodmcaaGreat
open Go.RowKit
theorem rm_byt {w : World} {base g n c : Nat} {b : List Int} (h : w.ownsRow base 5 1 (.slice (some ⟨g, 0, none⟩) (n + 2) c) (n + 2) ((b ++ [201, 202]).map (Value.int .u8))) (hl : b.length = n) : Byt w (some ⟨g, 0, none⟩) n c b := by
 have h1 := own_bytT h
 refine ⟨hl, (fun e => by cases e), fun ad e j u hu => h1.cells ad e j u ?_⟩
 rw [List.map_append, List.getElem?_append_left (by simpa using (List.getElem?_eq_some_iff.1 hu).1)]
 exact hu
theorem take_mp {w : World} {m n0 : Nat} {v : Value} {xs : List PgT} {L : List PrT} (ho : w.ownsRow m 38 2 v xs.length (pcs xs)) (hx : ∀ x ∈ xs, PxP n0 m x w) (hm : xs.map (fun x => x.2.2) = L) : ∃ a c, v = .slice a L.length c ∧ MpW w a L.length c L := by
 subst hm
 have hps : PsW w (xs.map fun x => [x.1, x.2.1]) (xs.map fun x => x.2.2) := by
  refine ⟨by simp, fun i e p h1 h2 => ?_⟩
  rw [List.getElem?_map] at h1 h2
  obtain ⟨x, hx1, rfl⟩ := Option.map_eq_some_iff.1 h1
  rw [hx1] at h2
  cases h2
  obtain ⟨lo, hi, _, _, h3⟩ := hx x (List.mem_of_getElem? hx1)
  exact pv_bp h3
 have e : pcs xs = (xs.map fun x => [x.1, x.2.1]).flatten := by simp [pcs, List.flatMap]
 rw [e] at ho
 rw [List.length_map]
 exact MpW.of ho hps (by simp)
set_option maxHeartbeats 16000000 in
set_option maxRecDepth 100000 in
theorem walkTakes_walk (a : Option Addr) (n c : Nat) (C : List CgT) (la : Option Addr) (ln lc : Nat) (lo : List Int) (ha : Option Addr) (hn hc : Nat) (hi : List Int) (lim : Int) (w : World) (hC : CgW w a C) (hCn : C.length = n) (hlo : Byt w la ln lc lo) (btl : Bt lo) (hhi : Byt w ha hn hc hi) (bth : Bt hi) :
  Calls Tryz.prog 5 #[.slice a n c, .slice la ln lc, .slice ha hn hc, .int .i64 lim] w fun en w' => en = .returned (.bool true) ∧ w.grownBy w' none := by
 have HC := hid_intro hC
 have HLO := hid_intro hlo
 have HHI := hid_intro hhi
 have HN := hid_intro hCn
 clear hC hlo hhi hCn
 go_enter Tryz.func5, Tryz.ntmps5
 go_wp2_with fail
 refine (first11 w).mono ?_
 rintro en w1 ⟨rfl, hg1⟩
 have G1 := hid_intro hg1
 clear hg1
 go_wp2_with fail
 refine (grown_law a n c C w1 (HC.out.cef (CeF.of G1.out)) HN.out).mono ?_
 rintro en w2 ⟨p, t, ma, mn, mc, rfl, ht2, hw2, hm2, hg2⟩
 have HT := hid_intro ht2
 have HW := hid_intro hw2
 have HM := hid_intro hm2
 have G2 := hid_intro (grown_trans G1.out hg2)
 clear ht2 hw2 hg2 hm2 HC
 go_wp2_with fail
 refine (short11 la ha ln hn lc hc w2).mono ?_
 rintro en w3 ⟨rfl, hw⟩
 rw [hw]
 clear hw
 by_cases hs : ln ≤ 1000 ∧ hn ≤ 1000
 ·have e1 : (decide (ln ≤ 1000) && decide (hn ≤ 1000)) = true := by simp [hs.1, hs.2]
  rw [e1]
  obtain ⟨hs1, hs2⟩ := hs
  clear e1
  have KW := hid_intro (HW.out.walk (Nat.le_refl _))
  have HFL := hid_intro HW.out.fl
  have RC := hid_intro (roomy11 la ln lc lo w2 (HLO.out.keptN G2.out) hs1)
  go_wp2_with fail
  refine RC.out.mono ?_
  rintro en w3 ⟨ga, gc, rfl, hga, hoa, hg3⟩
  have OA := hid_intro hoa
  have G3 := hid_intro (grown_trans G2.out hg3)
  have S3 := hid_intro hg3
  have hga2 := (own_lt10 hoa rfl).2.1
  clear hoa hg3 RC
  have RC := hid_intro (roomy11 ha hn hc hi w3 (HHI.out.keptN G3.out) hs2)
  go_wp2_with fail
  refine RC.out.mono ?_
  rintro en w4 ⟨gb, gd, rfl, hgb, hob, hg4⟩
  have OB := hid_intro hob
  have G4 := hid_intro (grown_trans G3.out hg4)
  have S4 := hid_intro (grown_trans S3.out hg4)
  have OA4 := hid_intro (OA.out.kept hg4 (Classical.em _))
  clear hob hg4 RC OA
  have TC := hid_intro (take_any t p (some ⟨ga, 0, none⟩) ln gc lo (some ⟨gb, 0, none⟩) hn gd hi lim w4 (HT.out.kept (FrT.of S4.out)) KW.out (rm_byt OA4.out HLO.out.len) btl (rm_byt OB.out HHI.out.len) bth (by omega) (by omega))
  rw [HFL.out] at TC
  go_wp2_with fail
  refine TC.out.mono ?_
  rintro en w5 ⟨hg5, v5, xs, n0, m5, rfl, ho5, hx5, hp5, _, _⟩
  obtain ⟨xa, xc, hv5, hm5⟩ := take_mp ho5 hp5 hx5
  subst hv5
  have M5 := hid_intro hm5
  have S5 := hid_intro (grown_trans S4.out hg5)
  have OA5 := hid_intro (OA4.out.kept hg5 (Classical.em _))
  have OB5 := hid_intro (OB.out.kept hg5 (Classical.em _))
  have hz5 := hg5.size
  clear ho5 hx5 hp5 hm5 hg5 TC OA4 OB
  have hle := HW.out.le
  have hml := HM.out.1
  have RT := hid_intro (refTake11 ma mn mc (grG C) la ln lc lo ha hn hc hi lim w5 (HM.out.cef (CeF.of S5.out)) (HLO.out.keptN (grown_trans G2.out S5.out)) (HHI.out.keptN (grown_trans G2.out S5.out)) btl bth (fun q hq => (HW.out.vp q hq).kb) HW.out.srt (by omega))
  have hlen : ((withinT (grG C) lo hi).take lim.toNat).length ≤ 400 := by
   have h1 := (within_sub (grG C) lo hi).length_le
   rw [List.length_take]
   omega
  generalize (withinT (grG C) lo hi).take lim.toNat = TL at *
  obtain ⟨K, hK⟩ : ∃ K, TL.length = K := ⟨_, rfl⟩
  rw [hK] at M5 hlen ⊢
  clear hml hle
  go_wp2_with fail
  refine RT.out.mono ?_
  rintro en w6 ⟨ra, rn, rc, rfl, hg6, hm6⟩
  have hrn : rn = K := by rw [← hK]; exact hm6.1.symm
  subst hrn
  have SP := hid_intro (samePairs11 xa ra rn xc rc TL w6 (M5.out.cef (CeF.of hg6)) hm6 (by omega))
  have S6 := hid_intro (grown_trans S5.out hg6)
  have OA6 := hid_intro (OA5.out.kept hg6 (Classical.em _))
  have OB6 := hid_intro (OB5.out.kept hg6 (Classical.em _))
  clear hg6 hm6 RT hK OA5 OB5
  go_wp2_with fail
  refine SP.out.mono ?_
  rintro en w7 ⟨rfl, hg7⟩
  have S7 := hid_intro (grown_trans S6.out hg7)
  have OA7 := hid_intro (OA6.out.kept hg7 (Classical.em _))
  have OB7 := hid_intro (OB6.out.kept hg7 (Classical.em _))
  have MC := hid_intro (marked11 ga ln gc _ lo la lc w7 OA7.out (HLO.out.keptN (grown_trans G2.out S7.out)) hs1)
  have hz2 := G2.out.size
  have hz3 := S3.out.size
  clear hg7 SP OA6 OB6
  go_wp2_with fail
  refine MC.out.mono ?_
  rintro en w8 ⟨rfl, hg8⟩
  have T8 := hid_intro (grown_new (grown_trans G2.out S7.out) hg8 (by omega))
  have OB8 := hid_intro (OB7.out.kept hg8 (.inr (by simp only [Value.ownBlock, ne_eq, Option.some.injEq]; omega)))
  have MD := hid_intro (marked11 gb hn gd _ hi ha hc w8 OB8.out (HHI.out.keptN T8.out) hs2)
  clear hg8 MC OB7
  go_wp2_with fail
  refine MD.out.mono ?_
  rintro en w9 ⟨rfl, hg9⟩
  have T9 := hid_intro (grown_new T8.out hg9 (by omega))
  clear hg9 MD
  go_wp2
  go_ret
  exact ⟨rfl, T9.out⟩
 ·have e1 : (decide (ln ≤ 1000) && decide (hn ≤ 1000)) = false := by
   cases h : (decide (ln ≤ 1000) && decide (hn ≤ 1000)) with
   | false => rfl
   | true => simp at h; exact absurd h hs
  rw [e1]
  clear hs e1
  go_wp2
  go_ret
  exact ⟨rfl, G2.out⟩
end Go.Proofs.YtoecgpckkodmcaaGreat
namespace Go.Proofs.YtoecgpckkodmcaaGreat
open Go.RowKit
structure RgC (w W : World) (p A1 A2 A3 ln hn : Nat) (lo hi : List Int) : Prop where
 rb : RgB w W p A1 A2 A3 ln hn lo hi
 a1 : w.heap.size ≤ A1 ∧ w.heap.size ≤ A2 ∧ w.heap.size ≤ A3
 k2 : ∃ a c, W.cell? ⟨A2, 0, none⟩ = some (.slice a ln c) ∧ W.ownsRow w.heap.size 5 1 (.slice a ln c) ln (lo.map (Value.int .u8))
 k3 : ∃ a c, W.cell? ⟨A3, 0, none⟩ = some (.slice a hn c) ∧ W.ownsRow w.heap.size 5 1 (.slice a hn c) hn (hi.map (Value.int .u8))
theorem RgC.mk' {w W6 : World} {p s ln hn c5 c6 : Nat} {a5 a6 : Option Addr} {lo hi : List Int} (hg : w.grownBy W6 none) (hs : s = w.heap.size) (k1 : W6.cell? ⟨s, 0, none⟩ = some (.pointer (some ⟨p, 0, none⟩))) (k2 : (W6.cell? ⟨s + 1, 0, none⟩).isSome = true) (k3 : (W6.cell? ⟨s + 2, 0, none⟩).isSome = true)
  (o5 : W6.ownsRow (s + 3) 5 1 (.slice a5 ln c5) ln (lo.map (Value.int .u8))) (o6 : W6.ownsRow (s + 3) 5 1 (.slice a6 hn c6) hn (hi.map (Value.int .u8))) :
  RgC w ((W6.setCell ⟨s + 1, 0, none⟩ (.slice a5 ln c5)).setCell ⟨s + 2, 0, none⟩ (.slice a6 hn c6)) p s (s + 1) (s + 2) ln hn lo hi ∧ RgC w ((W6.setCell ⟨s + 2, 0, none⟩ (.slice a6 hn c6)).setCell ⟨s + 1, 0, none⟩ (.slice a5 ln c5)) p s (s + 1) (s + 2) ln hn lo hi := by
 obtain ⟨r1, r2⟩ := RgB.mk' (p := p) hg hs k1 k2 k3 o5 o6
 refine ⟨⟨r1, by omega, ⟨_, _, cell_set1 (World.cell?_setCell_same' _ _ _ k2) (by omega), own_low (own_set (own_set o5 (by omega)) (by omega)) (by omega)⟩, ⟨_, _, World.cell?_setCell_same' _ _ _ ?_, own_low (own_set (own_set o6 (by omega)) (by omega)) (by omega)⟩⟩,
  ⟨r2, by omega, ⟨_, _, World.cell?_setCell_same' _ _ _ ?_, own_low (own_set (own_set o5 (by omega)) (by omega)) (by omega)⟩, ⟨_, _, cell_set1 (World.cell?_setCell_same' _ _ _ k3) (by omega), own_low (own_set (own_set o6 (by omega)) (by omega)) (by omega)⟩⟩⟩
 ·obtain ⟨v, hv⟩ := Option.isSome_iff_exists.1 k3
  rw [cell_set1 hv (by omega)]; rfl
 ·obtain ⟨v, hv⟩ := Option.isSome_iff_exists.1 k2
  rw [cell_set1 hv (by omega)]; rfl
structure RgK (W : World) (p A1 A2 A3 ln hn : Nat) (lo hi : List Int) : Prop where
 k1 : W.cell? ⟨A1, 0, none⟩ = some (.pointer (some ⟨p, 0, none⟩))
 k2 : ∃ a c, W.cell? ⟨A2, 0, none⟩ = some (.slice a ln c) ∧ Byt W a ln c lo
 k3 : ∃ a c, W.cell? ⟨A3, 0, none⟩ = some (.slice a hn c) ∧ Byt W a hn c hi
theorem RgB.k {w W : World} {p A1 A2 A3 ln hn : Nat} {lo hi : List Int} (h : RgB w W p A1 A2 A3 ln hn lo hi) : RgK W p A1 A2 A3 ln hn lo hi := ⟨h.k1, h.k2, h.k3⟩
theorem RgK.grown {W W' : World} {p A1 A2 A3 ln hn : Nat} {lo hi : List Int} (h : RgK W p A1 A2 A3 ln hn lo hi) (hg : W.grownBy W' none) : RgK W' p A1 A2 A3 ln hn lo hi := by
 obtain ⟨a, c, h2, h3⟩ := h.k2
 obtain ⟨b, d, h4, h5⟩ := h.k3
 exact ⟨hg.cell h.k1 (by simp), ⟨a, c, hg.cell h2 (by simp), h3.keptN hg⟩, ⟨b, d, hg.cell h4 (by simp), h5.keptN hg⟩⟩
theorem RgC.behind {w W X Y Z : World} {p A1 A2 A3 ln hn ga gb : Nat} {lo hi : List Int} (h : RgC w W p A1 A2 A3 ln hn lo hi) (h1 : W.grownBy X none) (h2 : X.grownBy Y (some ga)) (h3 : Y.grownBy Z (some gb)) (ha : ga < w.heap.size) (hb : gb < w.heap.size) : RgK Z p A1 A2 A3 ln hn lo hi := by
 obtain ⟨a, c, e2, o2⟩ := h.k2
 obtain ⟨b, d, e3, o3⟩ := h.k3
 have hA := h.a1
 have ne : ∀ {g A : Nat}, g < w.heap.size → w.heap.size ≤ A → some A ≠ some g := fun h1 h2 e => by have := Option.some.inj e; omega
 have cl : ∀ {A : Nat} {v : Value}, w.heap.size ≤ A → W.cell? ⟨A, 0, none⟩ = some v → Z.cell? ⟨A, 0, none⟩ = some v := fun hw hc => h3.cell (h2.cell (h1.cell hc (by simp)) (ne ha hw)) (ne hb hw)
 have ow : ∀ {v : Value} {n : Nat} {xs : List Value}, W.ownsRow w.heap.size 5 1 v n xs → Z.ownsRow w.heap.size 5 1 v n xs := fun o => by
  have k1 := o.kept h1 (Classical.em _)
  have k2 := own_blk (w' := Z) k1 fun i e ht => by
   have hi := (own_lt10 k1 e).1
   have hl := (own_lt10 k1 e).2.1
   exact (h3.block i (by have := h2.size; omega) (ne hb hi)).trans (h2.block i hl (ne ha hi))
  exact k2
 exact ⟨cl hA.1 h.rb.k1, ⟨a, c, cl hA.2.1 e2, own_bytT (ow o2)⟩, ⟨b, d, cl hA.2.2 e3, own_bytT (ow o3)⟩⟩
theorem rangeK {t : Option TrT} {L : List PrT} (hG : GwT 400 t L) {p A1 A2 A3 ln hn : Nat} {lo hi : List Int} {w1 : World} (hr : RgK w1 p A1 A2 A3 ln hn lo hi) (ht : TreeT w1 p t) (btl : Bt lo) (bth : Bt hi) (n : Nat) (h1 : 1 ≤ n) (h2 : n ≤ 10000001) :
  Calls Tryz.prog 20 #[.func (.func 46) #[] #[.pointer (some ⟨A1, 0, none⟩), .pointer (some ⟨A2, 0, none⟩), .pointer (some ⟨A3, 0, none⟩)], .int .i64 (n : Nat)] w1 fun en w' => GatP w1 ((withinT L lo hi).take n) en w' :=
 gather_range hG (w := w1) ⟨hr.k1, hr.k2, hr.k3, World.grownBy.refl _ _⟩ ht btl bth n h1 h2
theorem backK {t : Option TrT} {L : List PrT} (hG : GwT 400 t L) {p A1 A2 A3 ln hn : Nat} {lo hi : List Int} {w1 : World} (hr : RgK w1 p A1 A2 A3 ln hn lo hi) (ht : TreeT w1 p t) (btl : Bt lo) (bth : Bt hi) (n : Nat) (h1 : 1 ≤ n) (h2 : n ≤ 10000001) :
  Calls Tryz.prog 20 #[.func (.func 48) #[] #[.pointer (some ⟨A1, 0, none⟩), .pointer (some ⟨A2, 0, none⟩), .pointer (some ⟨A3, 0, none⟩)], .int .i64 (n : Nat)] w1 fun en w' => GatP w1 ((withinT L lo hi).reverse.take n) en w' :=
 gather_back hG (w := w1) ⟨hr.k1, hr.k2, hr.k3, World.grownBy.refl _ _⟩ ht btl bth n h1 h2
set_option maxHeartbeats 8000000 in
set_option maxRecDepth 100000 in
theorem range_c (p : Nat) (la : Option Addr) (ln lc : Nat) (lo : List Int) (ha : Option Addr) (hn hc : Nat) (hi : List Int) (w : World) (hlo : Byt w la ln lc lo) (hhi : Byt w ha hn hc hi) (h1 : ln ≤ 140737488355328) (h2 : hn ≤ 140737488355328) :
  Calls Tryz.prog 13 #[.pointer (some ⟨p, 0, none⟩), .slice la ln lc, .slice ha hn hc] w fun en w' => ∃ A1 A2 A3, en = .returned (.func (.func 46) #[] #[.pointer (some ⟨A1, 0, none⟩), .pointer (some ⟨A2, 0, none⟩), .pointer (some ⟨A3, 0, none⟩)]) ∧ RgC w w' p A1 A2 A3 ln hn lo hi := by
 have hmf : ∀ (fn : Fn) (first cap : Array Value) (w : World), (Instr.makeFunc fn first cap).run Tryz.prog w = .ok (.func fn first cap) w := fun _ _ _ _ => rfl
 have CL := hid_intro (fun (W : World) (h : w.grownBy W none) => clone_own la ln lc lo W (hlo.keptN h) h1)
 have CH := hid_intro (fun (W : World) (h : w.grownBy W none) => clone_own ha hn hc hi W (hhi.keptN h) h2)
 clear hlo hhi
 obtain ⟨W0, hW0⟩ : ∃ W0, ((w.alloc (.cells #[.pointer (some ⟨p, 0, none⟩)] 25)).alloc (.cells #[.slice la ln lc] 23)).alloc (.cells #[.slice ha hn hc] 23) = W0 := ⟨_, rfl⟩
 have g0 : w.grownBy W0 none := by rw [← hW0]; exact grown_al (grown_al (grown_al (World.grownBy.refl _ _) _) _) _
 have e1 : W0.cell? ⟨w.heap.size, 0, none⟩ = some (.pointer (some ⟨p, 0, none⟩)) := by rw [← hW0]; exact cell_heap (heap_old (heap_old (heap_at0 w _ _))) rfl
 have x2 : W0.heap[w.heap.size + 1]? = some (.cells #[.slice la ln lc] 23 (0, 0)) := by rw [← hW0]; exact heap_old (heap_at1 w _ _ _)
 have x3 : W0.heap[w.heap.size + 1 + 1]? = some (.cells #[.slice ha hn hc] 23 (0, 0)) := by rw [← hW0]; exact heap_at2 w _ _ _ _
 have e2 : W0.cell? ⟨w.heap.size + 1, 0, none⟩ = some (.slice la ln lc) := cell_heap x2 rfl
 have e3 : W0.cell? ⟨w.heap.size + 1 + 1, 0, none⟩ = some (.slice ha hn hc) := cell_heap x3 rfl
 have X2 := hid_intro x2
 have X3 := hid_intro x3
 clear x2 x3
 have hz0 : W0.heap.size = w.heap.size + 3 := by rw [← hW0]; simp
 have G0 := hid_intro g0
 clear g0
 go_enter Tryz.func13, Tryz.ntmps13
 go_upto_region 1 with fail
 clear hW0
 have f1 := (Qt.refl W0).drew.grown none
 have G1 := hid_intro (grown_trans G0.out f1)
 have GD := hid_intro f1
 obtain ⟨s, hs⟩ : ∃ s, w.heap.size = s := ⟨_, rfl⟩
 rw [hs] at e1 e2 e3 hz0 X2 X3 ⊢
 have HS := hid_intro hs
 clear f1 hs
 go_region_with (first
  | (go_at_call_of 45 (Value.slice la ln lc); refine (CL.out _ G1.out).mono ?_; rintro en w5 ⟨a5, c5, rfl, ho5, hg5⟩; have O5 := hid_intro ho5; have G5 := hid_intro (grown_trans GD.out hg5); have q2 := G5.out.cell e2 (by simp); have q3 := G5.out.cell e3 (by simp); clear ho5 hg5)
  | (go_at_call_of 45 (Value.slice ha hn hc); refine (CH.out _ (grown_trans G0.out G5.out)).mono ?_; rintro en w6 ⟨a6, c6, rfl, ho6, hg6⟩; have O6 := hid_intro ho6; have G56 := hid_intro hg6; have G6 := hid_intro (grown_trans G5.out hg6); have r2 := G6.out.cell e2 (by simp); have r3 := G6.out.cell e3 (by simp); have z2 := frozen_of_row w6 (s + 1) 0 _ _ ((FrT.of G6.out).keep _ _ _ _ (by decide) X2.out); have z3 := frozen_of_row w6 (s + 1 + 1) 0 _ _ ((FrT.of G6.out).keep _ _ _ _ (by decide) X3.out); clear ho6 hg6))
 all_goals
  have hz5 := G5.out.size
  have o5 : w6.ownsRow (s + 3) 5 1 (.slice a5 ln c5) ln (lo.map (Value.int .u8)) := own_low (O5.out.kept G56.out (Classical.em _)) (by show s + 3 ≤ W0.heap.size; omega)
  have o6 : w6.ownsRow (s + 3) 5 1 (.slice a6 hn c6) hn (hi.map (Value.int .u8)) := own_low O6.out (by omega)
  have RB := hid_intro (RgC.mk' (p := p) (grown_trans G0.out G6.out) HS.out.symm (G6.out.cell e1 (by simp)) (by rw [r2]; rfl) (by show (w6.cell? ⟨s + 1 + 1, 0, none⟩).isSome = true; rw [r3]; rfl) o5 o6).1
  clear o5 o6
  go_wp2
  go_ret
  exact ⟨_, _, _, rfl, RB.out⟩
set_option maxHeartbeats 8000000 in
set_option maxRecDepth 100000 in
theorem back_c (p : Nat) (la : Option Addr) (ln lc : Nat) (lo : List Int) (ha : Option Addr) (hn hc : Nat) (hi : List Int) (w : World) (hlo : Byt w la ln lc lo) (hhi : Byt w ha hn hc hi) (h1 : ln ≤ 140737488355328) (h2 : hn ≤ 140737488355328) :
  Calls Tryz.prog 14 #[.pointer (some ⟨p, 0, none⟩), .slice la ln lc, .slice ha hn hc] w fun en w' => ∃ A1 A2 A3, en = .returned (.func (.func 48) #[] #[.pointer (some ⟨A1, 0, none⟩), .pointer (some ⟨A2, 0, none⟩), .pointer (some ⟨A3, 0, none⟩)]) ∧ RgC w w' p A1 A2 A3 ln hn lo hi := by
 have hmf : ∀ (fn : Fn) (first cap : Array Value) (w : World), (Instr.makeFunc fn first cap).run Tryz.prog w = .ok (.func fn first cap) w := fun _ _ _ _ => rfl
 have CL := hid_intro (fun (W : World) (h : w.grownBy W none) => clone_own la ln lc lo W (hlo.keptN h) h1)
 have CH := hid_intro (fun (W : World) (h : w.grownBy W none) => clone_own ha hn hc hi W (hhi.keptN h) h2)
 clear hlo hhi
 obtain ⟨W0, hW0⟩ : ∃ W0, ((w.alloc (.cells #[.pointer (some ⟨p, 0, none⟩)] 25)).alloc (.cells #[.slice la ln lc] 23)).alloc (.cells #[.slice ha hn hc] 23) = W0 := ⟨_, rfl⟩
 have g0 : w.grownBy W0 none := by rw [← hW0]; exact grown_al (grown_al (grown_al (World.grownBy.refl _ _) _) _) _
 have e1 : W0.cell? ⟨w.heap.size, 0, none⟩ = some (.pointer (some ⟨p, 0, none⟩)) := by rw [← hW0]; exact cell_heap (heap_old (heap_old (heap_at0 w _ _))) rfl
 have x2 : W0.heap[w.heap.size + 1]? = some (.cells #[.slice la ln lc] 23 (0, 0)) := by rw [← hW0]; exact heap_old (heap_at1 w _ _ _)
 have x3 : W0.heap[w.heap.size + 1 + 1]? = some (.cells #[.slice ha hn hc] 23 (0, 0)) := by rw [← hW0]; exact heap_at2 w _ _ _ _
 have e2 : W0.cell? ⟨w.heap.size + 1, 0, none⟩ = some (.slice la ln lc) := cell_heap x2 rfl
 have e3 : W0.cell? ⟨w.heap.size + 1 + 1, 0, none⟩ = some (.slice ha hn hc) := cell_heap x3 rfl
 have X2 := hid_intro x2
 have X3 := hid_intro x3
 clear x2 x3
 have hz0 : W0.heap.size = w.heap.size + 3 := by rw [← hW0]; simp
 have G0 := hid_intro g0
 clear g0
 go_enter Tryz.func14, Tryz.ntmps14
 go_upto_region 1 with fail
 clear hW0
 have f1 := (Qt.refl W0).drew.grown none
 have G1 := hid_intro (grown_trans G0.out f1)
 have GD := hid_intro f1
 obtain ⟨s, hs⟩ : ∃ s, w.heap.size = s := ⟨_, rfl⟩
 rw [hs] at e1 e2 e3 hz0 X2 X3 ⊢
 have HS := hid_intro hs
 clear f1 hs
 go_region_with (first
  | (go_at_call_of 45 (Value.slice la ln lc); refine (CL.out _ G1.out).mono ?_; rintro en w5 ⟨a5, c5, rfl, ho5, hg5⟩; have O5 := hid_intro ho5; have G5 := hid_intro (grown_trans GD.out hg5); have q2 := G5.out.cell e2 (by simp); have q3 := G5.out.cell e3 (by simp); clear ho5 hg5)
  | (go_at_call_of 45 (Value.slice ha hn hc); refine (CH.out _ (grown_trans G0.out G5.out)).mono ?_; rintro en w6 ⟨a6, c6, rfl, ho6, hg6⟩; have O6 := hid_intro ho6; have G56 := hid_intro hg6; have G6 := hid_intro (grown_trans G5.out hg6); have r2 := G6.out.cell e2 (by simp); have r3 := G6.out.cell e3 (by simp); have z2 := frozen_of_row w6 (s + 1) 0 _ _ ((FrT.of G6.out).keep _ _ _ _ (by decide) X2.out); have z3 := frozen_of_row w6 (s + 1 + 1) 0 _ _ ((FrT.of G6.out).keep _ _ _ _ (by decide) X3.out); clear ho6 hg6))
 all_goals
  have hz5 := G5.out.size
  have o5 : w6.ownsRow (s + 3) 5 1 (.slice a5 ln c5) ln (lo.map (Value.int .u8)) := own_low (O5.out.kept G56.out (Classical.em _)) (by show s + 3 ≤ W0.heap.size; omega)
  have o6 : w6.ownsRow (s + 3) 5 1 (.slice a6 hn c6) hn (hi.map (Value.int .u8)) := own_low O6.out (by omega)
  have RB := hid_intro (RgC.mk' (p := p) (grown_trans G0.out G6.out) HS.out.symm (G6.out.cell e1 (by simp)) (by rw [r2]; rfl) (by show (w6.cell? ⟨s + 1 + 1, 0, none⟩).isSome = true; rw [r3]; rfl) o5 o6).1
  clear o5 o6
  go_wp2
  go_ret
  exact ⟨_, _, _, rfl, RB.out⟩
end Go.Proofs.YtoecgpckkodmcaaGreat
namespace Go.Proofs.YtoecgpckkodmcaaGreat
open Go.RowKit Go.Shelf
attribute [local go_sem] Oper.semAt_some
structure GaZ (w : World) (B0 B1 B2 B3 n0 : Nat) (n : Int) (m : Nat) (pre : List PgT) (W : World) : Prop where
 li : W.heap[B0]? = some (.cells #[.int .i64 n] 3 (0, 0))
 ra : W.heap[B1]? = some (.cells #[.slice none 0 0] 26 (0, 0))
 rb : W.heap[B2]? = some (.cells #[.bool false] 4 (0, 0))
 bx : ∃ v es, W.heap[B3]? = some (.cells #[v] 26 (0, 0)) ∧ W.ownsRow m 38 2 v pre.length es.flatten ∧ PoW W m es (pre.map fun x => x.2.2)
 ce : w.grownBy W none
 sz : m ≤ W.heap.size
 nm : n0 ≤ m
theorem GaZ.cef {w : World} {B0 B1 B2 B3 n0 : Nat} {n : Int} {m : Nat} {pre : List PgT} {W W' : World} (h : GaZ w B0 B1 B2 B3 n0 n m pre W) (hc : CeF W W') (hg : w.grownBy W' none) (hs : W.heap.size ≤ W'.heap.size) : GaZ w B0 B1 B2 B3 n0 n m pre W' := by
 obtain ⟨v, es, h1, h2, h3⟩ := h.bx
 exact ⟨hc _ _ _ _ h.li, hc _ _ _ _ h.ra, hc _ _ _ _ h.rb, ⟨v, es, hc _ _ _ _ h1, own_cef h2 hc, h3.same fun b _ ht => tg_same (by decide) hc.frt ht⟩, hg, Nat.le_trans h.sz hs, h.nm⟩
theorem GaZ.fin {w W : World} {B0 B1 B2 B3 n0 m D : Nat} {n : Int} {pre : List PgT} {v : Value} {es : List (List Value)} (h : GaZ w B0 B1 B2 B3 n0 n m pre W) (ho : W.ownsRow m 38 2 v pre.length es.flatten) (hp : PoW W m es (pre.map fun x => x.2.2)) (hB : B0 = w.heap.size ∧ B1 = B0 + 1 ∧ B2 = B1 + 1 ∧ B3 = B2 + 1 ∧ B3 < n0) (hK : W.heap[D]? = some (.deferred (some []))) (hD : w.heap.size ≤ D) :
  ∃ a c, v = .slice a pre.length c ∧ MpW (((W.setCell ⟨B1, 0, none⟩ v).setCell ⟨B2, 0, none⟩ (.bool true)).putObj D (.deferred none)) a pre.length c (pre.map fun x => x.2.2) ∧ w.grownBy (((W.setCell ⟨B1, 0, none⟩ v).setCell ⟨B2, 0, none⟩ (.bool true)).putObj D (.deferred none)) none ∧
   (((W.setCell ⟨B1, 0, none⟩ v).setCell ⟨B2, 0, none⟩ (.bool true)).putObj D (.deferred none)).cell? ⟨B1, 0, none⟩ = some v ∧ (((W.setCell ⟨B1, 0, none⟩ v).setCell ⟨B2, 0, none⟩ (.bool true)).putObj D (.deferred none)).cell? ⟨B2, 0, none⟩ = some (.bool true) ∧ ((W.setCell ⟨B1, 0, none⟩ v).setCell ⟨B2, 0, none⟩ (.bool true)).heap[D]? = some (.deferred (some [])) := by
 have hn := h.nm
 have nd : ∀ b cs t z, W.heap[b]? = some (.cells cs t z) → b ≠ D := fun b cs t z e e2 => by subst e2; rw [hK] at e; cases e
 have s2 : ∀ b, b ≠ B1 → b ≠ B2 → ((W.setCell ⟨B1, 0, none⟩ v).setCell ⟨B2, 0, none⟩ (.bool true)).heap[b]? = W.heap[b]? := fun b h1 h2 => (Below.heap_setCell _ ⟨B2, 0, none⟩ _ b (by exact h2)).trans (Below.heap_setCell _ ⟨B1, 0, none⟩ _ b (by exact h1))
 have s3 : ∀ b cs t z, W.heap[b]? = some (.cells cs t z) → b ≠ B1 → b ≠ B2 → (((W.setCell ⟨B1, 0, none⟩ v).setCell ⟨B2, 0, none⟩ (.bool true)).putObj D (.deferred none)).heap[b]? = W.heap[b]? := fun b cs t z e h1 h2 => (World.putObj_heap_other (nd b cs t z e)).trans (s2 b h1 h2)
 have o2 := own_blk (w' := ((W.setCell ⟨B1, 0, none⟩ v).setCell ⟨B2, 0, none⟩ (.bool true)).putObj D (.deferred none)) ho fun i e ht => by
  obtain ⟨_, _, q⟩ := ht
  have := (own_lt10 ho e).1
  exact s3 i _ _ _ q (by omega) (by omega)
 have p2 : PoW (((W.setCell ⟨B1, 0, none⟩ v).setCell ⟨B2, 0, none⟩ (.bool true)).putObj D (.deferred none)) m es (pre.map fun x => x.2.2) := hp.same fun b h1 ht => by
  obtain ⟨_, _, q⟩ := ht
  exact s3 b _ _ _ q (by omega) (by omega)
 obtain ⟨a, c, e, hm⟩ := MpW.of o2 p2.ps (by simp)
 have dB1 := nd _ _ _ _ h.ra
 have dB2 := nd _ _ _ _ h.rb
 refine ⟨a, c, e, hm, gr_put (gr_set (gr_set h.ce 0 _ (by omega)) 0 _ (by omega)) _ hD, ?_, ?_, ?_⟩
 ·have k1 := heap_setCell_same W B1 0 _ _ v h.ra
  have k2 : (((W.setCell ⟨B1, 0, none⟩ v).setCell ⟨B2, 0, none⟩ (.bool true)).putObj D (.deferred none)).heap[B1]? = some (.cells (#[.slice none 0 0].setIfInBounds 0 v) 26 (0, 0)) := (World.putObj_heap_other dB1).trans ((Below.heap_setCell _ ⟨B2, 0, none⟩ _ B1 (by show B1 ≠ B2; omega)).trans k1)
  exact cell_heap k2 rfl
 ·have k0 : (W.setCell ⟨B1, 0, none⟩ v).heap[B2]? = some (.cells #[.bool false] 4 (0, 0)) := (Below.heap_setCell _ ⟨B1, 0, none⟩ _ B2 (by show B2 ≠ B1; omega)).trans h.rb
  have k1 := heap_setCell_same _ B2 0 _ _ (.bool true) k0
  exact cell_heap ((World.putObj_heap_other dB2).trans k1) rfl
 ·exact (s2 D (fun e => dB1 e.symm) (fun e => dB2 e.symm)).trans hK
set_option maxHeartbeats 16000000 in
set_option maxRecDepth 100000 in
theorem gather_nil {gf : Nat} {lb : Array Value} {w0 : World} (n : Int) (N : Nat) (w : World) (eg : ∀ args w, (callFunc gf args).run Tryz.prog w = .ok (.enter gf args) w)
  (hseq : SeqW Fence.wide 4 Tryz.prog gf lb encP blkP PxP (fun xs => xs.map (fun x => x.2.2) = []) (fun pre => pre.map (fun x => x.2.2) <+: []) N w0) (hb0 : Below w0.heap.size w0 w) :
  Calls Tryz.prog 20 #[.func (.func gf) #[] lb, .int .i64 n] w fun en w' => ∃ a k c, en = .returned (.tuple #[.slice a k c, .bool true]) ∧ MpW w' a k c [] ∧ w.grownBy w' none := by
 obtain ⟨W0, hW0⟩ : ∃ W0, (((w.alloc (.cells #[.int .i64 n] 3)).alloc (.cells #[.slice none 0 0] 26)).alloc (.cells #[.bool false] 4)).alloc (.cells #[.slice none 0 0] 26) = W0 := ⟨_, rfl⟩
 have g0 : w.grownBy W0 none := by rw [← hW0]; exact grown_al (grown_al (grown_al (grown_al (World.grownBy.refl _ _) _) _) _) _
 have x1 : W0.heap[w.heap.size]? = some (.cells #[.int .i64 n] 3 (0, 0)) := by rw [← hW0]; exact heap_old (heap_old (heap_old (heap_at0 w _ _)))
 have x2 : W0.heap[w.heap.size + 1]? = some (.cells #[.slice none 0 0] 26 (0, 0)) := by rw [← hW0]; exact heap_old (heap_old (heap_at1 w _ _ _))
 have x3 : W0.heap[w.heap.size + 2]? = some (.cells #[.bool false] 4 (0, 0)) := by rw [← hW0]; exact heap_old (heap_at2 w _ _ _ _)
 have x4 : W0.heap[w.heap.size + 3]? = some (.cells #[.slice none 0 0] 26 (0, 0)) := by
  rw [← hW0]
  have := heap_at0 (((w.alloc (.cells #[.int .i64 n] 3)).alloc (.cells #[.slice none 0 0] 26)).alloc (.cells #[.bool false] 4)) #[.slice none 0 0] 26
  simpa using this
 have hz0 : W0.heap.size = w.heap.size + 4 := by rw [← hW0]; simp
 have hb1 : Below w0.heap.size w0 W0 := hb0.grown g0 hb0.size (fun k e => by cases e)
 refine (callsIn_wide (n := 5)).1 ?_
 refine callsIn_of_wp_marks Tryz.func20 rfl trivial ?_ rfl
 simp only [Tryz.ntmps20, List.size_toArray, List.length_cons, List.length_nil, Nat.reduceAdd, Nat.reduceSub, Array.replicate_succ, Array.replicate_zero, List.push_toArray, List.append_toArray, List.nil_append, List.cons_append]
 have HNF := eql_nilf gf lb
 gi_wp2
 clear HNF hW0
 obtain ⟨B0, hB0⟩ : ∃ B0, w.heap.size = B0 := ⟨_, rfl⟩
 rw [hB0] at x1 x2 x3 x4 hz0 ⊢
 obtain ⟨B1, hB1⟩ : ∃ B1, B0 + 1 = B1 := ⟨_, rfl⟩
 rw [hB1] at x2 ⊢
 obtain ⟨B2, hB2⟩ : ∃ B2, B1 + 1 = B2 := ⟨_, rfl⟩
 rw [show B0 + 2 = B2 by omega] at x3
 rw [hB2]
 obtain ⟨B3, hB3⟩ : ∃ B3, B2 + 1 = B3 := ⟨_, rfl⟩
 rw [show B0 + 3 = B3 by omega] at x4
 rw [hB3]
 have hBB : Hid (B0 = w.heap.size ∧ B1 = B0 + 1 ∧ B2 = B1 + 1 ∧ B3 = B2 + 1 ∧ B3 < W0.heap.size + 2) := by show _ ∧ _; omega
 have hB9 : B3 < W0.heap.size + 2 := hBB.out.2.2.2.2
 clear hB0 hB1 hB2 hB3 hz0
 refine range_walk (n := 5) rfl (by decide) (gf := gf) (lb := lb) rfl trivial eg hseq px_kept hb1 (fun _ => rfl)
  (fun m pre W => GaZ w B0 B1 B2 B3 (W0.heap.size + 2) n m pre W)
  (fun cd m pre W => False)
  (fun m pre A B row h hg hr => h.cef (CeF.turn hg (fun r e => (hr r e).2)) (gr_turn h.ce hg (fun r e => by have := (hr r e).1; have := g0.size; omega)) hg.size)
  (fun cd m pre A B row h hg hr => h)
  (fun m W2 hg hm hz => ⟨CeF.of hg _ _ _ _ x1, CeF.of hg _ _ _ _ x2, CeF.of hg _ _ _ _ x3, ⟨.slice none 0 0, [], CeF.of hg _ _ _ _ x4, ⟨rfl, .inl ⟨rfl, rfl⟩⟩, PoW.nil _ _⟩, grown_trans g0 hg, by omega, hm⟩)
  (fun x => { tmps := List.toArray ((.func (.func gf) #[] lb) :: (.int .i64 n) :: (undef) :: (.pointer (some ⟨B0, 0, none⟩)) :: (.pointer (some ⟨B1, 0, none⟩)) :: (.pointer (some ⟨B2, 0, none⟩)) :: (.pointer (some ⟨B3, 0, none⟩)) :: (x.1) :: (x.2.1) :: (undef) :: (undef) :: (.func (.func gf) #[] lb) :: (.bool false) :: (.func (.func gf) #[] lb) :: (x.1) :: (x.2.1) :: (undef) :: (undef) :: (undef) :: (undef) :: (undef) :: (undef) :: (undef) :: (undef) :: (undef) :: (undef) :: (undef) :: (undef) :: (undef) :: (undef) :: (undef) :: (undef) :: (undef) :: (undef) :: (undef) :: (undef) :: (undef) :: (undef) :: (undef) :: (undef) :: (undef) :: (undef) :: (undef) :: (undef) :: (undef) :: (undef) :: (undef) :: (undef) :: (undef) :: (undef) :: (undef) :: (undef) :: []), defers := [] }) ?assign ?body ?done ?stop
 case assign =>
  intro l x W K hK
  simp only [encP]
  gi_wp2
  exact hK
 case body =>
  rintro l m pre x W hT hm hpx _ hsp
  have h1 := hsp.length_le
  simp at h1
 case done =>
  rintro D m xs W hD hSx hT hK
  obtain ⟨v, es, y3, hown, hpo⟩ := hT.bx
  obtain ⟨la, lc, hv⟩ := own_shape10 hown
  subst hv
  have d3 := cell_heap (i := 0) y3 rfl
  have d1 := cell_heap (i := 0) hT.ra rfl
  have d2 := cell_heap (i := 0) hT.rb rfl
  have z1 := frozen_of_row W B1 0 _ _ hT.ra
  have z2 := frozen_of_row W B2 0 _ _ hT.rb
  obtain ⟨a9, c9, e9, q1, q2, q3, q4, q5⟩ := hT.fin hown hpo hBB.out hK (by have := g0.size; omega)
  have hL : xs.map (fun x => x.2.2) = [] := hSx
  rw [hL] at q1
  obtain ⟨k, hk⟩ : ∃ k, xs.length = k := ⟨_, rfl⟩
  rw [hk] at d3 q1 q2 q3 q4 q5 e9
  injection e9 with e9 _ e10
  subst e9 e10
  have Q1 := hid_intro q1
  have Q2 := hid_intro q2
  have Q3 := hid_intro q3
  have Q4 := hid_intro q4
  have Q5 := hid_intro q5
  have hne1 : ¬ B2 = B1 := by have := hBB.out; omega
  have hne2 : ¬ B1 = B2 := by have := hBB.out; omega
  clear hT hown hpo q1 q2 q3 q4 q5 hL
  gi_wp2
  refine ⟨by simp, .inl ⟨_, _, rfl, run_takeDeferred Q5.out, ?_⟩⟩
  exact ⟨_, results_two rfl _ _ B1 B2 _ _ rfl Q3.out rfl Q4.out, _, _, _, rfl, Q1.out, Q2.out⟩
 case stop =>
  rintro D m cd pre W hD hSp h hK
  exact h.elim
end Go.Proofs.YtoecgpckkodmcaaGreat
namespace Go.Proofs.YtoecgpckkodmcaaGreat
open Go.RowKit
theorem rangeK0 {t : Option TrT} {L : List PrT} (hG : GwT 400 t L) {p A1 A2 A3 ln hn : Nat} {lo hi : List Int} {w1 : World} (hr : RgK w1 p A1 A2 A3 ln hn lo hi) (ht : TreeT w1 p t) (btl : Bt lo) (bth : Bt hi) (h0 : withinT L lo hi = []) (n : Int) :
  Calls Tryz.prog 20 #[.func (.func 46) #[] #[.pointer (some ⟨A1, 0, none⟩), .pointer (some ⟨A2, 0, none⟩), .pointer (some ⟨A3, 0, none⟩)], .int .i64 n] w1 fun en w' => GatP w1 [] en w' := by
 obtain ⟨a2, c2, y2, b2⟩ := hr.k2
 obtain ⟨a3, c3, y3, b3⟩ := hr.k3
 have hfl := hG.fl
 have hs := range1_seq 4 t p A1 A2 A3 a2 ln c2 lo a3 hn c3 hi w1 hr.k1 y2 y3 ht (hG.walk (Nat.le_refl _)) b2 btl b3 bth
 rw [hfl, h0] at hs
 exact gather_nil n _ w1 (enters_of Tryz.func46 (by kernel_rfl) rfl) hs (Below.refl _ _)
theorem backK0 {t : Option TrT} {L : List PrT} (hG : GwT 400 t L) {p A1 A2 A3 ln hn : Nat} {lo hi : List Int} {w1 : World} (hr : RgK w1 p A1 A2 A3 ln hn lo hi) (ht : TreeT w1 p t) (btl : Bt lo) (bth : Bt hi) (h0 : withinT L lo hi = []) (n : Int) :
  Calls Tryz.prog 20 #[.func (.func 48) #[] #[.pointer (some ⟨A1, 0, none⟩), .pointer (some ⟨A2, 0, none⟩), .pointer (some ⟨A3, 0, none⟩)], .int .i64 n] w1 fun en w' => GatP w1 [] en w' := by
 obtain ⟨a2, c2, y2, b2⟩ := hr.k2
 obtain ⟨a3, c3, y3, b3⟩ := hr.k3
 have hfl := hG.fl
 have hs := back1_seq 4 (by decide) t p A1 A2 A3 a2 ln c2 lo a3 hn c3 hi w1 hr.k1 y2 y3 ht (hG.walk (Nat.le_refl _)) b2 btl b3 bth
 rw [hfl, h0, List.reverse_nil] at hs
 exact gather_nil n _ w1 (enters_of Tryz.func48 (by kernel_rfl) rfl) hs (Below.refl _ _)
set_option maxHeartbeats 8000000 in
set_option maxRecDepth 100000 in
theorem refBack11 (a : Option Addr) (n c : Nat) (L : List PrT) (la : Option Addr) (ln lc : Nat) (lo : List Int) (ha : Option Addr) (hn hc : Nat) (hi : List Int) (w : World) (hl : MpW w a n c L) (hlo : Byt w la ln lc lo) (hhi : Byt w ha hn hc hi) (bl : Bt lo) (bh : Bt hi) (bL : ∀ p ∈ L, Bt p.key) (hs : Srt L) (h0 : n ≤ 100000) :
  Calls Tryz.prog 18 #[.slice a n c, .slice la ln lc, .slice ha hn hc] w fun en w' => DoneP w (withinT L lo hi).reverse en w' := by
 obtain ⟨ip, hip, hp0, hp1, hp2⟩ := info_parts info_pair10
 have RC := hid_intro (refRange11 a n c L la ln lc lo ha hn hc hi w hl hlo hhi bl bh bL hs h0)
 have hwl := (within_sub L lo hi).length_le
 have hl1 := hl.1
 clear hl hlo hhi bL hs
 generalize withinT L lo hi = Q at *
 go_enter Tryz.func18, Tryz.ntmps18
 go_wp2_with fail
 refine RC.out.mono ?_
 rintro en w1 ⟨ra, N, rc, rfl, hg1, hm1⟩
 have hQN := hm1.1
 have HM := hid_intro hm1
 have G1 := hid_intro hg1
 have hN : N ≤ 100000 := by omega
 have HQ := hid_intro hQN
 obtain ⟨I0, hI0⟩ : ∃ I0 : Int, (N : Int) - 1 = I0 := ⟨_, rfl⟩
 have w0 : IntKind.i64.wrap ((N : Int) - 1) = I0 := by rw [IntKind.wrap_i64]; omega
 have HI0 := hid_intro hI0
 clear hm1 hg1 RC hwl hl1 hI0 hQN
 go_wp2_with fail
 go_loopw [8, 9] (fun s8 s9 wr => ∃ (k : Nat) (es : List (List Value)), k ≤ N ∧ (∃ I, s9 = .int .i64 I ∧ I = (N : Int) - 1 - (k : Int)) ∧ w1.grownBy wr none ∧ wr.ownsRow w1.heap.size 38 2 s8 k es.flatten ∧ PsW w1 es (Q.reverse.take k)) (fun _ s9 _ => (intOf s9 + 1).toNat)
 case atStart => exact ⟨0, [], Nat.zero_le _, ⟨_, rfl, by have := HI0.out; omega⟩, World.grownBy.refl _ _, ⟨rfl, .inl ⟨rfl, rfl⟩⟩, PsW.nil _⟩
 case round =>
  obtain ⟨k, es, hk, ⟨I, rfl, hI⟩, hg, ho, hps⟩ := hrel
  obtain ⟨ra', rc', hv⟩ := own_shape10 ho
  subst hv
  have HG := hid_intro hg
  have HO := hid_intro ho
  have HPS := hid_intro hps
  have hsz := hg.size
  clear hg ho hps
  by_cases hlt : k < N
  ·obtain ⟨j, hj⟩ : ∃ j, N - 1 - k = j := ⟨_, rfl⟩
   have hIj : I = (j : Int) := by omega
   subst hIj
   obtain ⟨p, hp⟩ : ∃ p, Q[j]? = some p := ⟨_, List.getElem?_eq_getElem (by have := HQ.out; omega)⟩
   obtain ⟨b1, off1, ao1, c1, bo1, d1, rfl, q1, q2, q3, q5⟩ := HM.out.get hp
   have HR := hid_intro (rev_take (ps := Q) (k := k) (j := j) (by have := HQ.out; omega) hp)
   have x1 := HG.out.cell q1 (by simp)
   have x2 := HG.out.cell q2 (by simp)
   have HBP : Hid (BpW w1 [.slice ao1 p.key.length c1, .slice bo1 p.val.length d1] p) := ⟨_, _, _, _, rfl, q3, q5⟩
   have i0 : (0 : Int) ≤ (j : Int) := by omega
   have i1 : (j : Int) < (N : Int) := by omega
   have i2 : (j : Int) ≥ 0 := i0
   obtain ⟨J1, hJ1⟩ : ∃ J1 : Int, (j : Int) - 1 = J1 := ⟨_, rfl⟩
   have v1 : IntKind.i64.wrap ((j : Int) - 1) = J1 := by rw [IntKind.wrap_i64]; omega
   have HJ1 := hid_intro hJ1
   have HJJ := hid_intro hj
   obtain ⟨n1, hn1⟩ : ∃ n1, p.key.length = n1 := ⟨_, rfl⟩
   obtain ⟨m1, hm1⟩ : ∃ m1, p.val.length = m1 := ⟨_, rfl⟩
   rw [hn1] at x1 HBP
   rw [hm1] at x2 HBP
   clear q1 q2 q3 q5 hp hn1 hm1 hJ1 hj hI
   go_wp2_with (at_builtin; refine append_at10 rfl _ _ 26 rfl w1.heap.size 38 ip (.agg #[.slice none 0 0, .slice none 0 0]) 2 48 Tryz.underlying26 hip hp0 hp1 hp2 rfl (by decide) (.slice ra' k rc') k es.flatten rfl (HO.out.alloc _) ⟨wr.heap.size, 0, none⟩ 1 1 [.slice ao1 n1 c1, .slice bo1 m1 d1] rfl rfl ?c1 ?c2 ?c3 ?c4 ?c5 ?_)
   case c1 =>
    intro j u hu
    rw [Addr.add_lit, cell_of_row _ wr.heap.size _ _ _ (0, 0) (heap_alloc_new wr _), Nat.zero_add]
    simpa using hu
   case c2 => simp [Value.oneCell']
   case c3 => unfold maxLen; omega
   case c4 => omega
   case c5 => first | omega | (simp; omega)
   intro v9 w9 ho9 hg9 _
   have O9 := hid_intro ho9
   have G9 : Hid (w1.grownBy w9 none) := gr_turn (grown_al HG.out _) hg9 (fun r e => (own_lt10 HO.out e).1)
   clear ho9 hg9
   go_wp2_with fail
   go_roundw
   case rel => exact ⟨k + 1, es ++ [[.slice ao1 n1 c1, .slice bo1 m1 d1]], by omega, ⟨_, rfl, by have := HJ1.out; have := HJJ.out; omega⟩, G9.out, by simpa using O9.out, by rw [HR.out]; exact HPS.out.app (PsW.one HBP.out)⟩
   case measure => have := HJ1.out; simp [intOf]; omega
  ·have hin : k = N := by omega
   have hIn : I = -1 := by omega
   subst hIn
   have hta : Q.reverse.take k = Q.reverse := List.take_of_length_le (by rw [List.length_reverse]; have := HQ.out; omega)
   rw [hta] at HPS
   have M9 := hid_intro (MpW.of HO.out (HPS.out.cef (CeF.of HG.out)) (by rw [List.length_reverse]; have := HQ.out; omega))
   clear hI hin hta HO HPS
   go_wp2
   go_ret
   obtain ⟨a9, c9, e9, m9⟩ := M9.out
   exact ⟨a9, _, c9, by rw [← e9]; rfl, grown_trans G1.out HG.out, m9⟩
theorem place11 (x : Int) (n : Nat) (h : 0 < n) : ∃ (k : Nat) (y : Int), k < n ∧ Int.tmod x (n : Int) = y ∧ -(n : Int) < y ∧ y < (n : Int) ∧ Int.tmod (y + (n : Int)) (n : Int) = (k : Int) := by
 have h1 := Int.tmod_lt_of_pos x (show (0 : Int) < (n : Int) by omega)
 have h2 := Int.lt_tmod_of_pos x (show (0 : Int) < (n : Int) by omega)
 have h3 := Int.emod_nonneg (Int.tmod x n + n) (show (n : Int) ≠ 0 by omega)
 have h4 := Int.emod_lt_of_pos (Int.tmod x n + n) (show (0 : Int) < (n : Int) by omega)
 refine ⟨((Int.tmod x n + n) % n).toNat, _, by omega, rfl, h2, h1, ?_⟩
 rw [Int.tmod_eq_emod_of_nonneg (by omega)]
 omega
set_option maxHeartbeats 8000000 in
set_option maxRecDepth 100000 in
theorem goes11 (f : Value) (Q : List PrT) (w : World) (hF : ∀ (n : Nat) (W : World), 1 ≤ n → n ≤ 10000001 → w.grownBy W none → Calls Tryz.prog 20 #[f, .int .i64 (n : Nat)] W fun en w' => GatP W (Q.take n) en w') (hF0 : Q = [] → ∀ (n : Int) (W : World), w.grownBy W none → Calls Tryz.prog 20 #[f, .int .i64 n] W fun en w' => GatP W [] en w')
  (wa : Option Addr) (wn wc : Nat) (hw : MpW w wa wn wc Q) (stop : Int) (hn : wn ≤ 400) :
  Calls Tryz.prog 16 #[f, .slice wa wn wc, .int .i64 stop] w fun en w' => en = .returned (.bool true) ∧ w.grownBy w' none := by
 have HM := hid_intro hw
 have HQ := hid_intro hw.1
 have HF := hid_intro hF
 have HF0 := hid_intro hF0
 have hcap : wn ≤ wc := by obtain ⟨_, _, he, _⟩ := hw; exact he.cap
 clear hw hF hF0
 obtain ⟨N1, hN1⟩ : ∃ N1, wn + 1 = N1 := ⟨_, rfl⟩
 have a1 : (wn : Int) + 1 = (N1 : Int) := by omega
 have a2 : IntKind.i64.wrap (N1 : Int) = (N1 : Int) := by rw [IntKind.wrap_i64]; omega
 have HTA : Hid (Q.take N1 = Q) := List.take_of_length_le (by have := HQ.out; omega)
 have hN2 : 1 ≤ N1 ∧ N1 ≤ 10000001 := by omega
 clear hN1
 by_cases h0 : wn = 0
 ·have hQ0 : Q = [] := List.eq_nil_of_length_eq_zero (by have := HQ.out; omega)
  have z0 : ¬ (0 : Int) < (wn : Int) := by omega
  have z1 : ((wn : Int) == 0) = true := by rw [beq_iff_eq]; omega
  have HF1 := hid_intro (HF0.out hQ0)
  have HQE := hid_intro hQ0
  clear h0 hQ0
  go_enter Tryz.func16, Tryz.ntmps16
  go_wp2_with fail
  go_loopw [8] (fun si wr => ∃ i : Nat, i ≤ 2 ∧ si = .int .i64 (i : Nat) ∧ w.grownBy wr none) (fun si _ => 2 - (intOf si).toNat)
  case atStart => exact ⟨0, by omega, rfl, World.grownBy.refl _ _⟩
  case round =>
   obtain ⟨i, hi, rfl, hg⟩ := hrel
   have HG := hid_intro hg
   clear hg
   by_cases hlt : i < 2
   ·have i1 : (i : Int) < 2 := by omega
    go_wp2_with fail
    refine (HF.out N1 wr hN2.1 hN2.2 HG.out).mono ?_
    rintro en w2 ⟨xa, xk, xc, rfl, hm2, hg2⟩
    rw [HTA.out] at hm2
    have hxk : xk = wn := hm2.1.symm.trans HQ.out
    subst hxk
    have M2 := hid_intro hm2
    have G2 := hid_intro (grown_trans HG.out hg2)
    clear hg2 hm2
    go_wp2_with fail
    refine (HF1.out _ w2 G2.out).mono ?_
    rintro en w3 ⟨ya, yk, yc, rfl, hm3, hg3⟩
    have hyk : yk = 0 := hm3.1.symm
    subst hyk
    have G3 := hid_intro (grown_trans G2.out hg3)
    have SP := hid_intro (samePairs11 xa wa xk xc wc Q w3 (M2.out.cef (CeF.of hg3)) (HM.out.cef (CeF.of G3.out)) (by omega))
    clear hg3 hm3
    go_wp2_with fail
    refine SP.out.mono ?_
    rintro en w4 ⟨rfl, hg4⟩
    have G4 := hid_intro (grown_trans G3.out hg4)
    clear hg4 SP
    go_wp2_with fail
    go_roundw
    case rel => exact ⟨i + 1, by omega, by go_num, G4.out⟩
    case measure => simp [intOf]; omega
   ·have i1 : ¬ (i : Int) < 2 := by omega
    go_wp2_with fail
    go_ret
    exact ⟨rfl, HG.out⟩
 ·obtain ⟨s, y, hs, hy, hy1, hy2, hs2⟩ := place11 stop wn (by omega)
  have hs3 : (y + (wn : Int)) % (wn : Int) = (s : Int) := by rw [← hs2, Int.tmod_eq_emod_of_nonneg (by omega)]
  have hw1 : IntKind.i64.wrap (y + (wn : Int)) = y + (wn : Int) := by rw [IntKind.wrap_i64]; omega
  have y0 : (0 : Int) ≤ y + (wn : Int) := by omega
  have z0 : (0 : Int) < (wn : Int) := by omega
  have z1 : ((wn : Int) == 0) = false := by rw [beq_eq_false_iff_ne]; omega
  have z2 : ¬ (wn : Int) = 0 := by omega
  have z3 : ¬ wn = 0 := h0
  have z5 : decide (0 < wn) = true := decide_eq_true (by omega)
  have z6 : decide ((0 : Int) < (wn : Int)) = true := decide_eq_true z0
  have z7 : 0 < wn := by omega
  obtain ⟨S1, hS1⟩ : ∃ S1, s + 1 = S1 := ⟨_, rfl⟩
  have b1 : (s : Int) + 1 = (S1 : Int) := by omega
  have b2 : IntKind.i64.wrap (S1 : Int) = (S1 : Int) := by rw [IntKind.wrap_i64]; omega
  have b3 : (0 : Int) ≤ (S1 : Int) := by omega
  have b4 : (S1 : Int) ≤ (wc : Int) := by omega
  have hS2 : 1 ≤ S1 ∧ S1 ≤ 10000001 ∧ S1 ≤ wn := by omega
  clear hS1 h0
  go_enter Tryz.func16, Tryz.ntmps16
  go_wp2_with fail
  go_loopw [8] (fun si wr => ∃ i : Nat, i ≤ 2 ∧ si = .int .i64 (i : Nat) ∧ w.grownBy wr none) (fun si _ => 2 - (intOf si).toNat)
  case atStart => exact ⟨0, by omega, rfl, World.grownBy.refl _ _⟩
  case round =>
   obtain ⟨i, hi, rfl, hg⟩ := hrel
   have HG := hid_intro hg
   clear hg
   by_cases hlt : i < 2
   ·have i1 : (i : Int) < 2 := by omega
    go_wp2_with fail
    refine (HF.out N1 wr hN2.1 hN2.2 HG.out).mono ?_
    rintro en w2 ⟨xa, xk, xc, rfl, hm2, hg2⟩
    rw [HTA.out] at hm2
    have hxk : xk = wn := hm2.1.symm.trans HQ.out
    rw [hxk] at hm2 ⊢
    clear hxk
    have M2 := hid_intro hm2
    have G2 := hid_intro (grown_trans HG.out hg2)
    clear hg2 hm2
    go_wp2_with fail
    refine (HF.out S1 w2 hS2.1 hS2.2.1 G2.out).mono ?_
    rintro en w3 ⟨ya, yk, yc, rfl, hm3, hg3⟩
    have hyk : yk = S1 := by
     have h1 := hm3.1
     have h2 := HQ.out
     rw [List.length_take] at h1
     omega
    rw [hyk] at hm3 ⊢
    clear hyk
    have M3 := hid_intro hm3
    have G3 := hid_intro (grown_trans G2.out hg3)
    have SP := hid_intro (samePairs11 xa wa wn xc wc Q w3 (M2.out.cef (CeF.of hg3)) (HM.out.cef (CeF.of G3.out)) (by omega))
    clear hg3 hm3
    go_wp2_with fail
    refine SP.out.mono ?_
    rintro en w4 ⟨rfl, hg4⟩
    have G4 := hid_intro (grown_trans G3.out hg4)
    have HT : Hid (MpW w4 wa S1 wc (Q.take S1)) := by
     obtain ⟨h3, es, he, hp⟩ := HM.out.cef (CeF.of G4.out)
     exact ⟨by rw [List.length_take]; omega, es.take S1, he.take (by omega), hp.take S1⟩
    have SP2 := hid_intro (samePairs11 ya wa S1 yc wc (Q.take S1) w4 (M3.out.cef (CeF.of hg4)) HT.out (by omega))
    clear hg4 SP
    go_wp2_with fail
    refine SP2.out.mono ?_
    rintro en w5 ⟨rfl, hg5⟩
    have G5 := hid_intro (grown_trans G4.out hg5)
    clear hg5 SP2
    go_wp2_with fail
    go_roundw
    case rel => exact ⟨i + 1, by omega, by go_num, G5.out⟩
    case measure => simp [intOf]; omega
   ·have i1 : ¬ (i : Int) < 2 := by omega
    go_wp2_with fail
    go_ret
    exact ⟨rfl, HG.out⟩
end Go.Proofs.YtoecgpckkodmcaaGreat
