import Derived.Test.YtiljdhhfhjhhiaaDp6
namespace Go.Proofs.Ytiljdhhfhjhhiaa
open Go.RowKit Go.MuLone

theorem grown_two {w w1 w2 : World} {r r2 : Option Nat} (h1 : w.grownBy w1 r) (h2 : w1.grownBy w2 r2) (hr : ∀ k, r2 = some k → r = some k ∨ w.heap.size ≤ k) : w.grownBy w2 r :=
  ⟨h2.os.trans h1.os, h2.tape.trans h1.tape, h2.output.trans h1.output, Nat.le_trans h1.size h2.size, fun q hq hn => (h2.block q (Nat.lt_of_lt_of_le hq h1.size) (fun e => (hr q e.symm).elim (fun e' => hn e'.symm) (fun y => by omega))).trans (h1.block q hq hn)⟩

theorem owns_zero {w : World} {base g n cap : Nat} {xs : List Value} (h : w.ownsRow base 5 1 (.slice (some ⟨g, 0, none⟩) n cap) n xs) : w.ownsRow base 5 1 (.slice (some ⟨g, 0, none⟩) 0 cap) 0 (([] : List Int).map (Value.int .u8)) := by
  rcases h.2 with ⟨e, _⟩ | ⟨g', cap', cur, hv, a1, a2, a3, a4, a5, a6⟩
  · cases e
  · injection hv with e1 e2 e3
    injection e1 with e1
    injection e1 with e4
    subst e4 e3
    exact ⟨by simp, .inr ⟨g, cap, cur, rfl, a1, a2, Nat.zero_le _, a4, a5, by simp⟩⟩

theorem Pp.twoC {w0 w : World} {P B R : Nat} {F1 F2 : Nat → Prop} {v : Value} {zs : List Int} {s : Ds} (h : Pp w0 w P B R F1 F2 v zs s) : w.cell? ⟨P, 0, none⟩ = some (.pointer (some ⟨B, 0, none⟩)) ∧ w.cell? ⟨P, 1, none⟩ = some (.pointer (some ⟨R, 0, none⟩)) ∧ w.cell? ⟨P, 2, none⟩ = some v := ⟨h.c0, h.c1, h.c2⟩

theorem Ds.wa_i64 (s : Ds) (i : Int) (n : Nat) : -9223372036854775808 ≤ s.wa i n ∧ s.wa i n ≤ 9223372036854775807 := by
  unfold Ds.wa Ds.refuse Ds.ans
  repeat' split
  all_goals omega

def fillE (k : Nat) (zs : List Int) : List Int := List.replicate k 238 ++ zs.drop k
theorem fillE_len (k : Nat) (zs : List Int) (h : k ≤ zs.length) : (fillE k zs).length = zs.length := by simp [fillE]; omega
theorem fillE_set (k : Nat) (zs : List Int) (h : k < zs.length) : (fillE k zs).set k 238 = fillE (k + 1) zs := by
  unfold fillE
  rw [List.set_append_right _ _ (by simp), List.length_replicate, Nat.sub_self, List.drop_eq_getElem_cons h, List.set_cons_zero, List.replicate_succ', List.append_assoc]
  rfl

theorem Ow.owns {w : World} {g cap base : Nat} {zs : List Int} (h : Ow w g cap zs) (hb : base ≤ g) (n : Nat) (hn : n = zs.length) : w.ownsRow base 5 1 (.slice (some ⟨g, 0, none⟩) n cap) n (zs.map (Value.int .u8)) := by
  subst hn
  obtain ⟨cur, h1, h2, h3⟩ := h.ex
  refine ⟨by simp, .inr ⟨g, cap, cur, rfl, hb, h1, h.le, by have := h.max; unfold maxLen; omega, by simpa using h2, ?_⟩⟩
  refine List.ext_getElem? fun j => ?_
  rw [List.getElem?_take, Nat.mul_one]
  by_cases hj : j < zs.length
  · rw [if_pos hj, Array.getElem?_toList, h3 j hj]
    simp [List.getD, List.getElem?_eq_getElem hj]
  · rw [if_neg hj, List.getElem?_eq_none (by simpa using hj)]

set_option maxHeartbeats 16000000 in
set_option maxRecDepth 8000 in
theorem write12_any {w0 w : World} {P B R : Nat} {F1 F2 : Nat → Prop} {g cap : Nat} {zs : List Int} {s : Ds} (h : Pp w0 w P B R F1 F2 (.slice (some ⟨g, 0, none⟩) zs.length cap) zs s) (i : Int) (ao : Option Addr) (n c : Nat) (xs : List Int) (hb : Byt w ao n c xs) (bt : Bt xs) (hn : n ≤ 10000)
    (hao : ∀ ad, ao = some ad → 0 < n → ad.block < w.heap.size ∧ ad.block ≠ P ∧ ad.block ≠ g ∧ ¬ F1 ad.block ∧ ¬ F2 ad.block) (hd : s.done < 1099511627776) (hl : s.left < 9223372036854775808) :
    Calls Try.prog 35 #[.pointer (some ⟨P, 0, none⟩), .int .i64 i, .slice ao n c] w fun e w' => e = .returned (.bool true) ∧ (∃ F1' F2' g' cap' zs', Pp w0 w' P B R F1' F2' (.slice (some ⟨g', 0, none⟩) zs'.length cap') zs' (s.wrt i n xs)) ∧ ∀ k, k < w.heap.size → k ≠ P → k ≠ g → ¬ F1 k → ¬ F2 k → w'.heap[k]? = w.heap[k]? := by
  have HP := hid_intro h
  have HB := hid_intro hb
  have HA := hid_intro hao
  have HT := hid_intro bt
  have hcap : zs.length ≤ cap ∧ cap ≤ 9223372036854775807 := by
    rcases h.own.2 with ⟨e, _⟩ | ⟨g', cap', cur, hv, a1, a2, a3, a4, a5, a6⟩
    · cases e
    · injection hv with e1 e2 e3
      subst e3
      exact ⟨a3, by unfold maxLen at a4; omega⟩
  have O0 := hid_intro (owns_zero h.own)
  have c2 := h.c2
  have c0 := h.c0
  have c1 := h.c1
  have hlenx : xs.length = n := hb.len
  have hgs := h.gr.size
  clear h hb hao bt
  go_enter Try.func35, Try.ntmps35
  go_wp2_with (at_builtin; refine wpList_append_bytA rfl _ _ rfl w0.heap.size _ 0 [] rfl O0.out ao n c xs rfl HB.out (by omega) hgs ?_)
  intro v1 w1 ho1 hg1 hv1
  have O1 := hid_intro ho1
  have G1 := hid_intro hg1
  have V1 := hid_intro hv1
  have hs1 := hg1.size
  clear ho1 hg1 hv1 c0 c1 c2
  go_wp2_with (at_builtin; refine wpList_append_bytA rfl _ _ rfl w0.heap.size v1 n xs rfl (O1.out.alloc _) (some ⟨w1.heap.size, 0, none⟩) 2 2 [47, 11] rfl (Byt.lit w1 5 _ [47, 11] 2 rfl rfl) (by omega) (by simp; omega) ?_)
  intro v2 w2 ho2 hg2 hv2
  have ho2' : w2.ownsRow w0.heap.size 5 1 v2 (n + 2) ((xs ++ [47, 11]).map (Value.int .u8)) := by simpa using ho2
  have hlz : (xs ++ [47, 11]).length = n + 2 := by simp [hlenx]
  obtain ⟨g2, cap2, rfl, hgb, hgl, hgc⟩ := owns_shape ho2' (by omega)
  have hga : w.grownBy w2 (some g) := grown_two (grown_two G1.out (World.grownBy_alloc w1 (.cells #[.int .u8 47, .int .u8 11] 5) none) (fun k e => by cases e)) hg2 (fun k e => by
    rcases V1.out with x | x
    · rw [x] at e; exact .inl e
    · rw [x] at e; exact .inr (by have := Option.some.inj e; omega))
  have hvb : ∀ k, some g2 = some k → some g = some k ∨ w.heap.size ≤ k := fun k e => by
    have e' : (Value.slice (some ⟨g2, 0, none⟩) (n + 2) cap2).ownBlock = some k := e
    rcases hv2 with x | x
    · rw [x] at e'
      rcases V1.out with y | y
      · rw [y] at e'; exact .inl e'
      · rw [y] at e'; exact .inr (by have := Option.some.inj e'; omega)
    · rw [x] at e'; exact .inr (by have := Option.some.inj e'; omega)
  have hPl := HP.out.lt
  have hPb : w2.heap[P]? = w.heap[P]? := hga.block P hPl (fun e => HP.out.vp e.symm)
  have d2 : w2.cell? ⟨P, 2, none⟩ = some (.slice (some ⟨g, 0, none⟩) zs.length cap) := by rw [World.cell?_of_block hPb]; exact HP.out.c2
  have e2 : w2.frozen? ⟨P, 2, none⟩ = false := frozen_of_row w2 P 2 _ _ (hPb.trans HP.out.bx)
  have PP := hid_intro (HP.out.put (v1 := .slice (some ⟨g2, 0, none⟩) (n + 2) cap2) hga (zs1 := xs ++ [47, 11]) (by rw [hlz]; exact ho2') hvb)
  have GA := hid_intro hga
  have VB := hid_intro hvb
  have hs2 := hg2.size
  clear ho2 ho2' hg2 hv2 hga hvb hPb O1 G1 V1 O0
  go_wp2_with fail
  have HA3 : Hid (∀ ad, ao = some ad → 0 < n → ad.block < w2.heap.size ∧ ad.block ≠ P ∧ ad.block ≠ g2 ∧ ¬ F1 ad.block ∧ ¬ F2 ad.block) := fun ad e h0 => by
    obtain ⟨a1, a2, a3, a4, a5⟩ := HA.out ad e h0
    refine ⟨by have := GA.out.size; omega, a2, fun e' => ?_, a4, a5⟩
    rcases VB.out ad.block (by rw [e']) with x | x
    · exact a3 (Option.some.inj x).symm
    · omega
  have HB3 : Hid (Byt (w2.setCell ⟨P, 2, none⟩ (.slice (some ⟨g2, 0, none⟩) (n + 2) cap2)) ao n c xs) := (HB.out.kept GA.out (fun ad e h0 e' => (HA.out ad e h0).2.2.1 (Option.some.inj e'))).kept (grown_cell w2 P 2 _) (fun ad e h0 e' => (HA.out ad e h0).2.1 (Option.some.inj e'))
  have KX : Hid (∀ k, k < w.heap.size → k ≠ P → k ≠ g → k ≠ g2 ∧ k < (w2.setCell ⟨P, 2, none⟩ (.slice (some ⟨g2, 0, none⟩) (n + 2) cap2)).heap.size ∧ (w2.setCell ⟨P, 2, none⟩ (.slice (some ⟨g2, 0, none⟩) (n + 2) cap2)).heap[k]? = w.heap[k]?) := fun k h1 h2 h3 => by
    refine ⟨fun e => ?_, ?_, ?_⟩
    · rcases VB.out k (by rw [e]) with x | x
      · exact h3 (Option.some.inj x).symm
      · omega
    · have := GA.out.size; simp; omega
    · exact ((grown_cell w2 P 2 _).block k (by have := GA.out.size; omega) (fun e => h2 (Option.some.inj e))).trans (GA.out.block k h1 (fun e => h3 (Option.some.inj e)))
  have hW : w2.heap.size = (w2.setCell ⟨P, 2, none⟩ (.slice (some ⟨g2, 0, none⟩) (n + 2) cap2)).heap.size := by simp
  rw [hW] at HA3
  clear d2 e2 hW hgl
  generalize w2.setCell ⟨P, 2, none⟩ (.slice (some ⟨g2, 0, none⟩) (n + 2) cap2) = W3 at PP HB3 HA3 KX ⊢
  have P3 := hid_intro (PP.out.keptN ((Qt.refl W3).drew.grown none))
  have B3 := hid_intro (HB3.out.keptN ((Qt.refl W3).drew.grown none))
  have O3 := hid_intro (show Ow W3 g2 cap2 (xs ++ [47, 11]) from by have := PP.out.own; rw [hlz] at this; exact (Ow.of_owns this).1)
  have O3d := hid_intro (O3.out.keptN ((Qt.refl W3).drew.grown none))
  have hcap2 : cap2 ≤ 9223372036854775807 := O3.out.max
  have nF1 : ¬ F1 g2 := fun e => (PP.out.f1 g2 e).2.2.1 rfl
  have nF2 : ¬ F2 g2 := fun e => (PP.out.f2 g2 e).2.2 rfl
  have hgP : g2 ≠ P := fun e => PP.out.vp (by rw [e]; rfl)
  have NF := hid_intro (And.intro nF1 (And.intro nF2 hgP))
  have hnc : n ≤ cap2 := by omega
  have hnc' : (n : Int) ≤ (cap2 : Int) := by omega
  have c0 := PP.out.c0
  have c2 := PP.out.c2
  clear nF1 nF2 GA VB HB HA HP
  go_region_held3 (fun w' => w'.cell? ⟨P, 0, none⟩ = some (.pointer (some ⟨B, 0, none⟩)) ∧ w'.cell? ⟨P, 1, none⟩ = some (.pointer (some ⟨R, 0, none⟩)) ∧ w'.cell? ⟨P, 2, none⟩ = some (.slice (some ⟨g2, 0, none⟩) (n + 2) cap2)) (first | exact T4.out | exact P3.out.twoC | go_keep)
    (first | (go_at_call 18; refine (dz_write_any P3.out.dz i (some ⟨g2, 0, none⟩) n cap2 xs (O3d.out.part.byt n hlenx.symm) (fun ad e => by rw [← Option.some.inj e]; exact NF.out.1) HT.out hd hl).mono ?_; rintro e w4 ⟨rfl, F1', hi1, hz1, hk1⟩; have Z1 := hid_intro hz1; have K1 := hid_intro hk1; have I1 := hid_intro hi1; have T4 := hid_intro (show w4.cell? ⟨P, 0, none⟩ = some (.pointer (some ⟨B, 0, none⟩)) ∧ w4.cell? ⟨P, 1, none⟩ = some (.pointer (some ⟨R, 0, none⟩)) ∧ w4.cell? ⟨P, 2, none⟩ = some (.slice (some ⟨g2, 0, none⟩) (n + 2) cap2) from by have hb := hk1.block P P3.out.lt (fun e => (P3.out.f1 P e).2.1 rfl); rw [World.cell?_of_block (a := ⟨P, 0, none⟩) hb, World.cell?_of_block (a := ⟨P, 1, none⟩) hb, World.cell?_of_block (a := ⟨P, 2, none⟩) hb]; exact P3.out.twoC); clear hz1 hk1 hi1 c0 c2))
  all_goals
    have sz1 := K1.out.size
    have HA4 : Hid (∀ ad, ao = some ad → 0 < n → some ad.block ≠ some g2 ∧ ¬ F2 ad.block) := fun ad e h0 => ⟨fun e' => (HA3.out ad e h0).2.2.1 (Option.some.inj e'), (HA3.out ad e h0).2.2.2.2⟩
    have B4 := hid_intro (show Byt w4 ao n c xs from ⟨B3.out.len, B3.out.nil, fun ad e j u hu => by
      have hbk : (ad.add j).block = ad.block := by unfold Addr.add; split <;> rfl
      have h0 : 0 < n := by have := (List.getElem?_eq_some_iff.1 hu).1; rw [List.length_map] at this; omega
      exact (World.cell?_of_block (w := W3.drew) (w' := w4) (by rw [hbk]; exact K1.out.block ad.block (by have := (HA3.out ad e h0).1; simpa using this) (fun e' => (HA3.out ad e h0).2.2.2.1 e'))).trans (B3.out.cells ad e j u hu)⟩)
    have O4 := hid_intro (O3d.out.same (K1.out.block g2 O3d.out.lt NF.out.1))
    have x1 : w4.cell? ⟨g2, n, none⟩ = some (.int .u8 47) := by rw [O4.out.cell (by omega)]; simp [List.getD, ← hlenx]
    have x2 : w4.cell? ⟨g2, n + 1, none⟩ = some (.int .u8 11) := by rw [O4.out.cell (by omega)]; simp [List.getD, ← hlenx]
    have c2 := T4.out.2.2
    have hlt1 : (n : Int) < ((n + 2 : Nat) : Int) := by omega
    have hlt2 : (n : Int) + 1 < ((n + 2 : Nat) : Int) := by omega
    go_wp2_with fail
    refine (same_yes (some ⟨g2, 0, none⟩) ao n n cap2 c xs xs w4 (O4.out.part.byt n hlenx.symm) B4.out rfl).mono ?_
    rintro e w5 ⟨rfl, hw5⟩
    rw [hw5]
    clear hw5
    clear w5
    go_wp2_with fail
    clear x1 x2 hlt1 hlt2 c2
    go_loopw [9] (fun si wr => ∃ k : Nat, k ≤ n + 2 ∧ si = .int .i64 (k : Int) ∧ Ow wr g2 cap2 (fillE k (xs ++ [47, 11])) ∧ w4.grownBy wr (some g2)) (fun si _ => n + 2 - (intOf si).toNat)
    case atStart => exact ⟨0, Nat.zero_le _, rfl, by simpa [fillE] using O4.out, World.grownBy.refl _ _⟩
    case round =>
      obtain ⟨k, hk, rfl, how, hg⟩ := hrel
      have hPb : wr.heap[P]? = w4.heap[P]? := hg.block P (by have := P3.out.lt; have := K1.out.size; omega) (fun e => NF.out.2.2 (Option.some.inj e).symm)
      have c2 : wr.cell? ⟨P, 2, none⟩ = some (.slice (some ⟨g2, 0, none⟩) (n + 2) cap2) := by rw [World.cell?_of_block hPb]; exact T4.out.2.2
      have HO := hid_intro how
      have HG := hid_intro hg
      have hfl := fillE_len k (xs ++ [47, 11]) (by omega)
      by_cases hlt : k < n + 2
      · have hlt' : (k : Int) < ((n + 2 : Nat) : Int) := by omega
        have x1 := how.cell (j := k) (by omega)
        have x2 := how.frozen k
        have HW := hid_intro (how.set k 238 (by omega))
        have HGW := hid_intro (grown_trans hg (grown_cell wr g2 k (.int .u8 238)))
        clear how hg hPb
        go_wp2
        go_roundw
        case rel => exact ⟨k + 1, by omega, by go_num, by rw [← fillE_set k _ (by omega)]; exact HW.out, HGW.out⟩
        case measure => simp [intOf]; omega
      · have hlt' : ¬ (k : Int) < ((n + 2 : Nat) : Int) := by omega
        have hkn : k = n + 2 := by omega
        have c1 : wr.cell? ⟨P, 1, none⟩ = some (.pointer (some ⟨R, 0, none⟩)) := by rw [World.cell?_of_block hPb]; exact T4.out.2.1
        have RZ := hid_intro ((P3.out.rz.kp K1.out (fun q e1 e2 => (P3.out.f1 q e2).2.2.2 e1)).kept hg (fun q e => by rw [← Option.some.inj e]; exact NF.out.2.1))
        have BR := hid_intro (B4.out.kept hg (fun ad e h0 => (HA4.out ad e h0).1))
        clear how hg hPb
        go_wp2_with fail
        refine (rz_write_any RZ.out i ao n c xs BR.out (fun ad e h0 => (HA4.out ad e h0).2) HT.out hd hl).mono ?_
        rintro e w6 ⟨rfl, F2', hi2, hz2, hk2⟩
        have FIN := hid_intro (P3.out.both3 I1.out Z1.out K1.out HG.out (fun q e => by
          rw [← Option.some.inj e]
          exact ⟨hgb, NF.out.2.2, fun e' => (I1.out g2 e').elim NF.out.1 (fun y => by have := O3d.out.lt; omega), NF.out.2.1⟩) (zs' := fillE k (xs ++ [47, 11])) (HO.out.owns hgb (n + 2) (by omega) |> fun x => by rw [hfl, hlz]; exact x) hi2 hz2 hk2)
        have KF : Hid (∀ q, q < w.heap.size → q ≠ P → q ≠ g → ¬ F1 q → ¬ F2 q → w6.heap[q]? = w.heap[q]?) := fun q h1 h2 h3 h4 h5 => by
          obtain ⟨b1, b2, b3⟩ := KX.out q h1 h2 h3
          have z1 := K1.out.size
          have z2 := HG.out.size
          have z0 : W3.drew.heap.size = W3.heap.size := by simp
          have y1 : w4.heap[q]? = W3.heap[q]? := K1.out.block q (by omega) h4
          have y2 : wr.heap[q]? = w4.heap[q]? := HG.out.block q (by omega) (fun e => b1 (Option.some.inj e))
          rw [hk2.block q (by omega) h5, y2, y1, b3]
        clear hi2 hz2 hk2
        go_wp2_with fail
        refine (num_12 _ _ (s.wa_i64 i n)).mono ?_
        rintro e w7 ⟨rfl, rfl⟩
        go_wp2
        go_ret
        refine ⟨rfl, ⟨_, _, g2, cap2, _, by rw [hfl, hlz]; exact FIN.out⟩, fun q h1 h2 h3 h4 h5 => ?_⟩
        exact KF.out q h1 h2 h3 h4 h5
end Go.Proofs.Ytiljdhhfhjhhiaa
