import Derived.Test.YtmdljegaggjnhaaCh3
import Derived.Test.YtmdljegaggjnhaaCh5
namespace Go.Proofs.Ytmdljegaggjnhaa
open Go.RowKit

theorem info_int6 : (Try.prog.info? 3).map (fun i => (i.zero, i.size, i.bytes)) = some (some (.int .i64 0), 1, 8) := by kernel_rfl
/-- The block g holds just the numbers xs. -/
def Ri (w : World) (g : Nat) (xs : List Int) : Prop := w.heap[g]? = some (.cells (xs.map (Value.int .i64)).toArray 3 (0, 0))
theorem Ri.lt {w : World} {g : Nat} {xs : List Int} (h : Ri w g xs) : g < w.heap.size := (Array.getElem?_eq_some_iff.1 h).1
theorem Ri.nt {w : World} {g : Nat} {xs : List Int} (h : Ri w g xs) : Nt w (some ⟨g, 0, none⟩) xs := by
  refine ⟨fun i hi => ⟨g, 0, rfl, ?_⟩⟩
  rw [Nat.zero_add, cell_of_row w g i _ _ (0, 0) h]
  simp [List.getD, List.getElem?_eq_getElem hi]
theorem Ri.kept {w w' : World} {row : Option Nat} {g : Nat} {xs : List Int} (h : Ri w g xs) (hg : w.grownBy w' row) (hne : some g ≠ row) : Ri w' g xs := (hg.block g h.lt hne).trans h
theorem Ri.keptN {w w' : World} {g : Nat} {xs : List Int} (h : Ri w g xs) (hg : w.grownBy w' none) : Ri w' g xs := h.kept hg (by simp)
theorem madeI (n : Nat) : (madeCells #[Value.int .i64 0] n).toList = (List.replicate n (0 : Int)).map (Value.int .i64) := by
  refine List.ext_getElem (by simp [madeCells]) fun i h1 h2 => ?_
  simp [madeCells, Nat.mod_one]
theorem Ri.of_owns {w : World} {base g n : Nat} {zs : List Int} (h : w.ownsRow base 3 1 (.slice (some ⟨g, 0, none⟩) n n) n (zs.map (Value.int .i64))) : Ri w g zs := by
  rcases h with ⟨hl, ⟨h0, _⟩ | ⟨g', cap, cur, hv, _, hg, _, _, hs, ht⟩⟩
  · cases h0
  · injection hv with e1 e2 e3
    injection e1 with e1
    injection e1 with e4
    subst e4 e3
    have : cur.toList = zs.map (Value.int .i64) := by
      rw [← ht, List.take_of_length_le (by simp [hs])]
    unfold Ri
    rw [hg, ← this]

theorem Ri.frozen {w : World} {g : Nat} {xs : List Int} (h : Ri w g xs) (j : Nat) : w.frozen? ⟨g, j, none⟩ = false := frozen_of_row w g j _ _ h
theorem Ri.cell {w : World} {g : Nat} {xs : List Int} (h : Ri w g xs) (i : Nat) (hi : i < xs.length) : w.cell? ⟨g, i, none⟩ = some (.int .i64 (xs.getD i 0)) := by
  rw [cell_of_row w g i _ _ (0, 0) h]
  simp [List.getD, List.getElem?_eq_getElem hi]
theorem Ri.set {w : World} {g i : Nat} {xs : List Int} {v : Int} (h : Ri w g xs) : Ri (w.setCell ⟨g, i, none⟩ (.int .i64 v)) g (xs.set i v) := by
  unfold Ri
  rw [heap_setCell_same w g i _ _ _ h]
  simp [List.map_set]
theorem rL_set {zs : List Int} {m i : Nat} (hi : i < m) : (rL zs i ++ List.replicate (m - i) 0).set i ((le 4 (zs.drop (7 + 4 * i)) : Nat) : Int) = rL zs (i + 1) ++ List.replicate (m - (i + 1)) 0 := by
  have e : List.replicate (m - i) (0 : Int) = 0 :: List.replicate (m - (i + 1)) 0 := by rw [show m - i = (m - (i + 1)) + 1 by omega, List.replicate_succ]
  rw [e, List.set_append_right _ _ (by rw [rL_len]; exact Nat.le_refl _), rL_len, Nat.sub_self, List.set_cons_zero, rL_snoc, List.append_assoc]
  rfl

set_option maxHeartbeats 2000000 in
set_option maxRecDepth 100000 in
theorem readList_any (R G m : Nat) (zs : List Int) (w : World) (h : Rd w R G zs 7 0) (hbt : Bt zs) (hl : zs.length = 4092) (hm : m ≤ 1021) :
    Calls Try.prog 44 #[.pointer (some ⟨R, 0, none⟩), .int .i64 m] w fun en w' => ∃ g, en = .returned (.slice (some ⟨g, 0, none⟩) m m) ∧ Ri w' g (rL zs m) ∧ w.heap.size ≤ g ∧ w.grownBy w' (some R) := by
  obtain ⟨i0, hi, hz0, hz1, hz2⟩ := info_parts info_int6
  have HR := hid_intro h
  have hRlt := h.lt.1
  have HGl := hid_intro h.lt.2
  clear h
  go_enter Try.func44, Try.ntmps44
  go_wp2_with (at_make; refine wpList_make_full _ rfl _ _ 36 rfl w.heap.size 3 i0 (.int .i64 0) 1 Try.underlying36 hi hz0 hz1 _ _ _ _ m rfl rfl rfl rfl ?b2 ?b3 (Nat.le_refl _) ?_)
  case b2 => rw [hz2]; omega
  case b3 => unfold maxLen; omega
  intro w1 hown hg1
  rw [madeI] at hown
  have hri : Ri w1 w.heap.size (rL zs 0 ++ List.replicate (m - 0) 0) := Ri.of_owns hown
  have RI := hid_intro hri
  have R1 := hid_intro (show Rd w1 R G zs (7 + 4 * 0) 0 from HR.out.kept hg1 (by simp) (by simp))
  have G1 := hid_intro (grown_any (row := some R) hg1)
  clear hown hg1 HR hri
  go_wp2
  go_loopw [6, 11] (fun _ si wr => ∃ i : Nat, i ≤ m ∧ si = .int .i64 i ∧ Ri wr w.heap.size (rL zs i ++ List.replicate (m - i) 0) ∧ Rd wr R G zs (7 + 4 * i) 0 ∧ w.grownBy wr (some R)) (fun _ si _ => m - (intOf si).toNat)
  case atStart => exact ⟨0, Nat.zero_le _, rfl, RI.out, R1.out, G1.out⟩
  case round =>
    obtain ⟨i, hi, rfl, hri, hrd, hgi⟩ := hrel
    have RI := hid_intro hri
    have GI := hid_intro hgi
    clear hri hgi R1 G1
    by_cases hlt : i < m
    · have hv2 : le 4 (zs.drop (7 + 4 * i)) < 4294967296 := le_lt 4 _ (hbt.drop _)
      have HS := hid_intro (rL_set (zs := zs) hlt)
      have HC := hid_intro (fun (W : World) (hW : Rd W R G zs (7 + 4 * i) 0) => get_u32_ok R G zs (7 + 4 * i) W hW hbt (by omega))
      have HLL : Hid ((rL zs i ++ List.replicate (m - i) 0).length = m) := by show _ = _; rw [List.length_append, rL_len, List.length_replicate]; omega
      generalize le 4 (zs.drop (7 + 4 * i)) = v at *
      have hwv : IntKind.i64.wrap (v : Int) = (v : Int) := by simp [IntKind.wrap, IntKind.bits, IntKind.signed]; omega
      have hne : R ≠ w.heap.size := by omega
      have HGne : Hid (G ≠ w.heap.size) := by have := HGl.out; show _ ≠ _; omega
      go_wp2_with fail
      refine (HC.out _ hrd).mono ?_
      rintro en w2 ⟨rfl, hr2, hg2⟩
      have RI2 := hid_intro (RI.out.kept hg2 (fun e => hne (Option.some.inj e).symm))
      have GI2 := hid_intro (grown_trans GI.out hg2)
      have RD2 := hid_intro hr2
      clear hr2 hg2 RI GI hrd
      have f2 := RI2.out.frozen i
      have e2 := RI2.out.cell i (by rw [HLL.out]; exact hlt)
      go_wp2
      go_roundw
      case rel =>
        refine ⟨i + 1, by omega, by go_num, ?_, ?_, ?_⟩
        · rw [← HS.out]; exact RI2.out.set
        · exact RD2.out.kept (grown_cell _ _ _ _) (fun e => hne (Option.some.inj e)) (fun e => HGne.out (Option.some.inj e))
        · exact grown_newR GI2.out (grown_cell _ _ _ _) (Nat.le_refl _)
      case measure => simp [intOf]; omega
    · have hin : i = m := by omega
      subst hin
      go_wp2
      go_ret
      refine ⟨_, rfl, ?_, Nat.le_refl _, GI.out⟩
      have := RI.out
      rwa [Nat.sub_self, List.replicate_zero, List.append_nil] at this

def uN (bs : List Int) : Int := if dL bs = true then (rN bs : Int) else 0
def uL (bs : List Int) : List Int := if dL bs = true then rL bs (rC bs) else []
def uE (bs : List Int) : Int := if dL bs = true then 0 else 61
theorem u_no {bs : List Int} (h : dL bs = false) : uN bs = 0 ∧ uL bs = [] ∧ uE bs = 61 := by unfold uN uL uE; rw [h]; exact ⟨rfl, rfl, rfl⟩
theorem u_yes {bs : List Int} (h : dL bs = true) : uN bs = (rN bs : Int) ∧ uL bs = rL bs (rC bs) ∧ uE bs = 0 := by unfold uN uL uE; rw [h]; exact ⟨rfl, rfl, rfl⟩
theorem dL_iff {zs : List Int} (hl : zs.length = 4092) : dL zs = true ↔ eL (rN zs) (rL zs (min (rC zs) 1021)) = 0 ∧ oL (rN zs) (rL zs (min (rC zs) 1021)) = zs := by
  by_cases hc : rC zs ≤ 1021
  · rw [Nat.min_eq_left hc]
    constructor
    · intro h
      obtain ⟨_, _, h2, h3⟩ := dL_parts h
      exact ⟨h2, by rw [oL_yes h2]; exact h3⟩
    · rintro ⟨h1, h2⟩
      rw [oL_yes h1] at h2
      have h3 : lB (rN zs) (rL zs (rC zs)) = zs := h2
      simp [dL, hl, h1, h3, hc]
  · rw [Nat.min_eq_right (by omega)]
    constructor
    · intro h
      exact absurd (dL_parts h).2.1 hc
    · rintro ⟨h1, h2⟩
      rw [oL_yes h1] at h2
      exact absurd h2 (dL_short hc)
theorem dL_cnt {zs : List Int} (h : dL zs = true) : min (rC zs) 1021 = rC zs := Nat.min_eq_left (dL_parts h).2.1

set_option maxHeartbeats 2000000 in
set_option maxRecDepth 100000 in
theorem decodeList_any (ao : Option Addr) (n cap : Nat) (zs : List Int) (w : World) (hb : Byt w ao n cap zs) (hbt : Bt zs) :
    Calls Try.prog 23 #[.slice ao n cap] w fun en w' => ∃ bo m, en = .returned (.tuple #[.int .i64 (uN zs), .slice bo m m, .int .i64 (uE zs)]) ∧ Nt w' bo (uL zs) ∧ (uL zs).length = m ∧ (bo ≠ none → ∃ g, bo = some ⟨g, 0, none⟩ ∧ w.heap.size ≤ g ∧ Ri w' g (uL zs)) ∧ w.grownBy w' none := by
  have hl := hb.len
  have HB := hid_intro hb
  clear hb
  by_cases h0 : n = 4092
  · subst h0
    have HIF := hid_intro (dL_iff hl)
    have HCN := hid_intro (fun h => dL_cnt (zs := zs) h)
    obtain ⟨x, hx⟩ : ∃ x, x = rN zs := ⟨_, rfl⟩
    obtain ⟨c, hc⟩ : ∃ c, c = rC zs := ⟨_, rfl⟩
    obtain ⟨m, hm⟩ : ∃ m, m = min (rC zs) 1021 := ⟨_, rfl⟩
    have hm2 : m ≤ 1021 := by rw [hm]; exact Nat.min_le_right _ _
    rw [← hm] at HIF HCN
    have hmin : ∀ (ts : Array TypeId) (ty : TypeId) (W : World), (Builtin.min_ ts ty #[.int .i64 (c : Int), .int .i64 1021]).run Try.prog W = .ok (.int .i64 (m : Int)) W := by
      intro ts ty W
      rw [run_min_int2, hm, ← hc]
      congr 2
      omega
    have HX := hid_intro hx
    have HC := hid_intro hc
    have HM := hid_intro hm
    clear hx hc hm
    go_enter Try.func23, Try.ntmps23
    go_wp2_with fail
    refine (newReader_any ao 4092 cap zs _ HB.out (by omega)).mono ?_
    rintro en w1 ⟨R, rfl, hr1, hg1, hs1⟩
    have B1 := hid_intro (HB.out.keptN hg1)
    have HLT : Hid (∀ ad, ao = some ad → 0 < 4092 → ad.block < w.heap.size) := fun ad h1 h2 => HB.out.lt h1 h2
    have G1 := hid_intro hg1
    clear hg1
    go_wp2_with fail
    refine (readHead_any R w.heap.size zs _ hr1 hbt hl).mono ?_
    rw [← HX.out, ← HC.out]
    rintro en w2 ⟨rfl, hr2, hg2⟩
    have B2 := hid_intro (B1.out.kept hg2 (fun ad h1 h2 e => by have := HLT.out ad h1 (by omega); have := Option.some.inj e; omega))
    have G2 := hid_intro (grown_new G1.out hg2 (by omega))
    clear hg2 hr1 G1 B1
    go_wp2_with fail
    refine (left_whole R w.heap.size zs 7 _ hr2).mono ?_
    rw [hl]
    rintro en w3 ⟨rfl, hq3⟩
    have B3 := hid_intro (B2.out.keptN (hq3.grown none))
    have G3 := hid_intro (grown_trans G2.out (hq3.grown none))
    have hr3 := hr2.kept (hq3.grown none) (by simp) (by simp)
    clear hq3 hr2 G2 B2
    go_wp2_with fail
    refine (readList_any R w.heap.size m zs _ hr3 hbt hl hm2).mono ?_
    rintro en w4 ⟨g, rfl, hri, hgs, hg4⟩
    have B4 := hid_intro (B3.out.kept hg4 (fun ad h1 h2 e => by have := HLT.out ad h1 (by omega); have := Option.some.inj e; omega))
    have G4 := hid_intro (grown_new G3.out hg4 (by omega))
    have HGS : Hid (w.heap.size ≤ g) := Nat.le_trans G3.out.size hgs
    have RI := hid_intro hri
    clear hg4 hr3 G3 B3 hri hgs
    go_wp2_with fail
    refine (encodeList_any (x : Int) _ m m (rL zs m) _ RI.out.nt (rL_len _ _) (by omega)).mono ?_
    rintro en w5 ⟨so, k, rfl, hb5, _, hg5⟩
    have B5 := hid_intro (B4.out.keptN hg5)
    have G5 := hid_intro (grown_trans G4.out hg5)
    have RI5 := hid_intro (RI.out.keptN hg5)
    have S5 := hid_intro hb5
    obtain ⟨er, her⟩ : ∃ er, er = eL (x : Int) (rL zs m) := ⟨_, rfl⟩
    rw [← her]
    have HER := hid_intro her
    clear hg5 G4 B4 RI hb5 her
    by_cases he : er = 0
    · subst he
      by_cases hq : oL (x : Int) (rL zs m) = zs
      · have HT : Hid (dL zs = true) := HIF.out.2 ⟨by rw [← HX.out]; exact HER.out.symm, by rw [← HX.out]; exact hq⟩
        have HQ := hid_intro hq
        clear hq
        go_wp2_with fail
        refine (equal_yes so ao k 4092 k cap _ _ _ S5.out B5.out HQ.out).mono ?_
        rintro en w6 ⟨rfl, rfl⟩
        go_wp2
        go_ret3
        rw [(u_yes HT.out).1, (u_yes HT.out).2.1, (u_yes HT.out).2.2, ← HX.out, ← HCN.out HT.out]
        exact ⟨_, m, rfl, RI5.out.nt, rL_len _ _, fun _ => ⟨_, rfl, HGS.out, RI5.out⟩, G5.out⟩
      · have HT : Hid (dL zs = false) := by
          cases hh : dL zs with
          | false => rfl
          | true => exact absurd (by rw [HX.out]; exact (HIF.out.1 hh).2) hq
        have HQ := hid_intro hq
        clear hq
        go_wp2_with fail
        refine (equal_no so ao k 4092 k cap _ _ _ S5.out B5.out (oL_bt _ _) hbt HQ.out).mono ?_
        rintro en w6 ⟨rfl, rfl⟩
        go_wp2
        go_ret3
        rw [(u_no HT.out).1, (u_no HT.out).2.1, (u_no HT.out).2.2]
        exact ⟨none, 0, rfl, Nt.zero _ _, rfl, fun h => absurd rfl h, G5.out⟩
    · have HT : Hid (dL zs = false) := by
        cases hh : dL zs with
        | false => rfl
        | true => exact absurd (by rw [HER.out, HX.out]; exact (HIF.out.1 hh).1) he
      have he2 : (er == 0) = false := by simp [he]
      have he3 : (er != 0) = true := by simp [he]
      go_wp2
      go_ret3
      rw [(u_no HT.out).1, (u_no HT.out).2.1, (u_no HT.out).2.2]
      exact ⟨none, 0, rfl, Nt.zero _ _, rfl, fun h => absurd rfl h, G5.out⟩
  · have HT : Hid (dL zs = false) := by show _ = _; simp [dL, hl, h0]
    have h0' : ¬ (n : Int) = 4092 := by omega
    go_enter Try.func23, Try.ntmps23
    go_wp2
    go_ret3
    rw [(u_no HT.out).1, (u_no HT.out).2.1, (u_no HT.out).2.2]
    exact ⟨none, 0, rfl, Nt.zero _ _, rfl, fun h => absurd rfl h, World.grownBy.refl _ _⟩
end Go.Proofs.Ytmdljegaggjnhaa
