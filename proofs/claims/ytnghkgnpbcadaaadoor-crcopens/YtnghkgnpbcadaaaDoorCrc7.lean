import Derived.Test.YtnghkgnpbcadaaaDoorCrc6
namespace Go.Proofs.YtnghkgnpbcadaaaDoor
open Go.RowKit

/-- What Seal and Open answer. -/
def sealL (zs : List Int) : List Int := if zs.length = 4092 then zs ++ low4 (upd 0 zs) else []
def sealE (zs : List Int) : Int := if zs.length = 4092 then 0 else 20
abbrev fits (zs : List Int) : Prop := zs.length = 4096 ∧ zs.drop 4092 = low4 (upd 0 (zs.take 4092))
def openL (zs : List Int) : List Int := if fits zs then zs.take 4092 else []
def openE (zs : List Int) : Int := if fits zs then 0 else if zs.length = 4096 then 22 else 21

theorem seal_any (ao : Option Addr) (n cap : Nat) (zs : List Int) (w : World) (hb : Byt w ao n cap zs) (bt : Bt zs) (ht : Tab w) :
    Calls Tryd.prog 17 #[.slice ao n cap] w fun e w' => ∃ po m c, e = .returned (.tuple #[.slice po m c, .int .i64 (sealE zs)]) ∧ Byt w' po m c (sealL zs) ∧ w.grownBy w' none := by
  by_cases h : n = 4092
  · subst h
    refine (seal_ok ao cap zs w hb bt ht).mono ?_
    rintro e w' ⟨rfl, hr, hg⟩
    have e1 : sealE zs = 0 := if_pos hb.len
    have e2 : sealL zs = zs ++ low4 (upd 0 zs) := if_pos hb.len
    rw [e1, e2]
    exact ⟨_, _, _, rfl, hr.all 4096 4096 (by rw [List.length_append, hb.len]; rfl), hg⟩
  · refine (seal_bad ao n cap w h).mono ?_
    rintro e w' ⟨rfl, rfl⟩
    have e1 : sealE zs = 20 := if_neg (by rw [hb.len]; exact h)
    have e2 : sealL zs = [] := if_neg (by rw [hb.len]; exact h)
    rw [e1, e2]
    exact ⟨_, _, _, rfl, Byt.empty _, World.grownBy.refl _ _⟩

theorem open_all (ao : Option Addr) (n cap : Nat) (zs : List Int) (w : World) (hb : Byt w ao n cap zs) (bt : Bt zs) (ht : Tab w) (hc : n ≤ cap) :
    Calls Tryd.prog 22 #[.slice ao n cap] w fun e w' => ∃ po m c, e = .returned (.tuple #[.slice po m c, .int .i64 (openE zs)]) ∧ Byt w' po m c (openL zs) ∧ w.grownBy w' none := by
  by_cases h : n = 4096
  · subst h
    by_cases hx : zs.drop 4092 = low4 (upd 0 (zs.take 4092))
    · refine (open_yes ao cap zs w hb bt ht hc hx).mono ?_
      rintro e w' ⟨g, rfl, hr, _, hg⟩
      have hf : fits zs := ⟨hb.len, hx⟩
      have e1 : openE zs = 0 := if_pos hf
      have e2 : openL zs = zs.take 4092 := if_pos hf
      rw [e1, e2]
      exact ⟨_, _, _, rfl, hr.all 4092 4092 (by rw [List.length_take, hb.len]; rfl), hg⟩
    · refine (open_no ao cap zs w hb bt ht hc hx).mono ?_
      rintro e w' ⟨rfl, hg⟩
      have hf : ¬ fits zs := fun h => hx h.2
      have e1 : openE zs = 22 := by unfold openE; rw [if_neg hf, if_pos hb.len]
      have e2 : openL zs = [] := if_neg hf
      rw [e1, e2]
      exact ⟨_, _, _, rfl, Byt.empty _, hg⟩
  · refine (open_bad ao n cap w h).mono ?_
    rintro e w' ⟨rfl, rfl⟩
    have hl : zs.length ≠ 4096 := by rw [hb.len]; exact h
    have hf : ¬ fits zs := fun h => hl h.1
    have e1 : openE zs = 21 := by unfold openE; rw [if_neg hf, if_neg hl]
    have e2 : openL zs = [] := if_neg hf
    rw [e1, e2]
    exact ⟨_, _, _, rfl, Byt.empty _, World.grownBy.refl _ _⟩

theorem grown_own1 {w wr w1 : World} {base n : Nat} {v : Value} {xs : List Value} (hg : w.grownBy wr none) (hown : wr.ownsRow base 5 1 v n xs) (hb : w.heap.size ≤ base) (h : wr.grownBy w1 v.ownBlock) : w.grownBy w1 none := by
  refine ⟨h.os.trans hg.os, h.tape.trans hg.tape, h.output.trans hg.output, Nat.le_trans hg.size h.size, fun k hk _ => ?_⟩
  rw [h.block k (Nat.lt_of_lt_of_le hk hg.size) (by intro e; have := (hown.lt k e.symm).1; omega)]
  exact hg.block k hk (by simp)
theorem low4_quo (s : Nat) (h : s < 4294967296) : [(s : Int) % 256, (s : Int) / 256 % 256, (s : Int) / 65536 % 256, (s : Int) / 16777216] = low4 s := by
  unfold low4
  rw [show ((s / 16777216 % 256 : Nat) : Int) = (s : Int) / 16777216 by omega]
  rfl

set_option maxHeartbeats 400000 in
theorem low_any (s : Nat) (w : World) (hs : s < 4294967296) :
    Calls Tryd.prog 26 #[.int .u32 s] w fun e w' => e = .returned (.slice (some ⟨w.heap.size, 0, none⟩) 4 4) ∧ Byt w' (some ⟨w.heap.size, 0, none⟩) 4 4 (low4 s) ∧ w.grownBy w' none := by
  go_enter Tryd.func26, Tryd.ntmps26
  go_wp2
  go_ret
  refine ⟨rfl, ?_, World.grownBy_alloc w _ none⟩
  rw [← low4_quo s hs]
  exact Byt.lit w 5 _ _ 4 rfl rfl

set_option maxHeartbeats 1000000 in
theorem refSeal_any (ao : Option Addr) (n cap : Nat) (zs : List Int) (w : World) (hb : Byt w ao n cap zs) (bt : Bt zs) :
    Calls Tryd.prog 18 #[.slice ao n cap] w fun e w' => ∃ po m c, e = .returned (.tuple #[.slice po m c, .int .i64 (sealE zs)]) ∧ Byt w' po m c (sealL zs) ∧ m ≤ 4096 ∧ m ≤ c ∧ w.grownBy w' none := by
  by_cases h : n = 4092
  · subst h
    have e1 : sealE zs = 0 := if_pos hb.len
    have e2 : sealL zs = zs ++ low4 (upd 0 zs) := if_pos hb.len
    rw [e1, e2]
    have HB := hid_intro hb
    clear hb e1 e2
    go_enter Tryd.func18, Tryd.ntmps18
    go_wp2_with fail
    refine (refBytes_any ao 4092 cap zs w HB.out (by omega)).mono ?_
    rintro e w1 ⟨rfl, hown1, hg1, hs1⟩
    have G1 := hid_intro hg1
    clear hg1
    go_wp2_with fail
    refine (refSum_any ao 4092 cap zs w1 (HB.out.keptN G1.out) bt (by omega)).mono ?_
    rintro e w2 ⟨rfl, rfl⟩
    have hl := upd_lt 0 zs
    generalize hs : upd 0 zs = s at *
    have HS := hid_intro hs
    clear hs
    go_wp2_with fail
    refine (low_any s w2 hl).mono ?_
    rintro e w3 ⟨rfl, hb3, hg3⟩
    have hown3 := hown1.kept hg3 (by simp [Value.ownBlock])
    have G3 := hid_intro (grown_trans G1.out hg3)
    have HB3 := hid_intro hb3
    clear hown1 hg3 G1 hb3
    go_wp2_with (at_builtin; refine wpList_append_byt rfl _ _ rfl w.heap.size _ 4092 zs rfl hown3 _ 4 4 (low4 s) rfl HB3.out (by omega) (by have := G3.out.size; omega) ?_)
    intro v w4 hown4 hg4
    have G4 := hid_intro (grown_own1 G3.out hown3 (Nat.le_refl _) hg4)
    have hown4 : w4.ownsRow w.heap.size 5 1 v (4092 + 4) ((zs ++ low4 s).map (Value.int .u8)) := by rw [List.map_append]; exact hown4
    obtain ⟨g, c, rfl, hbg, hlt, hnc⟩ := owns_shape hown4 (by omega)
    have B4 := hid_intro (Byt.of_owns hown4)
    clear hown3 hown4 hg4 G3 HB3
    go_wp2
    go_ret2
    rw [HS.out]
    exact ⟨_, _, _, rfl, B4.out, by omega, by omega, G4.out⟩
  · have hl : zs.length ≠ 4092 := by rw [hb.len]; exact h
    have e1 : sealE zs = 20 := if_neg hl
    have e2 : sealL zs = [] := if_neg hl
    rw [e1, e2]
    clear hb e1 e2 hl
    go_enter Tryd.func18, Tryd.ntmps18
    go_wp2
    go_ret2
    exact ⟨_, _, _, rfl, Byt.empty _, by omega, by omega, World.grownBy.refl _ _⟩

set_option maxHeartbeats 1000000 in
theorem refOpen_any (ao : Option Addr) (n cap : Nat) (zs : List Int) (w : World) (hb : Byt w ao n cap zs) (bt : Bt zs) (hc : n ≤ cap) :
    Calls Tryd.prog 27 #[.slice ao n cap] w fun e w' => ∃ po m c, e = .returned (.tuple #[.slice po m c, .int .i64 (openE zs)]) ∧ Byt w' po m c (openL zs) ∧ w.grownBy w' none := by
  by_cases h : n = 4096
  · subst h
    obtain ⟨b, off, rfl, hbs, _⟩ := hb.at (by omega)
    have HBody : Hid (Byt w (some ⟨b, off, none⟩) 4092 cap (zs.take 4092)) := hb.take 4092 cap (by omega) (by intro e; cases e)
    have HTail : Hid (Byt w (some ⟨b, off + 4092, none⟩) 4 (cap - 4092) (zs.drop 4092)) := by
      obtain ⟨b', off', e', _, hcell⟩ := hb.at (by omega)
      simp at e'
      obtain ⟨rfl, rfl⟩ := e'
      refine Byt.of_cells (by rw [List.length_drop, hb.len]) fun i hi => ?_
      have := hcell (4092 + i) (by omega)
      rw [Nat.add_assoc, this]
      simp [List.getD]
    have hbb : Bt (zs.take 4092) := bt.take 4092
    have hbd : Bt (zs.drop 4092) := bt.drop 4092
    have hc92 : cap ≠ 4092 := by omega
    have hc93 : (4092 : Int) ≤ (cap : Int) := by omega
    have hll := hb.len
    by_cases hx : zs.drop 4092 = low4 (upd 0 (zs.take 4092))
    · have hf : fits zs := ⟨hb.len, hx⟩
      have e1 : openE zs = 0 := if_pos hf
      have e2 : openL zs = zs.take 4092 := if_pos hf
      rw [e1, e2]
      have HX := hid_intro hx
      clear hb e1 e2 hf hx hll
      generalize zs.take 4092 = ys at *
      generalize zs.drop 4092 = ts at *
      go_enter Tryd.func27, Tryd.ntmps27
      go_wp2_with fail
      refine (refSum_any _ 4092 cap ys w HBody.out hbb (by omega)).mono ?_
      rintro e w2 ⟨rfl, rfl⟩
      have hl := upd_lt 0 ys
      go_wp2_with fail
      refine (low_any _ w2 hl).mono ?_
      rintro e w3 ⟨rfl, hb3, hg3⟩
      have G3 := hid_intro hg3
      have HB3 := hid_intro hb3
      clear hg3 hb3
      go_wp2_with fail
      refine (same_yes _ _ 4 4 (cap - 4092) 4 ts (low4 (upd 0 ys)) w3 (HTail.out.keptN G3.out) HB3.out HX.out).mono ?_
      rintro e w4 ⟨rfl, rfl⟩
      go_wp2_with fail
      refine (refBytes_any _ 4092 cap ys w4 (HBody.out.keptN G3.out) (by omega)).mono ?_
      rintro e w5 ⟨rfl, hown5, hg5, hs5⟩
      have B5 := hid_intro (Byt.of_owns hown5)
      have G5 := hid_intro (grown_trans G3.out hg5)
      clear hown5 hg5 hs5
      go_wp2
      go_ret2
      exact ⟨_, _, _, rfl, B5.out, G5.out⟩
    · have hf : ¬ fits zs := fun h => hx h.2
      have e1 : openE zs = 22 := by unfold openE; rw [if_neg hf, if_pos hll]
      have e2 : openL zs = [] := if_neg hf
      rw [e1, e2]
      have HX := hid_intro hx
      clear hb e1 e2 hf hx hll
      generalize zs.take 4092 = ys at *
      generalize zs.drop 4092 = ts at *
      go_enter Tryd.func27, Tryd.ntmps27
      go_wp2_with fail
      refine (refSum_any _ 4092 cap ys w HBody.out hbb (by omega)).mono ?_
      rintro e w2 ⟨rfl, rfl⟩
      have hl := upd_lt 0 ys
      go_wp2_with fail
      refine (low_any _ w2 hl).mono ?_
      rintro e w3 ⟨rfl, hb3, hg3⟩
      have G3 := hid_intro hg3
      have HB3 := hid_intro hb3
      clear hg3 hb3
      go_wp2_with fail
      refine (same_no _ _ 4 4 (cap - 4092) 4 ts (low4 (upd 0 ys)) w3 (HTail.out.keptN G3.out) HB3.out hbd (bt_low4 _) HX.out).mono ?_
      rintro e w4 ⟨rfl, rfl⟩
      go_wp2
      go_ret2
      exact ⟨_, _, _, rfl, Byt.empty _, G3.out⟩
  · have hl : zs.length ≠ 4096 := by rw [hb.len]; exact h
    have hf : ¬ fits zs := fun h => hl h.1
    have e1 : openE zs = 21 := by unfold openE; rw [if_neg hf, if_neg hl]
    have e2 : openL zs = [] := if_neg hf
    rw [e1, e2]
    clear hb e1 e2 hl hf
    go_enter Tryd.func27, Tryd.ntmps27
    go_wp2
    go_ret2
    exact ⟨_, _, _, rfl, Byt.empty _, World.grownBy.refl _ _⟩
end Go.Proofs.YtnghkgnpbcadaaaDoor
