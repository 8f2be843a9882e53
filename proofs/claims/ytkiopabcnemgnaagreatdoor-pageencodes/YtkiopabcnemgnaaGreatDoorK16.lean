import Derived.Test.YtkiopabcnemgnaaGreatDoorK15
import Derived.Lib.SlBytesConst
set_option maxHeartbeats 2000000
namespace Go.Proofs.YtkiopabcnemgnaaGreatDoor
open Go.RowKit
theorem bt_zeros (n : Nat) : Bt (List.replicate n 0) := by
 intro z hz;rw [List.mem_replicate] at hz;omega
theorem bt_low4 (s : Nat) : Bt (low4 s) := low4_bts s
theorem refStep_any (r : Nat) (w : World) (hr : r < 4294967296) :
  Calls Tryz.prog 103 #[.int .u32 r] w fun e w' => e = .returned (.int .u32 ((stp r : Nat) : Int)) ∧ w' = w := by
 by_cases h : r % 2 = 1
 ·have hx := u32_xor_nat (r / 2) 3988292384 (by omega) (by decide)
  have hs : stp r = (r / 2) ^^^ 3988292384 := by unfold stp; rw [if_pos h]
  rw [← hs] at hx;have hx' : bits .xor .u32 ((r : Int) / 2) 3988292384 = ((stp r : Nat) : Int) := by rw [← hx]; rfl
  have h1 : (r : Int) % 2 = 1 := by omega
  clear hs hx;go_enter Tryz.func103, Tryz.ntmps103;go_wp2;go_ret;exact ⟨rfl, rfl⟩
 ·have hs : stp r = r / 2 := by unfold stp; rw [if_neg h]
  have h1 : (r : Int) % 2 ≠ 1 := by omega
  rw [hs];go_enter Tryz.func103, Tryz.ntmps103;go_wp2;go_ret;exact ⟨rfl, rfl⟩
theorem stps_snoc (k r : Nat) : stps (k + 1) r = stp (stps k r) := by rw [stps_add k 1 r]; rfl
theorem refUpdate_any (c : Nat) (ao : Option Addr) (n cap : Nat) (zs : List Int) (w : World) (hc : c < 4294967296) (hb : Byt w ao n cap zs) (bt : Bt zs) (hn : n ≤ 140737488351232) :
  Calls Tryz.prog 70 #[.int .u32 c, .slice ao n cap] w fun e w' => e = .returned (.int .u32 ((upd c zs : Nat) : Int)) ∧ w' = w := by
 have HB : Hid (Byt w ao n cap zs) := hb;have HL : Hid (zs.length = n) := hb.len;clear hb;go_enter Tryz.func70, Tryz.ntmps70;go_wp2;go_loopw [5, 6] (fun sr si wr => ∃ i : Nat, i ≤ n ∧ si = .int .i64 i ∧ sr = .int .u32 ((runs (4294967295 - c) (zs.take i) : Nat) : Int) ∧ wr = w) (fun _ si _ => n - (intOf si).toNat)
 case atStart => exact ⟨0, by omega, rfl, by rw [List.take_zero, runs_nil]; go_num, rfl⟩
 case round =>
  obtain ⟨i, hi, rfl, rfl, rfl⟩ := hrel;have hrl : runs (4294967295 - c) (zs.take i) < 4294967296 := runs_lt (bts (bt.take i)) (by omega)
  by_cases hlt : i < n
  ·obtain ⟨b, off, rfl, hbs, hcell⟩ := HB.out.at (by omega)
   have hci := hcell i hlt;have hz := bt.getD i;obtain ⟨z, hzz⟩ : ∃ z : Nat, zs.getD i 0 = (z : Int) := ⟨(zs.getD i 0).toNat, by omega⟩;have hx := u32_xor_nat (runs (4294967295 - c) (zs.take i)) z hrl (by omega);have hlx := xor_lt hrl (show z < 4294967296 by omega);rw [hzz] at hci;have hz2 : z ≤ 255 := by omega
   have hr2 : runs (4294967295 - c) (zs.take (i + 1)) = stps 8 (runs (4294967295 - c) (zs.take i) ^^^ z) := by
    rw [takeC_snoc zs i (by have := HL.out; omega), runs_snoc, hzz, Int.toNat_natCast]
   clear hcell hz hzz;have HR := hJ hr2;clear hr2;generalize runs (4294967295 - c) (zs.take i) = r at *;generalize r ^^^ z = q at *;go_wp2;have hw0 : ∃ w0, w0 = wr := ⟨_, rfl⟩;obtain ⟨w0, hw0⟩ := hw0;rw [← hw0];have HW0 := hJ hw0;clear hw0;go_loopw [5, 7] (fun sr sk W => ∃ k : Nat, k ≤ 8 ∧ sk = .int .i64 k ∧ sr = .int .u32 ((stps k q : Nat) : Int) ∧ W = w0) (fun _ sk _ => 8 - (intOf sk).toNat)
   case atStart => exact ⟨0, by omega, rfl, rfl, rfl⟩
   case round =>
    obtain ⟨k, hk, rfl, rfl, hW⟩ := hrel;rw [hW];clear hW;have hkl := stps_lt k hlx;have HK := hJ (stps_snoc k q)
    by_cases hk8 : k < 8
    ·generalize stps k q = s at *
     go_wp2_with fail
     refine (refStep_any s w0 hkl).mono ?_;rintro e w' ⟨rfl, hw'⟩;have HW' := hJ hw';clear hw';have hsl := stp_lt hkl;go_wp2;go_roundw
     case rel => exact ⟨k + 1, by omega, by go_num, by rw [HK.out], HW'.out⟩
     case measure => simp [intOf]; omega
    ·have hk9 : k = 8 := by omega
     rw [hk9] at hkl ⊢;clear HK;generalize stps 8 q = s at *;go_wp2;go_roundw
     case rel => exact ⟨i + 1, by omega, by go_num, by rw [HR.out], HW0.out⟩
     case measure => simp [intOf]; omega
  ·have htk : zs.take i = zs := List.take_of_length_le (by have := HL.out; omega)
   rw [htk] at hrl ⊢;clear htk;generalize hgen : runs (4294967295 - c) zs = r at *;have HG := hJ hgen;clear hgen;go_wp2;go_ret;refine ⟨congrArg Ending.returned (congrArg (Value.int IntKind.u32) ?_), rfl⟩;unfold upd;rw [HG.out];omega
theorem refSum_any (ao : Option Addr) (n cap : Nat) (zs : List Int) (w : World) (hb : Byt w ao n cap zs) (bt : Bt zs) (hn : n ≤ 140737488351232) :
  Calls Tryz.prog 51 #[.slice ao n cap] w fun e w' => e = .returned (.int .u32 ((upd 0 zs : Nat) : Int)) ∧ w' = w := by
 go_enter Tryz.func51, Tryz.ntmps51
 go_wp2_with fail
 refine (refUpdate_any 0 ao n cap zs w (by decide) hb bt hn).mono ?_;rintro e w' ⟨rfl, rfl⟩;have hl := upd_lt 0 zs;generalize hs : upd 0 zs = s at *;have HS := hJ hs;clear hs hb bt;go_wp2;go_ret;rw [HS.out];exact ⟨rfl, rfl⟩
def sealL (zs : List Int) : List Int := if zs.length = 4092 then zs ++ low4 (upd 0 zs) else []
def sealE (zs : List Int) : Int := if zs.length = 4092 then 0 else 20
abbrev fits (zs : List Int) : Prop := zs.length = 4096 ∧ zs.drop 4092 = low4 (upd 0 (zs.take 4092))
def openL (zs : List Int) : List Int := if fits zs then zs.take 4092 else []
def openE (zs : List Int) : Int := if fits zs then 0 else if zs.length = 4096 then 22 else 21
theorem grown_own1 {w wr w1 : World} {base n : Nat} {v : Value} {xs : List Value} (hg : w.grownBy wr none) (hown : wr.ownsRow base 5 1 v n xs) (hb : w.heap.size ≤ base) (h : wr.grownBy w1 v.ownBlock) : w.grownBy w1 none := by
 refine ⟨h.os.trans hg.os, h.tape.trans hg.tape, h.output.trans hg.output, Nat.le_trans hg.size h.size, fun k hk _ => ?_⟩;rw [h.block k (Nat.lt_of_lt_of_le hk hg.size) (by intro e; have := (hown.lt k e.symm).1; omega)];exact hg.block k hk (by simp)
theorem low4_quo (s : Nat) (h : s < 4294967296) : [(s : Int) % 256, (s : Int) / 256 % 256, (s : Int) / 65536 % 256, (s : Int) / 16777216] = low4 s := by
 unfold low4;rw [show ((s / 16777216 % 256 : Nat) : Int) = (s : Int) / 16777216 by omega]
 rfl
theorem low_any (s : Nat) (w : World) (hs : s < 4294967296) :
  Calls Tryz.prog 50 #[.int .u32 s] w fun e w' => e = .returned (.slice (some ⟨w.heap.size, 0, none⟩) 4 4) ∧ Byt w' (some ⟨w.heap.size, 0, none⟩) 4 4 (low4 s) ∧ w.grownBy w' none := by
 go_enter Tryz.func50, Tryz.ntmps50;go_wp2;go_ret;refine ⟨rfl, ?_, World.grownBy_alloc w _ none⟩;rw [← low4_quo s hs];exact Byt.lit w 5 _ _ 4 rfl rfl
theorem refSeal_any (ao : Option Addr) (n cap : Nat) (zs : List Int) (w : World) (hb : Byt w ao n cap zs) (bt : Bt zs) :
  Calls Tryz.prog 24 #[.slice ao n cap] w fun e w' => ∃ po m c, e = .returned (.tuple #[.slice po m c, .int .i64 (sealE zs)]) ∧ Byt w' po m c (sealL zs) ∧ m ≤ 4096 ∧ m ≤ c ∧ w.grownBy w' none := by
 by_cases h : n = 4092
 ·subst h
  have e1 : sealE zs = 0 := if_pos hb.len;have e2 : sealL zs = zs ++ low4 (upd 0 zs) := if_pos hb.len;rw [e1, e2];have HB := hJ hb;clear hb e1 e2;go_enter Tryz.func24, Tryz.ntmps24
  go_wp2_with fail
  refine (refBytes_any ao 4092 cap zs w HB.out (by omega)).mono ?_;rintro e w1 ⟨rfl, hown1, hg1, hs1⟩;have G1 := hJ hg1;clear hg1
  go_wp2_with fail
  refine (refSum_any ao 4092 cap zs w1 (HB.out.keptN G1.out) bt (by omega)).mono ?_;rintro e w2 ⟨rfl, rfl⟩;have hl := upd_lt 0 zs;generalize hs : upd 0 zs = s at *;have HS := hJ hs;clear hs
  go_wp2_with fail
  refine (low_any s w2 hl).mono ?_;rintro e w3 ⟨rfl, hb3, hg3⟩;have hown3 := hown1.kept hg3 (by simp [Value.ownBlock]);have G3 := hJ (gQ G1.out hg3);have HB3 := hJ hb3;clear hown1 hg3 G1 hb3
  go_wp2_with (at_builtin; refine wpList_append_byt rfl _ _ rfl w.heap.size _ 4092 zs rfl hown3 _ 4 4 (low4 s) rfl HB3.out (by omega) (by have := G3.out.size; omega) ?_)
  intro v w4 hown4 hg4;have G4 := hJ (grown_own1 G3.out hown3 (Nat.le_refl _) hg4);have hown4 : w4.ownsRow w.heap.size 5 1 v (4092 + 4) ((zs ++ low4 s).map (Value.int .u8)) := by rw [List.map_append]; exact hown4
  obtain ⟨g, c, rfl, hbg, hlt, hnc⟩ := owns_shape hown4 (by omega);have B4 := hJ (Byt.of_owns hown4);clear hown3 hown4 hg4 G3 HB3;go_wp2
  go_ret2
  rw [HS.out];exact ⟨_, _, _, rfl, B4.out, by omega, by omega, G4.out⟩
 ·have hl : zs.length ≠ 4092 := by rw [hb.len]; exact h
  have e1 : sealE zs = 20 := if_neg hl;have e2 : sealL zs = [] := if_neg hl;rw [e1, e2];clear hb e1 e2 hl;go_enter Tryz.func24, Tryz.ntmps24;go_wp2
  go_ret2
  exact ⟨_, _, _, rfl, Byt.empty _, by omega, by omega, World.grownBy.refl _ _⟩
theorem refOpen_new (ao : Option Addr) (n cap : Nat) (zs : List Int) (w : World) (hb : Byt w ao n cap zs) (bt : Bt zs) (hc : n ≤ cap) :
  Calls Tryz.prog 40 #[.slice ao n cap] w fun e w' => ∃ po m c, e = .returned (.tuple #[.slice po m c, .int .i64 (openE zs)]) ∧ Byt w' po m c (openL zs) ∧ w.grownBy w' none ∧ m = c ∧ c ≤ 4092 := by
 by_cases h : n = 4096
 ·subst h
  obtain ⟨b, off, rfl, hbs, _⟩ := hb.at (by omega);have HBody : Hid (Byt w (some ⟨b, off, none⟩) 4092 cap (zs.take 4092)) := hb.take 4092 cap (by omega) (by intro e; cases e)
  have HTail : Hid (Byt w (some ⟨b, off + 4092, none⟩) 4 (cap - 4092) (zs.drop 4092)) := by
   obtain ⟨b', off', e', _, hcell⟩ := hb.at (by omega);simp at e';obtain ⟨rfl, rfl⟩ := e';refine Byt.of_cells (by rw [List.length_drop, hb.len]) fun i hi => ?_
   have := hcell (4092 + i) (by omega);rw [Nat.add_assoc, this];simp [List.getD]
  have hbb : Bt (zs.take 4092) := bt.take 4092;have hbd : Bt (zs.drop 4092) := bt.drop 4092;have hc92 : cap ≠ 4092 := by omega
  have hc93 : (4092 : Int) ≤ (cap : Int) := by omega
  have hll := hb.len
  by_cases hx : zs.drop 4092 = low4 (upd 0 (zs.take 4092))
  ·have hf : fits zs := ⟨hb.len, hx⟩
   have e1 : openE zs = 0 := if_pos hf;have e2 : openL zs = zs.take 4092 := if_pos hf;rw [e1, e2];have HX := hJ hx;clear hb e1 e2 hf hx hll;generalize zs.take 4092 = ys at *;generalize zs.drop 4092 = ts at *;go_enter Tryz.func40, Tryz.ntmps40
   go_wp2_with fail
   refine (refSum_any _ 4092 cap ys w HBody.out hbb (by omega)).mono ?_;rintro e w2 ⟨rfl, rfl⟩;have hl := upd_lt 0 ys
   go_wp2_with fail
   refine (low_any _ w2 hl).mono ?_;rintro e w3 ⟨rfl, hb3, hg3⟩;have G3 := hJ hg3;have HB3 := hJ hb3;clear hg3 hb3
   go_wp2_with fail
   refine (same_yes _ _ 4 4 (cap - 4092) 4 ts (low4 (upd 0 ys)) w3 (HTail.out.keptN G3.out) HB3.out HX.out).mono ?_;rintro e w4 ⟨rfl, rfl⟩
   go_wp2_with fail
   refine (refBytes_any _ 4092 cap ys w4 (HBody.out.keptN G3.out) (by omega)).mono ?_;rintro e w5 ⟨rfl, hown5, hg5, hs5⟩;have B5 := hJ (Byt.of_owns hown5);have G5 := hJ (gQ G3.out hg5);clear hown5 hg5 hs5;go_wp2
   go_ret2
   exact ⟨_, _, _, rfl, B5.out, G5.out, rfl, Nat.le_refl _⟩
  ·have hf : ¬ fits zs := fun h => hx h.2
   have e1 : openE zs = 22 := by unfold openE; rw [if_neg hf, if_pos hll]
   have e2 : openL zs = [] := if_neg hf;rw [e1, e2];have HX := hJ hx;clear hb e1 e2 hf hx hll;generalize zs.take 4092 = ys at *;generalize zs.drop 4092 = ts at *;go_enter Tryz.func40, Tryz.ntmps40
   go_wp2_with fail
   refine (refSum_any _ 4092 cap ys w HBody.out hbb (by omega)).mono ?_;rintro e w2 ⟨rfl, rfl⟩;have hl := upd_lt 0 ys
   go_wp2_with fail
   refine (low_any _ w2 hl).mono ?_;rintro e w3 ⟨rfl, hb3, hg3⟩;have G3 := hJ hg3;have HB3 := hJ hb3;clear hg3 hb3
   go_wp2_with fail
   refine (same_no _ _ 4 4 (cap - 4092) 4 ts (low4 (upd 0 ys)) w3 (HTail.out.keptN G3.out) HB3.out hbd (bt_low4 _) HX.out).mono ?_;rintro e w4 ⟨rfl, rfl⟩;go_wp2
   go_ret2
   exact ⟨_, _, _, rfl, Byt.empty _, G3.out, rfl, by omega⟩
 ·have hl : zs.length ≠ 4096 := by rw [hb.len]; exact h
  have hf : ¬ fits zs := fun h => hl h.1
  have e1 : openE zs = 21 := by unfold openE; rw [if_neg hf, if_neg hl]
  have e2 : openL zs = [] := if_neg hf;rw [e1, e2];clear hb e1 e2 hl hf;go_enter Tryz.func40, Tryz.ntmps40;go_wp2
  go_ret2
  exact ⟨_, _, _, rfl, Byt.empty _, World.grownBy.refl _ _, rfl, by omega⟩
end Go.Proofs.YtkiopabcnemgnaaGreatDoor
