import Derived.Test.YtiljdhhfhjhhiaaDp1
namespace Go.Proofs.Ytiljdhhfhjhhiaa
open Go.RowKit Go.MuLone

theorem fill_gen (z y : List Int) (k : Nat) (hz : k < z.length) (hy : k < y.length) : (z.take k ++ y.drop k).set k (z.getD k 0) = z.take (k + 1) ++ y.drop (k + 1) := by
  rw [List.set_append_right _ _ (by rw [List.length_take]; omega), List.length_take, Nat.min_eq_left (by omega), Nat.sub_self, List.drop_eq_getElem_cons hy, List.set_cons_zero, List.take_add_one, List.getElem?_eq_getElem hz, Option.toList_some, List.append_assoc]
  simp [List.getD, List.getElem?_eq_getElem hz]

/-- A page of x whose first bytes are zs. -/
def pageZ (x : Int) (zs : List Int) : List Int := zs.take (min 4096 zs.length) ++ (fp x).drop (min 4096 zs.length)
theorem pageZ_len (x : Int) (zs : List Int) : (pageZ x zs).length = 4096 := by
  unfold pageZ
  rw [List.length_append, List.length_take, List.length_drop, fp_len]
  omega
theorem pageZ_bt {x : Int} {zs : List Int} (hx : 0 ≤ x ∧ x ≤ 255) (hz : Bt zs) : Bt (pageZ x zs) := (hz.take _).app ((fp_bt hx).drop _)

def opv (kind i at_ x f : Int) (ao : Option Addr) (n c : Nat) (bo : Option Addr) (m e : Nat) : Value := .agg #[.int .i64 kind, .int .i64 i, .int .i64 at_, .int .i64 x, .int .u8 f, .slice ao n c, .slice bo m e]

set_option maxHeartbeats 4000000 in
set_option maxRecDepth 8000 in
theorem page_any (kind i at_ x f : Int) (ao : Option Addr) (n c : Nat) (bo : Option Addr) (m e : Nat) (zs : List Int) (w : World) (hb : Byt w ao n c zs) (hn : n < 1099511627776) : Calls Try.prog 36 #[opv kind i at_ x f ao n c bo m e] w fun en w' => en = .returned (.slice (some ⟨w.heap.size + 1, 0, none⟩) 4096 4096) ∧ Rw w' (w.heap.size + 1) (pageZ f zs) ∧ w.grownBy w' none := by
  have hzl := hb.len
  have HB := hid_intro hb
  clear hb
  unfold opv
  obtain ⟨wA, hwA⟩ : ∃ wA, wA = w.alloc (.cells #[.int .i64 kind, .int .i64 i, .int .i64 at_, .int .i64 x, .int .u8 f, .slice ao n c, .slice bo m e] 41) := ⟨_, rfl⟩
  have gA : w.grownBy wA none := by rw [hwA]; exact World.grownBy_alloc _ _ _
  have sA : wA.heap.size = w.heap.size + 1 := by rw [hwA]; simp
  have uA : wA.heap[w.heap.size]? = some (.cells #[.int .i64 kind, .int .i64 i, .int .i64 at_, .int .i64 x, .int .u8 f, .slice ao n c, .slice bo m e] 41 (0, 0)) := by rw [hwA]; exact heap_alloc_new w _
  have u4 : wA.cell? ⟨w.heap.size, 4, none⟩ = some (.int .u8 f) := cell_of_row wA _ 4 _ _ _ uA
  have u5 : wA.cell? ⟨w.heap.size, 5, none⟩ = some (.slice ao n c) := cell_of_row wA _ 5 _ _ _ uA
  have HA := hid_intro hwA
  have GA := hid_intro gA
  have SA := hid_intro sA
  clear hwA gA uA sA
  go_enter Try.func36, Try.ntmps36
  go_wp2_with fail
  rw [← HA.out]
  refine (full_any f _).mono ?_
  rintro en w2 ⟨rfl, hr2, hg2⟩
  rw [SA.out] at hr2 ⊢
  have R2 := hid_intro hr2
  have G2 := hid_intro hg2
  have u52 := hg2.cell u5 (by simp)
  clear hr2 hg2
  go_wp2_with fail
  go_loopw [4] (fun si wr => ∃ k : Nat, k ≤ min 4096 n ∧ si = .int .i64 (k : Int) ∧ Rw wr (w.heap.size + 1) (zs.take k ++ (fp f).drop k) ∧ w2.grownBy wr (some (w.heap.size + 1))) (fun si _ => 4096 - (intOf si).toNat)
  case atStart => exact ⟨0, Nat.zero_le _, rfl, by simpa using R2.out, World.grownBy.refl _ _⟩
  case round =>
    obtain ⟨k, hk, rfl, hrk, hgk⟩ := hrel
    have u5k := hgk.cell u52 (by simp)
    by_cases hlt : k < min 4096 n
    · have a1 : (k : Int) < 4096 := by omega
      have a2 : (k : Int) < (n : Int) := by omega
      have hlt4 : k < 4096 := by omega
      have gw : w.grownBy wr none := by
        have g1 := grown_trans GA.out G2.out
        refine ⟨hgk.os.trans g1.os, hgk.tape.trans g1.tape, hgk.output.trans g1.output, Nat.le_trans g1.size hgk.size, fun q hq hne => (hgk.block q (Nat.lt_of_lt_of_le hq g1.size) (fun e => by have := Option.some.inj e; omega)).trans (g1.block q hq hne)⟩
      obtain ⟨b, off, eao, _, hcell⟩ := (HB.out.keptN gw).at (by omega)
      subst eao
      have cz := hcell k (by omega)
      have hlk : (zs.take k ++ (fp f).drop k).length = 4096 := by rw [List.length_append, List.length_take, List.length_drop, fp_len]; omega
      have cp := hrk.cell k (by omega)
      have fp_ := hrk.fz k
      have HR := hid_intro (hrk.set k (zs.getD k 0))
      have HG := hid_intro (grown_trans hgk (grown_cell wr (w.heap.size + 1) k (.int .u8 (zs.getD k 0))))
      clear hrk hgk gw hcell hlk u52 u5
      revert cz cp HR HG
      obtain ⟨zk, hzk⟩ : ∃ zk, zk = zs.getD k 0 := ⟨_, rfl⟩
      rw [← hzk]
      have HZK := hid_intro hzk
      clear hzk
      intro cz cp HR HG
      go_wp2
      go_roundw
      case rel =>
        refine ⟨k + 1, by omega, by go_num, ?_, HG.out⟩
        have := HR.out
        rw [show (zs.take k ++ (fp f).drop k).set k zk = zs.take (k + 1) ++ (fp f).drop (k + 1) by rw [HZK.out]; exact fill_gen zs (fp f) k (by omega) (by rw [fp_len]; omega)] at this
        exact this
      case measure => simp [intOf]; omega
    · obtain rfl : k = min 4096 n := by omega
      have HR := hid_intro hrk
      have HG := hid_intro hgk
      clear hrk hgk u52 u5
      have fin : Rw wr (w.heap.size + 1) (pageZ f zs) ∧ w.grownBy wr none := by
        refine ⟨by unfold pageZ; rw [hzl]; exact HR.out, ?_⟩
        have g1 := grown_trans GA.out G2.out
        exact ⟨HG.out.os.trans g1.os, HG.out.tape.trans g1.tape, HG.out.output.trans g1.output, Nat.le_trans g1.size HG.out.size, fun q hq hne => (HG.out.block q (Nat.lt_of_lt_of_le hq g1.size) (fun e => by have := Option.some.inj e; omega)).trans (g1.block q hq hne)⟩
      have FIN := hid_intro fin
      clear fin
      by_cases b1 : 4096 ≤ n
      · have e1 : min 4096 n = 4096 := by omega
        rw [e1]
        go_wp2
        go_ret
        exact ⟨rfl, FIN.out⟩
      · have e1 : min 4096 n = n := by omega
        have e2 : (n : Int) < 4096 := by omega
        rw [e1]
        go_wp2
        go_ret
        exact ⟨rfl, FIN.out⟩
end Go.Proofs.Ytiljdhhfhjhhiaa
