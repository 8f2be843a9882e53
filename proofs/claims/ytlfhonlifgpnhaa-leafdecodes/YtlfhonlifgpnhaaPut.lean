import Derived.Test.YtlfhonlifgpnhaaW1
import Derived.Test.YtlfhonlifgpnhaaBits
namespace Go.Proofs.Ytlfhonlifgpnhaa
open Go.RowKit

theorem Below_of {w w' : World} (h : w.grownBy w' none) : Below w.heap.size w w' := ⟨h.os, h.tape, h.output, h.size, fun k hk => h.block k hk (by simp)⟩

/-- One byte appended into an owned row with room: what the walk's law leaves, joined. -/
theorem grown_step {w wr w1 : World} (o : Obj) (hg : w.grownBy wr none) (hs : w.heap.size < wr.heap.size) (h : (wr.alloc o).grownBy w1 (some w.heap.size)) : w.grownBy w1 none ∧ w.heap.size < w1.heap.size := by
  have hs1 : (wr.alloc o).heap.size = wr.heap.size + 1 := by simp
  refine ⟨⟨h.os.trans hg.os, h.tape.trans hg.tape, h.output.trans hg.output, ?_, fun k hk _ => ?_⟩, ?_⟩
  · have := h.size; omega
  · rw [h.block k (by omega) (by intro e; have := Option.some.inj e; omega), Below.heap_alloc wr o k (by omega)]
    exact hg.block k hk (by simp)
  · have := h.size; omega

set_option maxHeartbeats 1000000 in
set_option maxRecDepth 100000 in
theorem putV_any (ao : Option Addr) (n cap : Nat) (zs : List Int) (x : Nat) (w : World) (hb : Byt w ao n cap zs) (hn : n ≤ 140737488351232) (hx : x < 18446744073709551616) :
    Calls Try.prog 63 #[.slice ao n cap, .int .u64 x] w fun e w' =>
      e = .returned (.slice (some ⟨w.heap.size, 0, none⟩) (n + (vform x).length) (n + (vform x).length)) ∧
      w'.ownsRow w.heap.size 5 1 (.slice (some ⟨w.heap.size, 0, none⟩) (n + (vform x).length) (n + (vform x).length)) (n + (vform x).length) ((zs ++ vform x).map (Value.int .u8)) ∧ w.grownBy w' none ∧ w.heap.size < w'.heap.size := by
  obtain ⟨i0, hi, hz0, hz1, hz2⟩ := info_parts info_u8
  have HL : Hid (zs.length = n) := hb.len
  have hv1 := vform_pos x
  have hv2 := vform_le x
  go_enter Try.func63, Try.ntmps63
  go_wp2_with fail
  refine (vlen_calls x _ hx).mono ?_
  rintro e w' ⟨rfl, rfl⟩
  go_wp2_with fail
  refine (copy_any ao n cap zs (vform x).length _ hb (by omega) hn).mono ?_
  rintro e w0 ⟨rfl, hown0, hg0, hs0⟩
  clear hb
  go_wp2
  go_loopw [5, 1] (fun out sx wr => ∃ (f y : Nat) (pre : List Int), 1 ≤ f ∧ f ≤ 10 ∧ y < 2 * 128 ^ (f - 1) ∧ sx = .int .u64 y ∧ y < 18446744073709551616 ∧ pre ++ lf f y = zs ++ vform x ∧
      out = .slice (some ⟨w'.heap.size, 0, none⟩) pre.length (n + (vform x).length) ∧
      wr.ownsRow w'.heap.size 5 1 (.slice (some ⟨w'.heap.size, 0, none⟩) pre.length (n + (vform x).length)) pre.length (pre.map (Value.int .u8)) ∧ w'.grownBy wr none ∧ w'.heap.size < wr.heap.size)
    (fun _ sx _ => (intOf sx).toNat)
  case atStart => exact ⟨10, x, zs, by omega, by omega, by simp; omega, rfl, hx, rfl, by rw [HL.out], by rw [HL.out]; exact hown0, hg0, hs0⟩
  case round =>
    obtain ⟨f, y, pre, hf1, hf2, hy, rfl, hy64, hpre, rfl, hown, hg, hs⟩ := hrel
    have HP : Hid (pre ++ lf f y = zs ++ vform x) := hpre
    have hlen : pre.length + (lf f y).length = n + (vform x).length := by have := congrArg List.length hpre; simp at this; have := HL.out; omega
    have hfl := lf_pos f y hf1
    have hroom : pre.length + 1 ≤ n + (vform x).length := by omega
    have HY : Hid (y < 2 * 128 ^ (f - 1)) := hy
    clear hpre hlen hfl hy
    by_cases hlt : y < 128
    · go_wp2_with (at_builtin; refine wpList_append_fits _ rfl _ _ 34 rfl w'.heap.size 5 i0 1 Try.underlying34 hi hz1 w'.heap.size pre.length (n + (vform x).length) _ rfl (hown.alloc _) ⟨wr.heap.size, 0, none⟩ 1 1 [.int .u8 (y : Int)] rfl rfl (cell_one_new _ _ _) (by intro u hu; simp at hu; subst hu; rfl) hroom ?_)
      intro w1 hown1 hg1
      obtain ⟨hg2, hs2⟩ := grown_step _ hg hs hg1
      have hfin : pre ++ [(y : Int)] = zs ++ vform x := by rw [← HP.out]; obtain ⟨f', rfl⟩ : ∃ f', f = f' + 1 := ⟨f - 1, by omega⟩; rw [lf_small f' y hlt]
      have hl1 : pre.length + 1 = n + (vform x).length := by have := congrArg List.length hfin; simp at this; have := HL.out; omega
      have hown2 : w1.ownsRow w'.heap.size 5 1 (.slice (some ⟨w'.heap.size, 0, none⟩) (n + (vform x).length) (n + (vform x).length)) (n + (vform x).length) ((zs ++ vform x).map (Value.int .u8)) := by
        rw [← hfin, ← hl1, List.map_append]; exact hl1 ▸ hown1
      have HF : Hid (pre.length + 1 = n + (vform x).length) := hl1
      clear hown1 hfin hl1 hg1 hown
      go_wp2
      go_ret
      rw [HF.out]
      exact ⟨rfl, hown2, hg2, hs2⟩
    · have hb8 : bits BinOp.or IntKind.u8 ((y : Int) % 256) 128 = ((y % 128 + 128 : Nat) : Int) := by
        have := u8_or_nat (y % 256) 128 (by omega) (by omega)
        rw [show ((y % 256 : Nat) : Int) = (y : Int) % 256 by omega] at this
        have e := or_128 (y % 256) (by omega)
        rw [show (128 : Int) = ((128 : Nat) : Int) from rfl, this, e]
        omega
      have HB8 : Hid (bits BinOp.or IntKind.u8 ((y : Int) % 256) 128 = ((y % 128 + 128 : Nat) : Int)) := hb8
      clear hb8
      go_wp2_with (at_builtin; refine wpList_append_fits _ rfl _ _ 34 rfl w'.heap.size 5 i0 1 Try.underlying34 hi hz1 w'.heap.size pre.length (n + (vform x).length) _ rfl (hown.alloc _) ⟨wr.heap.size, 0, none⟩ 1 1 [.int .u8 (bits BinOp.or IntKind.u8 ((y : Int) % 256) 128)] rfl rfl (cell_one_new _ _ _) (by intro u hu; simp at hu; subst hu; rfl) hroom ?_)
      intro w1 hown1 hg1
      obtain ⟨hg2, hs2⟩ := grown_step _ hg hs hg1
      rw [HB8.out] at hown1
      clear hg1 hown
      obtain ⟨f', rfl⟩ : ∃ f', f = f' + 1 := ⟨f - 1, by omega⟩
      have hy := HY.out
      have hp := HP.out
      rw [lf_big f' y hlt] at hp
      have hf' : 1 ≤ f' := by
        rcases Nat.eq_zero_or_pos f' with h | h
        · subst h; simp at hy; omega
        · exact h
      have hy2 : y / 128 < 2 * 128 ^ (f' - 1) := by
        rw [Nat.add_sub_cancel, show f' = (f' - 1) + 1 by omega, Nat.pow_succ] at hy
        omega
      have hp2 : (pre ++ [((y % 128 + 128 : Nat) : Int)]) ++ lf f' (y / 128) = zs ++ vform x := by rw [← hp]; simp
      have HP2 : Hid ((pre ++ [((y % 128 + 128 : Nat) : Int)]) ++ lf f' (y / 128) = zs ++ vform x) := hp2
      have HY2 : Hid (y / 128 < 2 * 128 ^ (f' - 1)) := hy2
      clear hp hp2 hy hy2 HB8 HP HY
      go_wp2
      go_roundw
      case rel => exact ⟨f', y / 128, pre ++ [((y % 128 + 128 : Nat) : Int)], hf', by omega, HY2.out, by go_num, by omega, HP2.out, by simp, by simpa using hown1, hg2, hs2⟩
      case measure => simp [intOf]; omega

/-- PutV behind no bytes. -/
theorem putV_nil (x : Nat) (w : World) (hx : x < 18446744073709551616) :
    Calls Try.prog 63 #[.slice none 0 0, .int .u64 x] w fun e w' =>
      e = .returned (.slice (some ⟨w.heap.size, 0, none⟩) (vform x).length (vform x).length) ∧ Byt w' (some ⟨w.heap.size, 0, none⟩) (vform x).length (vform x).length (vform x) ∧ w.grownBy w' none ∧ w.heap.size < w'.heap.size := by
  refine (putV_any none 0 0 [] x w (Byt.empty w) (by omega) hx).mono ?_
  rintro e w' ⟨rfl, hown, hg, hs⟩
  simp only [Nat.zero_add, List.nil_append] at hown
  simp only [Nat.zero_add]
  exact ⟨trivial, Byt.of_owns hown, hg, hs⟩
end Go.Proofs.Ytlfhonlifgpnhaa
