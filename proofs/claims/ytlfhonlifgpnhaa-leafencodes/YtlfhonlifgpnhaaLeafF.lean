import Derived.Test.YtlfhonlifgpnhaaLeafT
import Derived.Lib.SlBytesConst
namespace Go.Proofs.Ytlfhonlifgpnhaa
open Go.RowKit

def itA : It := ⟨[97, 98], [], 0, 0⟩
def itB : It := ⟨[97, 98, 99], [121, 122], 2, 0⟩
theorem ab_wrong : wrong [itA, itB] = 0 := by decide
theorem ab_size : size [itA, itB] = 17 := by decide
theorem ab_used : used [itA, itB] = [1, 2, 0, 2, 97, 98, 10, 0, 12, 0, 0, 0, 1, 99, 4, 121, 122] := by decide
theorem ab_body : body [itA, itB] = [1, 2, 0, 2, 97, 98, 10, 0, 12, 0, 0, 0, 1, 99, 4, 121, 122] ++ List.replicate 4075 0 := by
  unfold body
  rw [ab_used]
  simp only [List.length_cons, List.length_nil]
theorem ab_bounds : Ib [itA, itB] := by
  intro x hx
  rcases List.mem_cons.1 hx with rfl | hx
  · exact ⟨btl _ rfl, Bt.nil, by decide, by decide, by decide, by decide⟩
  · obtain rfl := List.mem_singleton.1 hx
    exact ⟨btl _ rfl, btl _ rfl, by decide, by decide, by decide, by decide⟩
theorem ab_good : Good (body [itA, itB]) [itA, itB] := ⟨ab_wrong, by rw [ab_size]; decide, rfl⟩

theorem Il.lit2 (w : World) (x y : It) (a b c d : Option Addr) (n1 c1 n2 c2 n3 c3 n4 c4 : Nat) (k : Nat) (hk : k = w.heap.size) (h1 : Byt w a n1 c1 x.key) (h2 : Byt w b n2 c2 x.val) (h3 : Byt w c n3 c3 y.key) (h4 : Byt w d n4 c4 y.val)
    (l1 : n1 ≤ c1 ∧ c1 ≤ 100) (l2 : n2 ≤ c2 ∧ c2 ≤ 100) (l3 : n3 ≤ c3 ∧ c3 ≤ 100) (l4 : n4 ≤ c4 ∧ c4 ≤ 100) (s1 f1 s2 f2 : Int) (hs1 : x.size = s1) (hf1 : x.first = f1) (hs2 : y.size = s2) (hf2 : y.first = f2) :
    Il (w.alloc (.cells #[.slice a n1 c1, .slice b n2 c2, .int .i64 s1, .int .i64 f1, .slice c n3 c3, .slice d n4 c4, .int .i64 s2, .int .i64 f2] 48)) (some ⟨k, 0, none⟩) [x, y] := by
  subst hk hs1 hf1 hs2 hf2
  have hc := fun i => cell_of_row (w.alloc (.cells #[.slice a n1 c1, .slice b n2 c2, .int .i64 x.size, .int .i64 x.first, .slice c n3 c3, .slice d n4 c4, .int .i64 y.size, .int .i64 y.first] 48)) w.heap.size i _ _ (0, 0) (heap_alloc_new w _)
  refine ⟨fun i hi => ?_⟩
  match i, hi with
  | 0, _ => exact ⟨w.heap.size, 0, a, n1, c1, b, n2, c2, rfl, hc 0, hc 1, hc 2, hc 3, h1.on _, l1.1, by omega, h2.on _, l2.1, by omega⟩
  | 1, _ => exact ⟨w.heap.size, 0, c, n3, c3, d, n4, c4, rfl, hc 4, hc 5, hc 6, hc 7, h3.on _, l3.1, by omega, h4.on _, l4.1, by omega⟩
  | i + 2, h => exact absurd h (by simp)

/-- 'make([]byte, n)' within a region. -/
theorem make_zero (n : Nat) (hn : n ≤ 65536) : ∃ ZZ : Array Value, (∀ W : World, (Instr.makeSlice 34 (.int .i64 (n : Int)) (.int .i64 (n : Int))).run Try.prog W = .ok (.slice (some ⟨W.heap.size, 0, none⟩) n n) (W.alloc (.cells ZZ 5))) ∧ ZZ = ((List.replicate n (0 : Int)).map (Value.int .u8)).toArray := by
  obtain ⟨i0, hi, hz0, hz1, hz2⟩ := info_parts info_u8
  refine ⟨madeCells #[Value.int .u8 0] n, fun W => ?_, by rw [← made]⟩
  have := run_makeSlice (P := Try.prog) (w := W) 34 5 i0 (.int .u8 0) Try.underlying34 hi hz0 .i64 .i64 (n : Int) (n : Int) (by omega) (by omega) (by rw [hz1]; simp; omega) (by rw [hz2]; omega) (by omega)
  rw [hz1, show (Value.int .u8 0).cells = #[Value.int .u8 0] from rfl, Int.toNat_natCast, Nat.mul_one] at this
  exact this
theorem zero_both (w W : World) (G k n : Nat) (xs : List Int) (ZZ : Array Value) (h : Rw w G (xs ++ List.replicate n 0)) (hk : xs.length = k) (hz : ZZ = ((List.replicate n (0 : Int)).map (Value.int .u8)).toArray) (hW : W.heap = (w.alloc (.cells ZZ 5)).heap) :
    Byt W (some ⟨G, k, none⟩) n n (List.replicate n 0) ∧ Byt W (some ⟨w.heap.size, 0, none⟩) n n (List.replicate n 0) := by
  have h1 := (h.keptN (World.grownBy_alloc w (.cells ZZ 5) none)).byt k n n (by rw [List.length_append, List.length_replicate, hk]; exact Nat.le_refl _)
  have h2 : Byt (w.alloc (.cells ZZ 5)) (some ⟨w.heap.size, 0, none⟩) n n (List.replicate n 0) := Byt.litK w 5 ZZ (0, 0) _ n _ (by rw [List.length_replicate]) hz rfl
  rw [← hk, List.drop_left, List.take_of_length_le (by rw [List.length_replicate]; exact Nat.le_refl _)] at h1
  rw [hk] at h1
  exact ⟨h1.heap hW, h2.heap hW⟩

set_option maxHeartbeats 4000000 in
set_option maxRecDepth 100000 in
/-- The two items of which the document says all: true; nothing old is written on. -/
theorem first4_any (w : World) : Calls Try.prog 9 #[] w fun en w' => en = .returned (.bool true) ∧ w.grownBy w' none := by
  obtain ⟨i0, hi, hz0, hz1, hz2⟩ := info_parts info_u8
  have v1 := fun (W : World) (C : Array Value) (n c : Nat) => conv_at W C n c _ rfl
  have v2 := fun (W : World) (o : Obj) (C : Array Value) (n c : Nat) => conv_at (W.alloc o) C n c (W.heap.size + 1) (size_alloc W o).symm
  have v3 := fun (W : World) (o p : Obj) (C : Array Value) (n c : Nat) => conv_at ((W.alloc o).alloc p) C n c (W.heap.size + 2) (by rw [size_alloc, size_alloc])
  go_enter Try.func9, Try.ntmps9
  go_wp2_with fail
  have HIL := hid_intro (Il.lit2 (((w.alloc (.cells #[.int .u8 97, .int .u8 98] 5 (2, 3))).alloc (.cells #[.int .u8 97, .int .u8 98, .int .u8 99] 5 (3, 4))).alloc (.cells #[.int .u8 121, .int .u8 122] 5 (2, 3))) itA itB (some ⟨w.heap.size, 0, none⟩) none (some ⟨w.heap.size + 1, 0, none⟩) (some ⟨w.heap.size + 2, 0, none⟩) 2 2 0 0 3 3 2 2 (w.heap.size + 1 + 1 + 1) (by rw [size_alloc, size_alloc, size_alloc])
    (((Byt.litK w 5 #[.int .u8 97, .int .u8 98] (2, 3) [97, 98] 2 _ rfl rfl rfl).on _).on _) (Byt.empty _) ((Byt.litK _ 5 #[.int .u8 97, .int .u8 98, .int .u8 99] (3, 4) [97, 98, 99] 3 _ rfl rfl (size_alloc w _).symm).on _) (Byt.litK _ 5 #[.int .u8 121, .int .u8 122] (2, 3) [121, 122] 2 _ rfl rfl (by rw [size_alloc, size_alloc])) (by decide) (by decide) (by decide) (by decide) 0 0 2 0 rfl rfl rfl rfl)
  have HG0 := hid_intro (grown_trans (grown_trans (grown_trans (World.grownBy_alloc w (.cells #[.int .u8 97, .int .u8 98] 5 (2, 3)) none) (World.grownBy_alloc _ (.cells #[.int .u8 97, .int .u8 98, .int .u8 99] 5 (3, 4)) none)) (World.grownBy_alloc _ (.cells #[.int .u8 121, .int .u8 122] 5 (2, 3)) none)) (World.grownBy_alloc _ (.cells #[.slice (some ⟨w.heap.size, 0, none⟩) 2 2, .slice none 0 0, .int .i64 0, .int .i64 0, .slice (some ⟨w.heap.size + 1, 0, none⟩) 3 3, .slice (some ⟨w.heap.size + 2, 0, none⟩) 2 2, .int .i64 2, .int .i64 0] 48) none))
  generalize (((w.alloc (.cells #[.int .u8 97, .int .u8 98] 5 (2, 3))).alloc (.cells #[.int .u8 97, .int .u8 98, .int .u8 99] 5 (3, 4))).alloc (.cells #[.int .u8 121, .int .u8 122] 5 (2, 3))).alloc (.cells #[.slice (some ⟨w.heap.size, 0, none⟩) 2 2, .slice none 0 0, .int .i64 0, .int .i64 0, .slice (some ⟨w.heap.size + 1, 0, none⟩) 3 3, .slice (some ⟨w.heap.size + 2, 0, none⟩) 2 2, .int .i64 2, .int .i64 0] 48) = w0 at *
  clear v1 v2 v3
  refine (encode_ok _ 2 2 [itA, itB] _ HIL.out ab_bounds rfl (by omega) ab_wrong (by rw [ab_size]; omega)).mono ?_
  rintro en w1 ⟨G, rfl, hr1, hg1, _⟩
  rw [ab_body] at hr1
  have R1 := hid_intro hr1
  have I1 := hid_intro (HIL.out.keptN hg1)
  have G1 := hid_intro (grown_trans HG0.out hg1)
  clear hr1 hg1 HIL HG0
  have BW := hid_intro (Byt.litK w1 5 #[.int .u8 1, .int .u8 2, .int .u8 0, .int .u8 2, .int .u8 97, .int .u8 98, .int .u8 10, .int .u8 0, .int .u8 12, .int .u8 0, .int .u8 0, .int .u8 0, .int .u8 1, .int .u8 99, .int .u8 4, .int .u8 121, .int .u8 122] (0, 0) [1, 2, 0, 2, 97, 98, 10, 0, 12, 0, 0, 0, 1, 99, 4, 121, 122] 17 w1.heap.size rfl rfl rfl)
  have GW := hid_intro (World.grownBy_alloc w1 (.cells #[.int .u8 1, .int .u8 2, .int .u8 0, .int .u8 2, .int .u8 97, .int .u8 98, .int .u8 10, .int .u8 0, .int .u8 12, .int .u8 0, .int .u8 0, .int .u8 0, .int .u8 1, .int .u8 99, .int .u8 4, .int .u8 121, .int .u8 122] 5) none)
  go_wp2_with fail
  generalize w1.alloc (.cells #[.int .u8 1, .int .u8 2, .int .u8 0, .int .u8 2, .int .u8 97, .int .u8 98, .int .u8 10, .int .u8 0, .int .u8 12, .int .u8 0, .int .u8 0, .int .u8 0, .int .u8 1, .int .u8 99, .int .u8 4, .int .u8 121, .int .u8 122] 5) = w2 at *
  have R2 := hid_intro (R1.out.keptN GW.out)
  have I2 := hid_intro (I1.out.keptN GW.out)
  have G2 := hid_intro (grown_trans G1.out GW.out)
  clear R1 I1 G1 GW
  generalize w1.heap.size = K at *
  refine (num4_any _ _).mono ?_
  rintro en w3 ⟨rfl, rfl⟩
  go_wp2_with fail
  refine (size_any _ 2 2 [itA, itB] _ I2.out rfl (by omega) (by decide)).mono ?_
  rintro en w4 ⟨rfl, hg4⟩
  rw [ab_size]
  have R4 := hid_intro (R2.out.keptN hg4)
  have I4 := hid_intro (I2.out.keptN hg4)
  have G4 := hid_intro (grown_trans G2.out hg4)
  have B4 := hid_intro (BW.out.keptN hg4)
  clear hg4 R2 I2 G2 BW
  have X4 := hid_intro (R4.out.byt 0 17 4092 (by simp))
  go_wp2_with fail
  refine (same_yes _ _ 17 17 4092 17 _ _ _ X4.out B4.out (by rw [List.drop_zero]; exact List.take_left' rfl)).mono ?_
  rintro en w5 ⟨rfl, rfl⟩
  clear X4 B4
  obtain ⟨ZZ, hmk0, hzz⟩ := make_zero 4075 (by omega)
  have hmk : ∀ W : World, (Instr.makeSlice 34 (.int .i64 4075) (.int .i64 4075)).run Try.prog W = .ok (.slice (some ⟨W.heap.size, 0, none⟩) 4075 4075) (W.alloc (.cells ZZ 5)) := hmk0
  clear hmk0
  have HXW : Hid (∀ W : World, W.heap = (w5.alloc (.cells ZZ 5)).heap → Byt W (some ⟨G, 17, none⟩) 4075 4075 (List.replicate 4075 0) ∧ Byt W (some ⟨w5.heap.size, 0, none⟩) 4075 4075 (List.replicate 4075 0)) :=
    fun W hW => zero_both w5 W G 17 4075 _ ZZ R4.out rfl hzz hW
  clear hzz
  have GZ := hid_intro (World.grownBy_alloc w5 (.cells ZZ 5) none)
  go_wp2_with fail
  go_region_with (go_at_call 25; refine (same_yes _ _ 4075 4075 4075 4075 (List.replicate 4075 0) (List.replicate 4075 0) _ (HXW.out _ (by rfl)).1 (HXW.out _ (by rfl)).2 rfl).mono ?_; rintro en w6 ⟨rfl, hw6⟩; have HW6 := hid_intro hw6; clear hw6)
  all_goals
    have hg6 : w5.grownBy w6 none := by rw [HW6.out]; exact grown_trans GZ.out ((Qt.refl _).drew.grown none)
    have R6 := hid_intro (R4.out.keptN hg6)
    have I6 := hid_intro (I4.out.keptN hg6)
    have G6 := hid_intro (grown_trans G4.out hg6)
    clear HW6 hg6 R4 I4 G4 HXW GZ hmk
    have B6 : Hid (Byt w6 (some ⟨G, 0, none⟩) 4092 4092 (body [itA, itB])) := by
      have := R6.out.all 4092 4092 (by simp)
      rw [ab_body]; exact this
    go_wp2_with fail
    refine (decode_any _ 4092 4092 _ _ B6.out (body_bt ab_bounds)).mono ?_
    rintro en w7 ⟨⟨a, n, cap, e, L, rfl, hdec, hil, hib, hn, hnc, hcm⟩, hg7⟩
    obtain ⟨rfl, rfl⟩ : e = 0 ∧ L = [itA, itB] := by
      rcases hdec with ⟨h1, h2, _⟩ | ⟨_, _, h3⟩
      · exact ⟨h1, good_one h2 ab_good⟩
      · exact absurd ⟨ab_good, by rw [body_len ab_wrong (by rw [ab_size]; omega)]⟩ (h3 _)
    have L7 := hid_intro hil
    have I7 := hid_intro (I6.out.keptN hg7)
    have G7 := hid_intro (grown_trans G6.out hg7)
    clear hil hg7 hdec R6 I6 G6 B6
    go_wp2_with fail
    refine (sameItems_any _ n cap [itA, itB] _ 2 2 [itA, itB] _ L7.out ab_bounds hn I7.out ab_bounds rfl (by omega)).mono ?_
    rintro en w8 ⟨⟨b, rfl, hb⟩, hg8⟩
    obtain rfl : b = true := hb.2 rfl
    have G8 := hid_intro (grown_trans G7.out hg8)
    clear hb hg8 G7 L7 I7
    go_wp2_with fail
    refine (encode_wrong none 0 0 [] _ (Il.zero _ _) (fun x hx => by cases hx) rfl (by omega) (by decide)).mono ?_
    rintro en w9 ⟨rfl, hg9⟩
    rw [show wrong [] = 40 by decide]
    have G9 := hid_intro (grown_trans G8.out hg9)
    clear hg9 G8
    go_wp2_with fail
    refine (num4_any _ _).mono ?_
    rintro en w10 ⟨rfl, rfl⟩
    go_wp2_with fail
    refine (num4_any _ _).mono ?_
    rintro en w10 ⟨rfl, rfl⟩
    go_wp2
    go_ret
    exact ⟨rfl, G9.out⟩
end Go.Proofs.Ytlfhonlifgpnhaa
