import Derived.Test.YtcjgmiilfjjbcaaGreatDoorSrM
import Derived.Lib.SlTrimSet
import Derived.Lib.SpaceUEq
namespace Go.Proofs.YtcjgmiilfjjbcaaGreatDoor
open Go.RowKit

set_option maxHeartbeats 4000000 in
set_option maxRecDepth 100000 in
theorem indexRune_vs (s : ByteArray) (r : Int) (w : World) (hz4 : s.size < (Utf8.encode r).size) (h : 128 ≤ r) (h2 : r ≠ 65533) (h3 : validRune r = true) :
    Calls Tryz.prog 70 #[.string s, .int .i32 r] w fun en w' => en = .returned (.int .i64 (-1)) ∧ w.grownBy w' none := by
  have g1 : ¬ r < 128 := by omega
  have g2 : (r == 65533) = false := by rw [beq_eq_false_iff_ne]; exact h2
  have g3 : 0 ≤ r := by omega
  obtain ⟨e1, e2, e3⟩ := encode_facts r (by rw [validRune_eq]; exact h3) h
  generalize hE : Utf8.encode r = E at *
  obtain ⟨k, hk⟩ : ∃ k, E.size = k + 1 := ⟨E.size - 1, by omega⟩
  have k1 : ¬ (k : Int) < (s.size : Int) := by omega
  clear h2 e3
  go_enter Tryz.func70, Tryz.ntmps70
  go_wp2_with fail
  refine (validRune_any r w g3).mono ?_
  rintro en w ⟨rfl, rfl⟩
  rw [h3]
  go_wp2
  go_step3
  have hE1 : ((E.size : Nat) : Int) - 1 = (k : Int) := by omega
  go_wp2
  go_loopw [9, 10, 11, 12] (fun a b _ _ wr => a = .int .i64 (k : Nat) ∧ b = .int .i64 0 ∧ wr = w) (fun _ _ _ _ _ => 0)
  case atStart => exact ⟨rfl, rfl, rfl⟩
  case round =>
    obtain ⟨rfl, rfl, rfl⟩ := hrel
    go_wp2
    rw [Exit.noGoto_ret]
    go_wp2
    go_ret
    exact ⟨rfl, World.grownBy.refl _ _⟩
set_option maxHeartbeats 4000000 in
set_option maxRecDepth 100000 in
theorem indexRune_vl (s : ByteArray) (r : Int) (w : World) (hs : Asc s) (hz4 : (Utf8.encode r).size ≤ s.size) (h : 128 ≤ r) (h2 : r ≠ 65533) (h3 : validRune r = true) :
    Calls Tryz.prog 70 #[.string s, .int .i32 r] w fun en w' => en = .returned (.int .i64 (-1)) ∧ w.grownBy w' none := by
  have g1 : ¬ r < 128 := by omega
  have g2 : (r == 65533) = false := by rw [beq_eq_false_iff_ne]; exact h2
  have g3 : 0 ≤ r := by omega
  obtain ⟨e1, e2, e3⟩ := encode_facts r (by rw [validRune_eq]; exact h3) h
  generalize hE : Utf8.encode r = E at *
  obtain ⟨k, hk⟩ : ∃ k, E.size = k + 1 := ⟨E.size - 1, by omega⟩
  have k1 : (k : Int) < (s.size : Int) := by omega
  have k2 : k < s.size := by omega
  have k3 : k < E.size := by omega
  have hc : 128 ≤ (E[k]'k3).toNat := by
    have := e3 (by omega)
    have ek : E.size - 1 = k := by omega
    simp only [ek] at this
    exact this
  have hd : ((s[k]'k2) == (E[k]'k3)) = false := by
    rw [beq_eq_false_iff_ne]; intro e; have := hs.at k2; rw [e] at this; omega
  have HC : Hid (∀ W : World, Calls Tryz.prog 88 #[.string (s.extract (k + 1) s.size), .int .u8 ((E[k]'k3).toNat : Nat)] W fun e w' => e = .returned (.int .i64 (-1)) ∧ w' = W) := by
    intro W
    refine (indexByte_call (s.extract (k + 1) s.size) ((E[k]'k3).toNat : Nat) W).mono ?_
    rintro e w' ⟨rfl, rfl⟩
    have hh := asc_no hs (k + 1) s.size (E[k]'k3) hc
    have h2 : ((((E[k]'k3).toNat : Nat) : Int).toNat.toUInt8) = (E[k]'k3) := by simp
    rw [h2, hh]
    exact ⟨rfl, rfl⟩
  clear h2 e3
  go_enter Tryz.func70, Tryz.ntmps70
  go_wp2_with fail
  refine (validRune_any r w g3).mono ?_
  rintro en w ⟨rfl, rfl⟩
  rw [h3]
  go_wp2
  go_step3
  have hE1 : ((E.size : Nat) : Int) - 1 = (k : Int) := by omega
  go_wp2
  go_loopw [9, 10, 11, 12] (fun a b _ _ wr => a = .int .i64 (k : Nat) ∧ b = .int .i64 0 ∧ wr = w) (fun _ _ _ _ _ => 0)
  case atStart => exact ⟨rfl, rfl, rfl⟩
  case round =>
    obtain ⟨rfl, rfl, rfl⟩ := hrel
    go_wp2
    go_step3
    have hsk := hs.at k2
    have n1 : (((s[k]'k2).toNat : Int) == ((E[k]'k3).toNat : Int)) = false := by rw [beq_eq_false_iff_ne]; omega
    have n2 : ((s[k]'k2).toNat == (E[k]'k3).toNat) = false := by rw [beq_eq_false_iff_ne]; omega
    have n3 : (((s[k]'k2).toNat : Int) != ((E[k]'k3).toNat : Int)) = true := by simp only [bne, n1]; rfl
    have n4 : IntKind.i64.wrap ((k : Int) + 1) = (k : Int) + 1 := wrap_small _ (by omega) (by omega)
    have k4 : (k : Int) + 1 ≤ (s.size : Int) := by omega
    have k5 : k + 1 ≤ s.size := by omega
    have k6 : (k : Int) < (E.size : Int) := by omega
    have k7 : (0 : Int) ≤ (k : Int) + 1 := by omega
    have k8 : ((k : Int) + 1).toNat = k + 1 := by omega
    go_wp2
    clear hk hE1
    go_quiet (fail)
    go_upto_region 7 with fail
    generalize hw1 : wr.drewN _ = w1
    have HQ : Hid (Qt wr w1) := by rw [← hw1]; exact Qt.drewN _ _
    clear hw1
    go_quiet ((go_at_call 88; exact Calls.quiet_of_same (HC.out _)))
    go_wp2
    rw [Exit.noGoto_ret]
    go_wp2
    rw [Exit.noGoto_ret]
    go_wp2
    go_ret
    exact ⟨rfl, (HQ.out.trans (Qt.drewN _ _)).grown none⟩
/-- The blanks. -/
def blk2 : ByteArray := ⟨#[32, 9]⟩
theorem blk_asc : Asc blk2 := by
  intro b hb
  have : b ∈ [32, 9] := hb
  revert b
  decide
theorem ixr_blk (r : Nat) (h : r < 128) : (0 ≤ ixr blk2 (r : Nat)) = (isb (UInt8.ofNat r) = true) := by
  have : ∀ r : Fin 128, (0 ≤ ixr blk2 (r.1 : Nat)) = (isb (UInt8.ofNat r.1) = true) := by
    intro r
    apply propext
    revert r
    decide +kernel
  exact this ⟨r, h⟩
theorem indexRune_b (r : Int) (w : World) (h : 0 ≤ r) :
    Calls Tryz.prog 70 #[.string blk2, .int .i32 r] w fun en w' => en = .returned (.int .i64 (ixr blk2 r)) ∧ w.grownBy w' none := by
  unfold ixr
  by_cases h1 : r < 128
  · rw [if_pos h1]
    refine (indexRune_call blk2 r w h h1).mono ?_
    rintro en w' ⟨rfl, rfl⟩
    exact ⟨rfl, World.grownBy.refl _ _⟩
  · rw [if_neg h1]
    by_cases h2 : r = 65533
    · subst h2; exact indexRune_bad blk2 w blk_asc
    · cases h3 : validRune r with
      | false =>
        refine (indexRune_inv blk2 r w (by omega) h2 h3).mono ?_
        rintro en w' ⟨rfl, rfl⟩
        exact ⟨rfl, World.grownBy.refl _ _⟩
      | true =>
        by_cases hz : (Utf8.encode r).size ≤ blk2.size
        · exact indexRune_vl blk2 r w blk_asc hz (by omega) h2 h3
        · exact indexRune_vs blk2 r w (by omega) (by omega) h2 h3
end Go.Proofs.YtcjgmiilfjjbcaaGreatDoor

namespace Go.Proofs.YtcjgmiilfjjbcaaGreatDoor
open Go.RowKit

set_option maxHeartbeats 400000 in
set_option maxRecDepth 100000 in
theorem useSet_any (n : Int) (w : World) : Calls Tryz.prog 71 #[.int .i64 n] w fun en w' => en = .returned (.bool (decide (8 < n))) ∧ w' = w := by
  go_enter Tryz.func71, Tryz.ntmps71
  go_wp2
  go_ret
  exact ⟨rfl, rfl⟩
theorem zero_set : ∀ w, (zeroValue 106).run Tryz.prog w = .ok (.agg (Array.replicate 256 (.bool false))) w := (zero_of_info (P := Tryz.prog) (n := 256) (by kernel_rfl)).1
/-- None of the first i is a blank. -/
def Nbs (T : List UInt8) (i : Nat) : Prop := ∀ j, j < i → isb (T.getD j 0) = false
theorem take_nbl : ∀ (T : List UInt8) (i : Nat), i < T.length → Nbs T i → isb (T.getD i 0) = true → (T.takeWhile nbl).length = i
  | [], i, h, _, _ => by simp at h
  | c :: T, 0, _, _, h => by
    have : nbl c = false := by unfold nbl; simp at h; rw [h]; rfl
    rw [List.takeWhile_cons, this]
    rfl
  | c :: T, i + 1, hl, hn, h => by
    have h0 := hn 0 (by omega)
    have : nbl c = true := by unfold nbl; simp at h0; rw [h0]; rfl
    rw [List.takeWhile_cons, this]
    have := take_nbl T i (by simpa using hl) (fun j hj => by have := hn (j + 1) (by omega); simpa using this) (by simpa using h)
    simp [this]
theorem take_all : ∀ (T : List UInt8), Nbs T T.length → T.takeWhile nbl = T
  | [], _ => rfl
  | c :: T, hn => by
    have h0 := hn 0 (by simp)
    have : nbl c = true := by unfold nbl; simp at h0; rw [h0]; rfl
    rw [List.takeWhile_cons, this]
    have := take_all T (fun j hj => by have := hn (j + 1) (by simpa using hj); simpa using this)
    simp [this]
theorem iab_at {T : List UInt8} {i : Nat} (h : i < T.length) (hn : Nbs T i) (hb : isb (T.getD i 0) = true) : iab T = i := by
  unfold iab
  rw [take_nbl T i h hn hb, if_neg (by omega)]
theorem iab_none {T : List UInt8} (hn : Nbs T T.length) : iab T = -1 := by
  unfold iab
  rw [take_all T hn, if_pos rfl]
theorem Nbs.more {T : List UInt8} {i : Nat} (hn : Nbs T i) (hb : isb (T.getD i 0) = false) : Nbs T (i + 1) := fun j hj => by
  by_cases e : j < i
  · exact hn j e
  · obtain rfl : j = i := by omega
    exact hb
theorem isb_hi {c : UInt8} (h : 128 ≤ c.toNat) : isb c = false := by
  unfold isb
  have h1 : c ≠ 32 := fun e => by subst e; simp at h
  have h2 : c ≠ 9 := fun e => by subst e; simp at h
  simp [h1, h2]
theorem iab_lib : ∀ T : List UInt8, Lib.indexAny T [32, 9] = iab T
  | [] => rfl
  | c :: T => by
    have ih := iab_lib T
    rw [Lib.indexAny, ih]
    have hc : [32, 9].contains c = isb c := by unfold isb; simp; rfl
    rw [hc]
    unfold iab
    by_cases h : isb c = true
    · have h2 : nbl c = false := by unfold nbl; rw [h]; rfl
      rw [List.takeWhile_cons, h2, h]
      simp
    · have h2 : nbl c = true := by unfold nbl; simp at h; rw [h]; rfl
      rw [List.takeWhile_cons, h2, if_neg h, if_pos rfl, List.length_cons, List.length_cons]
      by_cases e : (T.takeWhile nbl).length = T.length
      · rw [if_pos e, e, if_pos rfl]
        rfl
      · have e1 : (((T.takeWhile nbl).length : Int) == -1) = false := by rw [beq_eq_false_iff_ne]; omega
        have e2 : ¬ (T.takeWhile nbl).length + 1 = T.length + 1 := by omega
        rw [if_neg e, if_neg e2, e1]
        simp
theorem get_data (s : ByteArray) (i : Nat) : s.get! i = s.data.toList.getD i 0 := by
  cases s with
  | mk d =>
    show d[i]! = _
    rw [Array.getElem!_eq_getD]
    simp [Array.getD_eq_getD_getElem?, List.getD]
    rfl
/-- A rune's bytes behind the first, where that is none of ASCII. -/
theorem decode_bytes (s : ByteArray) (pos : Nat) (h : pos < s.size) (ha : 128 ≤ (s[pos]'h).toNat) : pos + (Utf8.decode s pos).2 ≤ s.size ∧ ∀ j, pos ≤ j → j < pos + (Utf8.decode s pos).2 → 128 ≤ (s.data.toList.getD j 0).toNat := by
  have hc := Lib.decodeN_conts (s.size - pos) (s.get! pos).toNat (s.get! (pos + 1)).toNat (s.get! (pos + 2)).toNat (s.get! (pos + 3)).toNat
  rw [← Lib.decode_at] at hc
  rw [← getD_data s pos h] at ha
  obtain ⟨h1, h2, h3, h4⟩ := hc
  rw [get_data] at h1 h2 h3
  refine ⟨?_, fun j hj hj2 => ?_⟩
  · by_cases g4 : 4 ≤ (Utf8.decode s pos).2
    · have := h3 g4; omega
    · by_cases g3 : 3 ≤ (Utf8.decode s pos).2
      · have := h2 g3; omega
      · by_cases g2 : 2 ≤ (Utf8.decode s pos).2
        · have := h1 g2; omega
        · omega
  · by_cases e0 : j = pos
    · subst e0; exact ha
    · by_cases e1 : j = pos + 1
      · subst e1; have := (h1 (by omega)).1; omega
      · by_cases e2 : j = pos + 2
        · subst e2; have := (h2 (by omega)).1; omega
        · have e3 : j = pos + 3 := by omega
          subst e3; have := (h3 (by omega)).1; omega
theorem indexAny_long (s : ByteArray) (w : World) (h8 : 8 < s.size) (hs : s.size ≤ 2000000000) :
    Calls Tryz.prog 54 #[.string s, .string ⟨#[32, 9]⟩] w fun en w' => en = .returned (.int .i64 (iab s.data.toList)) ∧ w.grownBy w' none := by
  refine (indexAnyLong_call s blk2 w zero_set (by decide) h8 (by omega) (by decide) (fun j b hj => blk_asc b (List.mem_of_getElem? hj))).mono ?_
  rintro en w' ⟨rfl, rfl⟩
  refine ⟨?_, (World.grownBy_alloc w _ none).trans (World.grownBy_alloc _ _ none)⟩
  rw [show blk2.data.toList = [32, 9] from rfl, iab_lib]
set_option maxHeartbeats 4000000 in
set_option maxRecDepth 100000 in
theorem indexAny_short (s : ByteArray) (w : World) (h8 : s.size ≤ 8) :
    Calls Tryz.prog 54 #[.string s, .string ⟨#[32, 9]⟩] w fun en w' => en = .returned (.int .i64 (iab s.data.toList)) ∧ w.grownBy w' none := by
  have HR : Hid (∀ (r : Int) (W : World), 0 ≤ r → Calls Tryz.prog 70 #[.string ⟨#[32, 9]⟩, .int .i32 r] W fun en w' => en = .returned (.int .i64 (ixr blk2 r)) ∧ W.grownBy w' none) := fun r W h => indexRune_b r W h
  have hl := size_data s
  generalize hT : s.data.toList = T at *
  have HTL := hid_intro hl
  have HTT := hid_intro hT
  have h8' : ¬ 8 < s.size := by omega
  clear hl hT h8
  go_enter Tryz.func54, Tryz.ntmps54
  go_wp2_with fail
  refine (useSet_any _ _).mono ?_
  rintro en w1 ⟨rfl, rfl⟩
  rw [show decide ((8 : Int) < (s.size : Int)) = false from decide_eq_false (by omega)]
  go_wp2
  generalize hK : w1.heap.size = Kb
  have IT : Hid ((w1.iter s 0).heap[Kb]? = some (.stringIter s 0)) := by rw [← hK]; exact World.iter_heap w1 s 0
  have G1 : Hid (w1.grownBy (w1.iter s 0) none) := World.grownBy_alloc w1 _ none
  have HK : Hid (w1.heap.size ≤ Kb) := by show _ ≤ _; omega
  clear hK
  generalize w1.iter s 0 = w0 at *
  go_loopw [9, 10] (fun _ _ wr => ∃ pos : Nat, pos ≤ s.size ∧ w1.grownBy wr none ∧ wr.heap[Kb]? = some (.stringIter s pos) ∧ Nbs T pos) (fun _ _ wr => s.size - wr.iterPos Kb)
  case atStart => exact ⟨0, Nat.zero_le _, G1.out, IT.out, fun j hj => by omega⟩
  case round =>
    obtain ⟨pos, hp', hg, hit, hdg⟩ := hrel
    have HG := hid_intro hg
    have HIT := hid_intro hit
    have HDG := hid_intro hdg
    clear G1 IT hg hdg hit
    by_cases hp : pos < s.size
    · have hnx : ∀ ty, (Instr.next (.pointer (some ⟨Kb, 0, none⟩)) true ty).run Tryz.prog wr = _ := fun ty => Lib.run_next_any_at wr Kb s pos ty HIT.out hp
      have hgd := getD_data s pos hp
      rw [HTT.out] at hgd
      have HGD := hid_intro hgd
      clear hgd
      by_cases hasc : (s[pos]'hp).toNat < 128
      · have hdec := decode_ascii s pos hp hasc
        rw [hdec] at hnx
        have hix := ixr_blk (s[pos]'hp).toNat hasc
        have hu : UInt8.ofNat (s[pos]'hp).toNat = s[pos]'hp := by simp
        rw [hu] at hix
        have HIX := hid_intro hix
        clear hdec hix hu
        have GI := hid_intro (grown_iter HG.out (k := Kb) HK.out s (pos + 1))
        have II := hid_intro (Lib.iterAt_heap wr Kb s pos (pos + 1) HIT.out)
        go_wp2_with fail
        refine (HR.out _ _ (by omega)).mono ?_
        rintro en w2 ⟨rfl, hg2⟩
        have i2 : w2.heap[Kb]? = some (.stringIter s (pos + 1)) := by rw [hg2.block Kb (Array.getElem?_eq_some_iff.1 II.out).1 (by simp)]; exact II.out
        have ITE := hid_intro i2
        have GE := hid_intro (grown_trans GI.out hg2)
        clear i2 hg2
        by_cases hb : isb (s[pos]'hp) = true
        · have hx : 0 ≤ ixr blk2 ((s[pos]'hp).toNat : Nat) := by rw [HIX.out]; exact hb
          clear HIX
          generalize ixr blk2 ((s[pos]'hp).toNat : Nat) = x at *
          go_wp2
          go_ret
          refine ⟨?_, GE.out⟩
          rw [iab_at (by have := HTL.out; omega) HDG.out (by rw [HGD.out]; exact hb)]
          rfl
        · have hx : ¬ 0 ≤ ixr blk2 ((s[pos]'hp).toNat : Nat) := by rw [HIX.out]; exact hb
          have HDG2 : Hid (Nbs T (pos + 1)) := HDG.out.more (by rw [HGD.out]; simpa using hb)
          clear HIX
          generalize ixr blk2 ((s[pos]'hp).toNat : Nat) = x at *
          have HMS : Hid (s.size - w2.iterPos Kb < s.size - wr.iterPos Kb) := by
            show _ < _
            simp only [World.iterPos, ITE.out, HIT.out]
            omega
          go_wp2
          go_roundw
          case rel => exact ⟨pos + 1, by omega, GE.out, ITE.out, HDG2.out⟩
          case measure => exact HMS.out
      · obtain ⟨hr1, hr2⟩ := decode_high s pos hp (by omega)
        have hr3 := decode_le s pos
        obtain ⟨hb1, hb2⟩ := decode_bytes s pos hp (by omega)
        rw [HTT.out] at hb2
        have GI := hid_intro (grown_iter HG.out (k := Kb) HK.out s (pos + (Utf8.decode s pos).2))
        have II := hid_intro (Lib.iterAt_heap wr Kb s pos (pos + (Utf8.decode s pos).2) HIT.out)
        have HX : Hid (ixr blk2 ((Utf8.decode s pos).1 : Nat) = -1) := by show _ = _; unfold ixr; rw [if_neg (by omega)]
        have HDG2 : Hid (Nbs T (pos + (Utf8.decode s pos).2)) := fun j hj => by
          by_cases e : j < pos
          · exact HDG.out j e
          · exact isb_hi (hb2 j (by omega) hj)
        generalize (Utf8.decode s pos).1 = rn at *
        generalize (Utf8.decode s pos).2 = wd at *
        go_wp2_with fail
        refine (HR.out _ _ (by omega)).mono ?_
        rintro en w2 ⟨rfl, hg2⟩
        rw [HX.out]
        have i2 : w2.heap[Kb]? = some (.stringIter s (pos + wd)) := by rw [hg2.block Kb (Array.getElem?_eq_some_iff.1 II.out).1 (by simp)]; exact II.out
        have ITE := hid_intro i2
        have GE := hid_intro (grown_trans GI.out hg2)
        have HMS : Hid (s.size - w2.iterPos Kb < s.size - wr.iterPos Kb) := by
          show _ < _
          simp only [World.iterPos, i2, HIT.out]
          omega
        clear i2 hg2
        go_wp2
        go_roundw
        case rel => exact ⟨pos + wd, by omega, GE.out, ITE.out, HDG2.out⟩
        case measure => exact HMS.out
    · obtain rfl : pos = s.size := by omega
      have hnx : ∀ ty, (Instr.next (.pointer (some ⟨Kb, 0, none⟩)) true ty).run Tryz.prog wr = _ := fun ty => Lib.run_next_end_at wr Kb s s.size ty HIT.out hp
      go_wp2
      go_ret
      refine ⟨?_, HG.out⟩
      rw [iab_none (by rw [HTL.out]; exact HDG.out)]
      rfl
theorem indexAny_any (T : List UInt8) (w : World) (hs : T.length ≤ 2000000000) :
    Calls Tryz.prog 54 #[.string (tstr T), .string ⟨#[32, 9]⟩] w fun en w' => en = .returned (.int .i64 (iab T)) ∧ w.grownBy w' none := by
  have hl := tstr_size T
  by_cases h : 8 < (tstr T).size
  · exact indexAny_long (tstr T) w h (by omega)
  · exact indexAny_short (tstr T) w (by omega)
theorem trimLeft_any (T : List UInt8) (w : World) :
    Calls Tryz.prog 53 #[.string (tstr T), .string ⟨#[32, 9]⟩] w fun en w' => en = .returned (.string (tstr (T.dropWhile isb))) ∧ w.grownBy w' none := by
  refine (trimLeft_call (tstr T) blk2 w (by decide) (fun j b hj => blk_asc b (List.mem_of_getElem? hj))).mono ?_
  rintro en w' ⟨rfl, hb⟩
  refine ⟨?_, grown_below hb (Nat.le_refl _)⟩
  have hc : (fun c => [32, 9].contains c) = isb := by funext c; unfold isb; simp; rfl
  show _ = Ending.returned (.string ⟨_⟩)
  unfold Lib.trimLeftS
  rw [show blk2.data.toList = [32, 9] from rfl, hc]
  rfl
set_option maxHeartbeats 1000000 in
set_option maxRecDepth 100000 in
theorem said_any (T : List UInt8) (w : World) (hs : T.length ≤ 2000000000) :
    Calls Tryz.prog 32 #[.string (tstr T)] w fun en w' => en = .returned (.string (tstr (cua 35 T))) ∧ w.grownBy w' none := by
  have HC := hid_intro (cut_any 35 T w hs)
  generalize tstr (cua 35 T) = sa at *
  generalize tstr (cub 35 T) = sb at *
  generalize (cutC 35 T).isSome = f at *
  generalize tstr T = s at *
  go_enter Tryz.func32, Tryz.ntmps32
  go_wp2_with fail
  refine HC.out.mono ?_
  rintro en w' ⟨rfl, hq⟩
  have HQ := hid_intro (hq.grown none)
  clear hq
  go_wp2
  go_ret
  exact ⟨rfl, HQ.out⟩
set_option maxHeartbeats 1000000 in
set_option maxRecDepth 100000 in
theorem nextWord_any (T : List UInt8) (w : World) (hs : T.length ≤ 2000000000) :
    Calls Tryz.prog 31 #[.string (tstr T)] w fun en w' => en = .returned (.tuple #[.string (tstr (nw1 T)), .string (tstr (nw2 T))]) ∧ w.grownBy w' none := by
  have hlen : (T.dropWhile isb).length ≤ 2000000000 := by
    have e2 := congrArg List.length (List.takeWhile_append_dropWhile (p := isb) (l := T))
    rw [List.length_append] at e2
    omega
  have HT := hid_intro (trimLeft_any T w)
  have HI := hid_intro (fun W => indexAny_any (T.dropWhile isb) W hlen)
  unfold nw1 nw2
  generalize T.dropWhile isb = M at *
  have hM := List.takeWhile_append_dropWhile (p := nbl) (l := M)
  have hl := congrArg List.length hM
  rw [List.length_append] at hl
  by_cases hk : (M.takeWhile nbl).length = M.length
  · have e1 : M.takeWhile nbl = M := by
      have h0 : M.dropWhile nbl = [] := List.eq_nil_of_length_eq_zero (by omega)
      rw [h0, List.append_nil] at hM
      exact hM
    have e2 : M.dropWhile nbl = [] := List.eq_nil_of_length_eq_zero (by omega)
    rw [show iab M = -1 by unfold iab; rw [if_pos hk]] at HI
    rw [e1, e2]
    have HN : Hid (tstr [] = ⟨#[]⟩) := rfl
    clear e1 e2 hM hl hk hlen
    generalize tstr M = sm at *
    generalize tstr T = s at *
    go_enter Tryz.func31, Tryz.ntmps31
    go_wp2_with fail
    refine HT.out.mono ?_
    rintro en w1 ⟨rfl, hg1⟩
    have G1 := hid_intro hg1
    clear hg1
    go_wp2_with fail
    refine (HI.out _).mono ?_
    rintro en w2 ⟨rfl, hg2⟩
    have G2 := hid_intro (grown_trans G1.out hg2)
    clear hg2
    go_wp2
    go_ret2
    exact ⟨rfl, G2.out⟩
  · obtain ⟨k, hk2⟩ : ∃ k, (M.takeWhile nbl).length = k := ⟨_, rfl⟩
    have e0 : iab M = (k : Int) := by unfold iab; rw [if_neg hk, hk2]
    have t1 : M.take k = M.takeWhile nbl := by
      have := List.take_left (l₁ := M.takeWhile nbl) (l₂ := M.dropWhile nbl)
      rw [hM, hk2] at this
      exact this
    have t2 : M.drop k = M.dropWhile nbl := by
      have := List.drop_left (l₁ := M.takeWhile nbl) (l₂ := M.dropWhile nbl)
      rw [hM, hk2] at this
      exact this
    have e1 : (tstr M).extract 0 k = tstr (M.takeWhile nbl) := by rw [ext_take, t1]
    have e2 : (tstr M).extract k (tstr M).size = tstr (M.dropWhile nbl) := by rw [ext_drop, t2]
    clear t1 t2
    have hz := tstr_size M
    rw [e0] at HI
    have g0 : (0 : Int) ≤ (k : Int) := by omega
    have g1 : (k : Int) ≤ ((tstr M).size : Int) := by omega
    generalize tstr (M.takeWhile nbl) = sa at *
    generalize tstr (M.dropWhile nbl) = sb at *
    clear e0 hM hl hk hk2 hlen hz
    generalize tstr M = sm at *
    generalize tstr T = s at *
    go_enter Tryz.func31, Tryz.ntmps31
    go_wp2_with fail
    refine HT.out.mono ?_
    rintro en w1 ⟨rfl, hg1⟩
    have G1 := hid_intro hg1
    clear hg1
    go_wp2_with fail
    refine (HI.out _).mono ?_
    rintro en w2 ⟨rfl, hg2⟩
    have G2 := hid_intro (grown_trans G1.out hg2)
    clear hg2
    go_wp2
    go_quiet (fail)
    go_wp2
    go_ret2
    exact ⟨rfl, grown_trans G2.out ((Qt.drewN _ _).grown none)⟩
end Go.Proofs.YtcjgmiilfjjbcaaGreatDoor

namespace Go.Proofs.YtcjgmiilfjjbcaaGreatDoor
open Go.RowKit

/-- The table of steps in its variable. -/
def Sts (w : World) : Prop := ∀ i p, stT[i]? = some p → w.cell? ⟨0, i * 2, none⟩ = some (.string (tstr p.1)) ∧ w.cell? ⟨0, i * 2 + 1, none⟩ = some (.string (tstr p.2))
/-- What is laid. -/
structure Lv (w : World) : Prop where
  pow : Tzd w
  syn : ∃ tp p, w.var? Tryz.prog "strconv.ErrSyntax" = some #[.iface tp p]
  rng : ∃ tp p, w.var? Tryz.prog "strconv.ErrRange" = some #[.iface tp p]
  stp : Sts w
theorem cell_keptS {w w' : World} {g i : Nat} {v : Value} (h : w.cell? ⟨g, i, none⟩ = some v) (hg : w.grownBy w' none) : w'.cell? ⟨g, i, none⟩ = some v := hg.cell h (by simp)
theorem var_keptS {w w' : World} {n : String} {g : Nat} {vs : Array Value} (hn : Tryz.prog.globalNamed n = some g) (h : w.var? Tryz.prog n = some vs) (hg : w.grownBy w' none) : w'.var? Tryz.prog n = some vs := by
  unfold World.var? at h ⊢
  rw [hn] at h ⊢
  simp only [Option.bind_some] at h ⊢
  have hl : g < w.heap.size := by
    rcases Nat.lt_or_ge g w.heap.size with h' | h'
    · exact h'
    · simp [Array.getElem?_eq_none h'] at h
  rw [hg.block g hl (by simp)]
  exact h
theorem syn_named : Tryz.prog.globalNamed "strconv.ErrSyntax" = some 7 := by kernel_rfl
theorem rng_named : Tryz.prog.globalNamed "strconv.ErrRange" = some 8 := by kernel_rfl
theorem Lv.keptN {w w' : World} (h : Lv w) (hg : w.grownBy w' none) : Lv w' :=
  ⟨h.pow.keptN hg, by obtain ⟨tp, p, e⟩ := h.syn; exact ⟨tp, p, var_keptS syn_named e hg⟩, by obtain ⟨tp, p, e⟩ := h.rng; exact ⟨tp, p, var_keptS rng_named e hg⟩, fun i p hp => ⟨cell_keptS (h.stp i p hp).1 hg, cell_keptS (h.stp i p hp).2 hg⟩⟩

set_option maxHeartbeats 400000 in
set_option maxRecDepth 100000 in
theorem isNumber_any (n : Int) (w : World) : Calls Tryz.prog 36 #[.int .i64 n] w fun en w' => en = .returned (.bool (smn n)) ∧ w' = w := by
  unfold smn
  by_cases h : -2147483647 ≤ n
  · rw [show decide (-2147483647 ≤ n) = true from decide_eq_true h, Bool.true_and]
    go_enter Tryz.func36, Tryz.ntmps36
    go_wp2
    go_ret
    exact ⟨rfl, rfl⟩
  · rw [show decide (-2147483647 ≤ n) = false from decide_eq_false h, Bool.false_and]
    go_enter Tryz.func36, Tryz.ntmps36
    go_wp2
    go_ret
    exact ⟨rfl, rfl⟩
theorem smn_le {n : Int} (h : smn n = true) : -2147483647 ≤ n ∧ n ≤ 2147483647 := by
  unfold smn at h
  simpa using h
theorem itoa_any (n : Int) (h0 : -9223372036854775808 ≤ n) (h1 : n ≤ 9223372036854775807) (w : World) (ht : Tzd w) : Calls Tryz.prog 20 #[.int .i64 n] w fun en w' => en = .returned (.string (tstr (Lib.itoa n))) ∧ w.grownBy w' none := by
  refine (itoa_call n h0 h1 w ht).mono ?_
  rintro en w' ⟨rfl, k, os, rfl⟩
  exact ⟨rfl, sort_grownD _ _ _⟩
theorem tstr_toList (T : List UInt8) : (tstr T).toList = T := by rw [ByteArray.toList_eq]; rfl
/-- What readNumber answers. -/
def nmV (T : List UInt8) : Int := (nmb T).getD 0
def nmR (T : List UInt8) : Int := if (nmb T).isSome = true then 0 else 232
set_option maxHeartbeats 2000000 in
set_option maxRecDepth 100000 in
theorem readNumber_any (T : List UInt8) (w : World) (hL : Lv w) (hT : T.length ≤ 2000000000) : Calls Tryz.prog 73 #[.string (tstr T)] w fun en w' => en = .returned (.tuple #[.int .i64 (nmV T), .int .i64 (nmR T)]) ∧ w.grownBy w' none := by
  have hz := tstr_size T
  rcases ha : Lib.atoiAll T with v | _ | _
  · have HA := hid_intro (atoi_ok_call (tstr T) (by omega) v (by rw [tstr_data]; exact ha) w)
    by_cases hs : smn v = true
    · obtain ⟨h0, h1⟩ := smn_le hs
      have HI := hid_intro (fun W hW => itoa_any v (by omega) (by omega) W hW)
      by_cases he : Lib.itoa v = T
      · have HV : Hid (nmV T = v ∧ nmR T = 0) := by
          have : nmb T = some v := by unfold nmb; rw [ha]; exact if_pos ⟨hs, he⟩
          show _ ∧ _
          unfold nmV nmR; rw [this]; exact ⟨rfl, rfl⟩
        rw [he] at HI
        clear ha he hz hT
        generalize nmV T = V at *
        generalize nmR T = R at *
        obtain ⟨rfl, rfl⟩ := HV.out
        generalize tstr T = s at *
        go_enter Tryz.func73, Tryz.ntmps73
        go_wp2_with fail
        refine HA.out.mono ?_
        rintro en w1 ⟨rfl, hw1⟩
        have G1 : Hid (w.grownBy w1 none) := by
          rcases hw1 with rfl | ⟨t, rfl⟩
          · exact World.grownBy.refl _ _
          · exact grown_below (Lib.bytesWorld_below _ _ _) (Nat.le_refl _)
        clear hw1
        go_wp2_with fail
        refine (isNumber_any _ _).mono ?_
        rintro en w2 ⟨rfl, rfl⟩
        rw [hs]
        go_wp2_with fail
        refine (HI.out _ (hL.pow.keptN G1.out)).mono ?_
        rintro en w2 ⟨rfl, hg2⟩
        have G2 := hid_intro (grown_trans G1.out hg2)
        clear hg2
        go_wp2
        go_ret2
        exact ⟨rfl, G2.out⟩
      · have HV : Hid (nmV T = 0 ∧ nmR T = 232) := by
          have : nmb T = none := by unfold nmb; rw [ha]; exact if_neg (fun h => he h.2)
          show _ ∧ _
          unfold nmV nmR; rw [this]; exact ⟨rfl, rfl⟩
        have hne : ((tstr (Lib.itoa v)).toList == (tstr T).toList) = false := by rw [tstr_toList, tstr_toList, beq_eq_false_iff_ne]; exact he
        clear ha he hz hT
        generalize nmV T = V at *
        generalize nmR T = R at *
        obtain ⟨rfl, rfl⟩ := HV.out
        generalize tstr T = s at *
        generalize tstr (Lib.itoa v) = si at *
        go_enter Tryz.func73, Tryz.ntmps73
        go_wp2_with fail
        refine HA.out.mono ?_
        rintro en w1 ⟨rfl, hw1⟩
        have G1 : Hid (w.grownBy w1 none) := by
          rcases hw1 with rfl | ⟨t, rfl⟩
          · exact World.grownBy.refl _ _
          · exact grown_below (Lib.bytesWorld_below _ _ _) (Nat.le_refl _)
        clear hw1
        go_wp2_with fail
        refine (isNumber_any _ _).mono ?_
        rintro en w2 ⟨rfl, rfl⟩
        rw [hs]
        go_wp2_with fail
        refine (HI.out _ (hL.pow.keptN G1.out)).mono ?_
        rintro en w2 ⟨rfl, hg2⟩
        have G2 := hid_intro (grown_trans G1.out hg2)
        clear hg2
        go_wp2
        go_ret2
        exact ⟨rfl, G2.out⟩
    · have HV : Hid (nmV T = 0 ∧ nmR T = 232) := by
        have : nmb T = none := by unfold nmb; rw [ha]; exact if_neg (fun h => hs h.1)
        show _ ∧ _
        unfold nmV nmR; rw [this]; exact ⟨rfl, rfl⟩
      have hs2 : smn v = false := by simpa using hs
      clear ha hz hT hs
      generalize nmV T = V at *
      generalize nmR T = R at *
      obtain ⟨rfl, rfl⟩ := HV.out
      generalize tstr T = s at *
      go_enter Tryz.func73, Tryz.ntmps73
      go_wp2_with fail
      refine HA.out.mono ?_
      rintro en w1 ⟨rfl, hw1⟩
      have G1 : Hid (w.grownBy w1 none) := by
        rcases hw1 with rfl | ⟨t, rfl⟩
        · exact World.grownBy.refl _ _
        · exact grown_below (Lib.bytesWorld_below _ _ _) (Nat.le_refl _)
      clear hw1
      go_wp2_with fail
      refine (isNumber_any _ _).mono ?_
      rintro en w2 ⟨rfl, rfl⟩
      rw [hs2]
      go_wp2
      go_ret2
      exact ⟨rfl, G1.out⟩
  · obtain ⟨tp, p, hv⟩ := hL.syn
    have HA := hid_intro (atoi_syn_call (tstr T) (by omega) (fun v h => by rw [tstr_data, ha] at h; cases h) (fun h => by rw [tstr_data, ha] at h; cases h) tp p w hv)
    have HV : Hid (nmV T = 0 ∧ nmR T = 232) := by
      have : nmb T = none := by unfold nmb; rw [ha]
      show _ ∧ _
      unfold nmV nmR; rw [this]; exact ⟨rfl, rfl⟩
    clear ha hz hT hv
    generalize nmV T = V at *
    generalize nmR T = R at *
    obtain ⟨rfl, rfl⟩ := HV.out
    generalize tstr T = s at *
    go_enter Tryz.func73, Tryz.ntmps73
    go_wp2_with fail
    refine HA.out.mono ?_
    rintro en w1 ⟨N, rfl, hN, hb⟩
    have G1 : Hid (w.grownBy w1 none) := grown_below hb (Nat.le_refl _)
    clear hb
    go_wp2
    go_ret2
    exact ⟨rfl, G1.out⟩
  · obtain ⟨tp, p, hv⟩ := hL.rng
    have HA := hid_intro (atoi_rng_call (tstr T) (by omega) (by rw [tstr_data]; exact ha) tp p w hv)
    have HV : Hid (nmV T = 0 ∧ nmR T = 232) := by
      have : nmb T = none := by unfold nmb; rw [ha]
      show _ ∧ _
      unfold nmV nmR; rw [this]; exact ⟨rfl, rfl⟩
    clear ha hz hT hv
    generalize nmV T = V at *
    generalize nmR T = R at *
    obtain ⟨rfl, rfl⟩ := HV.out
    generalize Lib.atoiSat (tstr T).data.toList = sat at *
    generalize tstr T = s at *
    go_enter Tryz.func73, Tryz.ntmps73
    go_wp2_with fail
    refine HA.out.mono ?_
    rintro en w1 ⟨N, rfl, hN, hb⟩
    have G1 : Hid (w.grownBy w1 none) := grown_below hb (Nat.le_refl _)
    clear hb
    go_wp2
    go_ret2
    exact ⟨rfl, G1.out⟩
/-- What readNumber answers, as one. -/
theorem nm_cases (T : List UInt8) : (∃ n, nmb T = some n ∧ nmE T = .ok n ∧ nmV T = n ∧ nmR T = 0 ∧ smn n = true) ∨ (nmb T = none ∧ nmE T = .error 232 ∧ nmV T = 0 ∧ nmR T = 232) := by
  unfold nmE nmV nmR
  cases h : nmb T with
  | none => right; exact ⟨rfl, rfl, rfl, rfl⟩
  | some n =>
    left
    refine ⟨n, rfl, rfl, rfl, rfl, ?_⟩
    unfold nmb at h
    split at h
    · split at h
      · rename_i hh; cases h; exact hh.1
      · cases h
    · cases h

/-- A number's place in a step. -/
def nAt (b : Nat) (c : Int) : Option Addr := if c = 65 then some ⟨b, 1, none⟩ else if c = 66 then some ⟨b, 2, none⟩ else if c = 67 then some ⟨b, 3, none⟩ else none
def bAt (b : Nat) (c : Int) : Option Addr := if c = 75 then some ⟨b, 4, none⟩ else if c = 86 then some ⟨b, 5, none⟩ else if c = 72 then some ⟨b, 6, none⟩ else none
set_option maxHeartbeats 1000000 in
set_option maxRecDepth 100000 in
theorem numberAt_any (b : Nat) (c : Int) (w : World) : Calls Tryz.prog 42 #[.pointer (some ⟨b, 0, none⟩), .int .i32 c] w fun en w' => en = .returned (.pointer (nAt b c)) ∧ w' = w := by
  unfold nAt
  by_cases h1 : c = 65
  · subst h1
    go_enter Tryz.func42, Tryz.ntmps42
    go_wp2
    go_ret
    exact ⟨rfl, rfl⟩
  · have g1 : (c == 65) = false := by rw [beq_eq_false_iff_ne]; exact h1
    rw [if_neg h1]
    by_cases h2 : c = 66
    · subst h2
      go_enter Tryz.func42, Tryz.ntmps42
      go_wp2
      go_ret
      exact ⟨rfl, rfl⟩
    · have g2 : (c == 66) = false := by rw [beq_eq_false_iff_ne]; exact h2
      rw [if_neg h2]
      by_cases h3 : c = 67
      · subst h3
        go_enter Tryz.func42, Tryz.ntmps42
        go_wp2
        go_ret
        exact ⟨rfl, rfl⟩
      · have g3 : (c == 67) = false := by rw [beq_eq_false_iff_ne]; exact h3
        rw [if_neg h3]
        go_enter Tryz.func42, Tryz.ntmps42
        go_wp2
        go_ret
        exact ⟨rfl, rfl⟩
set_option maxHeartbeats 1000000 in
set_option maxRecDepth 100000 in
theorem bytesAt_any (b : Nat) (c : Int) (w : World) : Calls Tryz.prog 43 #[.pointer (some ⟨b, 0, none⟩), .int .i32 c] w fun en w' => en = .returned (.pointer (bAt b c)) ∧ w' = w := by
  unfold bAt
  by_cases h1 : c = 75
  · subst h1
    go_enter Tryz.func43, Tryz.ntmps43
    go_wp2
    go_ret
    exact ⟨rfl, rfl⟩
  · have g1 : (c == 75) = false := by rw [beq_eq_false_iff_ne]; exact h1
    rw [if_neg h1]
    by_cases h2 : c = 86
    · subst h2
      go_enter Tryz.func43, Tryz.ntmps43
      go_wp2
      go_ret
      exact ⟨rfl, rfl⟩
    · have g2 : (c == 86) = false := by rw [beq_eq_false_iff_ne]; exact h2
      rw [if_neg h2]
      by_cases h3 : c = 72
      · subst h3
        go_enter Tryz.func43, Tryz.ntmps43
        go_wp2
        go_ret
        exact ⟨rfl, rfl⟩
      · have g3 : (c == 72) = false := by rw [beq_eq_false_iff_ne]; exact h3
        rw [if_neg h3]
        go_enter Tryz.func43, Tryz.ntmps43
        go_wp2
        go_ret
        exact ⟨rfl, rfl⟩
theorem kix_step (T : List UInt8) (i : Nat) (p : List UInt8 × List UInt8) (h : stT[i]? = some p) : kix T i (stT.drop i) = if p.1 = T then i else kix T (i + 1) (stT.drop (i + 1)) := by
  obtain ⟨hl, e⟩ := List.getElem?_eq_some_iff.1 h
  rw [List.drop_eq_getElem_cons hl, e]
  rfl
theorem stT_len : stT.length = 23 := rfl
set_option maxHeartbeats 2000000 in
set_option maxRecDepth 100000 in
theorem kindOf_any (T : List UInt8) (w : World) (hL : Sts w) : Calls Tryz.prog 74 #[.string (tstr T)] w fun en w' => en = .returned (.int .i64 (kdw T : Nat)) ∧ w' = w := by
  have HS : Hid (Sts w) := hL
  have HK : Hid (kdw T = kix T 0 (stT.drop 0)) := rfl
  have HT := hid_intro (tstr_toList T)
  generalize hs : tstr T = s at *
  clear hL hs
  go_enter Tryz.func74, Tryz.ntmps74
  go_wp2
  go_loopw [3, 4] (fun _ b wr => ∃ i : Nat, i ≤ 23 ∧ b = .int .i64 (i : Nat) ∧ wr = w ∧ kdw T = kix T i (stT.drop i)) (fun _ b _ => match b with | .int _ z => 23 - z.toNat | _ => 0)
  case atStart => exact ⟨0, by omega, rfl, rfl, HK.out⟩
  case round =>
    obtain ⟨i, hi, rfl, rfl, hk⟩ := hrel
    have HK2 := hid_intro hk
    clear HK hk
    by_cases h : i < 23
    · have hiz : (i : Int) < 23 := by omega
      have hi0 : (0 : Int) ≤ (i : Int) := by omega
      obtain ⟨p, hp⟩ : ∃ p, stT[i]? = some p := ⟨_, List.getElem?_eq_getElem (by rw [stT_len]; exact h)⟩
      have c1 := (HS.out i p hp).1
      have hst := kix_step T i p hp
      have HST := hid_intro hst
      clear hst hp
      have hwr : IntKind.i64.wrap ((i : Int) + 1) = (i : Int) + 1 := wrap_small _ (by omega) (by omega)
      by_cases he : p.1 = T
      · have hb : ((tstr p.1).toList == s.toList) = true := by rw [tstr_toList, HT.out, he]; simp
        have HF : Hid (kdw T = i) := by show _ = _; rw [HK2.out, HST.out, if_pos he]
        generalize tstr p.1 = sp at *
        go_wp2
        go_ret
        exact ⟨by rw [HF.out]; rfl, rfl⟩
      · have hb : ((tstr p.1).toList == s.toList) = false := by rw [tstr_toList, HT.out, beq_eq_false_iff_ne]; exact he
        have HF : Hid (kdw T = kix T (i + 1) (stT.drop (i + 1))) := by show _ = _; rw [HK2.out, HST.out, if_neg he]
        generalize tstr p.1 = sp at *
        go_wp2
        go_roundw
        case rel => exact ⟨i + 1, by omega, by simp, by first | rfl | trivial, HF.out⟩
        case measure => simp; omega
    · obtain rfl : i = 23 := by omega
      have HF : Hid (kdw T = 0) := HK2.out
      go_wp2
      go_ret
      exact ⟨by rw [HF.out]; rfl, rfl⟩
end Go.Proofs.YtcjgmiilfjjbcaaGreatDoor
