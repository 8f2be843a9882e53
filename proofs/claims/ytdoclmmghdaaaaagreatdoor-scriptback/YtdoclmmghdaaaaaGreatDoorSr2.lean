import Derived.Test.YtdoclmmghdaaaaaGreatDoorSr1
import Derived.Lib.SlTrimSet
import Derived.Lib.SpaceUEq
namespace Go.Proofs.YtdoclmmghdaaaaaGreatDoor
open Go.RowKit

set_option maxHeartbeats 400000 in
set_option maxRecDepth 100000 in
theorem useSet_any (n : Int) (w : World) : Calls Tryz.prog 61 #[.int .i64 n] w fun en w' => en = .returned (.bool (decide (8 < n))) ∧ w' = w := by
  go_enter Tryz.func61, Tryz.ntmps61
  go_wp2
  go_ret
  exact ⟨rfl, rfl⟩
theorem zero_set : ∀ w, (zeroValue 110).run Tryz.prog w = .ok (.agg (Array.replicate 256 (.bool false))) w := (zero_of_info (P := Tryz.prog) (n := 256) (by kernel_rfl)).1
/-- None of the first i is a blank. -/
def Nbs (T : List UInt8) (i : Nat) : Prop := ∀ j, j < i → isb (T.getD j 0) = false
theorem take_nbl : ∀ (T : List UInt8) (i : Nat), i < T.length → Nbs T i → isb (T.getD i 0) = true → (T.takeWhile nbl).length = i
  | [], i, h, _, _ => by simp at h
  | c :: T, 0, _, _, h => by
    have : nbl c = false := by unfold nbl; simp at h; rw [h]; rfl
    rw [List.takeWhile_cons, this]
    rfl
  | c :: T, i + 1, hl, hn, h => by
    have h0 := hn 0 (by omega)
    have : nbl c = true := by unfold nbl; simp at h0; rw [h0]; rfl
    rw [List.takeWhile_cons, this]
    have := take_nbl T i (by simpa using hl) (fun j hj => by have := hn (j + 1) (by omega); simpa using this) (by simpa using h)
    simp [this]
theorem take_all : ∀ (T : List UInt8), Nbs T T.length → T.takeWhile nbl = T
  | [], _ => rfl
  | c :: T, hn => by
    have h0 := hn 0 (by simp)
    have : nbl c = true := by unfold nbl; simp at h0; rw [h0]; rfl
    rw [List.takeWhile_cons, this]
    have := take_all T (fun j hj => by have := hn (j + 1) (by simpa using hj); simpa using this)
    simp [this]
theorem iab_at {T : List UInt8} {i : Nat} (h : i < T.length) (hn : Nbs T i) (hb : isb (T.getD i 0) = true) : iab T = i := by
  unfold iab
  rw [take_nbl T i h hn hb, if_neg (by omega)]
theorem iab_none {T : List UInt8} (hn : Nbs T T.length) : iab T = -1 := by
  unfold iab
  rw [take_all T hn, if_pos rfl]
theorem Nbs.more {T : List UInt8} {i : Nat} (hn : Nbs T i) (hb : isb (T.getD i 0) = false) : Nbs T (i + 1) := fun j hj => by
  by_cases e : j < i
  · exact hn j e
  · obtain rfl : j = i := by omega
    exact hb
theorem isb_hi {c : UInt8} (h : 128 ≤ c.toNat) : isb c = false := by
  unfold isb
  have h1 : c ≠ 32 := fun e => by subst e; simp at h
  have h2 : c ≠ 9 := fun e => by subst e; simp at h
  simp [h1, h2]
theorem iab_lib : ∀ T : List UInt8, Lib.indexAny T [32, 9] = iab T
  | [] => rfl
  | c :: T => by
    have ih := iab_lib T
    rw [Lib.indexAny, ih]
    have hc : [32, 9].contains c = isb c := by unfold isb; simp; rfl
    rw [hc]
    unfold iab
    by_cases h : isb c = true
    · have h2 : nbl c = false := by unfold nbl; rw [h]; rfl
      rw [List.takeWhile_cons, h2, h]
      simp
    · have h2 : nbl c = true := by unfold nbl; simp at h; rw [h]; rfl
      rw [List.takeWhile_cons, h2, if_neg h, if_pos rfl, List.length_cons, List.length_cons]
      by_cases e : (T.takeWhile nbl).length = T.length
      · rw [if_pos e, e, if_pos rfl]
        rfl
      · have e1 : (((T.takeWhile nbl).length : Int) == -1) = false := by rw [beq_eq_false_iff_ne]; omega
        have e2 : ¬ (T.takeWhile nbl).length + 1 = T.length + 1 := by omega
        rw [if_neg e, if_neg e2, e1]
        simp
theorem get_data (s : ByteArray) (i : Nat) : s.get! i = s.data.toList.getD i 0 := by
  cases s with
  | mk d =>
    show d[i]! = _
    rw [Array.getElem!_eq_getD]
    simp [Array.getD_eq_getD_getElem?, List.getD]
    rfl
/-- A rune's bytes behind the first, where that is none of ASCII. -/
theorem decode_bytes (s : ByteArray) (pos : Nat) (h : pos < s.size) (ha : 128 ≤ (s[pos]'h).toNat) : pos + (Utf8.decode s pos).2 ≤ s.size ∧ ∀ j, pos ≤ j → j < pos + (Utf8.decode s pos).2 → 128 ≤ (s.data.toList.getD j 0).toNat := by
  have hc := Lib.decodeN_conts (s.size - pos) (s.get! pos).toNat (s.get! (pos + 1)).toNat (s.get! (pos + 2)).toNat (s.get! (pos + 3)).toNat
  rw [← Lib.decode_at] at hc
  rw [← getD_data s pos h] at ha
  obtain ⟨h1, h2, h3, h4⟩ := hc
  rw [get_data] at h1 h2 h3
  refine ⟨?_, fun j hj hj2 => ?_⟩
  · by_cases g4 : 4 ≤ (Utf8.decode s pos).2
    · have := h3 g4; omega
    · by_cases g3 : 3 ≤ (Utf8.decode s pos).2
      · have := h2 g3; omega
      · by_cases g2 : 2 ≤ (Utf8.decode s pos).2
        · have := h1 g2; omega
        · omega
  · by_cases e0 : j = pos
    · subst e0; exact ha
    · by_cases e1 : j = pos + 1
      · subst e1; have := (h1 (by omega)).1; omega
      · by_cases e2 : j = pos + 2
        · subst e2; have := (h2 (by omega)).1; omega
        · have e3 : j = pos + 3 := by omega
          subst e3; have := (h3 (by omega)).1; omega
theorem indexAny_long (s : ByteArray) (w : World) (h8 : 8 < s.size) (hs : s.size ≤ 2000000000) :
    Calls Tryz.prog 34 #[.string s, .string ⟨#[32, 9]⟩] w fun en w' => en = .returned (.int .i64 (iab s.data.toList)) ∧ w.grownBy w' none := by
  refine (indexAnyLong_call s blk2 w zero_set (by decide) h8 (by omega) (by decide) (fun j b hj => blk_asc b (List.mem_of_getElem? hj))).mono ?_
  rintro en w' ⟨rfl, rfl⟩
  refine ⟨?_, (World.grownBy_alloc w _ none).trans (World.grownBy_alloc _ _ none)⟩
  rw [show blk2.data.toList = [32, 9] from rfl, iab_lib]
set_option maxHeartbeats 4000000 in
set_option maxRecDepth 100000 in
theorem indexAny_short (s : ByteArray) (w : World) (h8 : s.size ≤ 8) :
    Calls Tryz.prog 34 #[.string s, .string ⟨#[32, 9]⟩] w fun en w' => en = .returned (.int .i64 (iab s.data.toList)) ∧ w.grownBy w' none := by
  have HR : Hid (∀ (r : Int) (W : World), 0 ≤ r → Calls Tryz.prog 60 #[.string ⟨#[32, 9]⟩, .int .i32 r] W fun en w' => en = .returned (.int .i64 (ixr blk2 r)) ∧ W.grownBy w' none) := fun r W h => indexRune_b r W h
  have hl := size_data s
  generalize hT : s.data.toList = T at *
  have HTL := hid_intro hl
  have HTT := hid_intro hT
  have h8' : ¬ 8 < s.size := by omega
  clear hl hT h8
  go_enter Tryz.func34, Tryz.ntmps34
  go_wp2_with fail
  refine (useSet_any _ _).mono ?_
  rintro en w1 ⟨rfl, rfl⟩
  rw [show decide ((8 : Int) < (s.size : Int)) = false from decide_eq_false (by omega)]
  go_wp2
  generalize hK : w1.heap.size = Kb
  have IT : Hid ((w1.iter s 0).heap[Kb]? = some (.stringIter s 0)) := by rw [← hK]; exact World.iter_heap w1 s 0
  have G1 : Hid (w1.grownBy (w1.iter s 0) none) := World.grownBy_alloc w1 _ none
  have HK : Hid (w1.heap.size ≤ Kb) := by show _ ≤ _; omega
  clear hK
  generalize w1.iter s 0 = w0 at *
  go_loopw [9, 10] (fun _ _ wr => ∃ pos : Nat, pos ≤ s.size ∧ w1.grownBy wr none ∧ wr.heap[Kb]? = some (.stringIter s pos) ∧ Nbs T pos) (fun _ _ wr => s.size - wr.iterPos Kb)
  case atStart => exact ⟨0, Nat.zero_le _, G1.out, IT.out, fun j hj => by omega⟩
  case round =>
    obtain ⟨pos, hp', hg, hit, hdg⟩ := hrel
    have HG := hid_intro hg
    have HIT := hid_intro hit
    have HDG := hid_intro hdg
    clear G1 IT hg hdg hit
    by_cases hp : pos < s.size
    · have hnx : ∀ ty, (Instr.next (.pointer (some ⟨Kb, 0, none⟩)) true ty).run Tryz.prog wr = _ := fun ty => Lib.run_next_any_at wr Kb s pos ty HIT.out hp
      have hgd := getD_data s pos hp
      rw [HTT.out] at hgd
      have HGD := hid_intro hgd
      clear hgd
      by_cases hasc : (s[pos]'hp).toNat < 128
      · have hdec := decode_ascii s pos hp hasc
        rw [hdec] at hnx
        have hix := ixr_blk (s[pos]'hp).toNat hasc
        have hu : UInt8.ofNat (s[pos]'hp).toNat = s[pos]'hp := by simp
        rw [hu] at hix
        have HIX := hid_intro hix
        clear hdec hix hu
        have GI := hid_intro (grown_iter HG.out (k := Kb) HK.out s (pos + 1))
        have II := hid_intro (Lib.iterAt_heap wr Kb s pos (pos + 1) HIT.out)
        go_wp2_with fail
        refine (HR.out _ _ (by omega)).mono ?_
        rintro en w2 ⟨rfl, hg2⟩
        have i2 : w2.heap[Kb]? = some (.stringIter s (pos + 1)) := by rw [hg2.block Kb (Array.getElem?_eq_some_iff.1 II.out).1 (by simp)]; exact II.out
        have ITE := hid_intro i2
        have GE := hid_intro (grown_trans GI.out hg2)
        clear i2 hg2
        by_cases hb : isb (s[pos]'hp) = true
        · have hx : 0 ≤ ixr blk2 ((s[pos]'hp).toNat : Nat) := by rw [HIX.out]; exact hb
          clear HIX
          generalize ixr blk2 ((s[pos]'hp).toNat : Nat) = x at *
          go_wp2
          go_ret
          refine ⟨?_, GE.out⟩
          rw [iab_at (by have := HTL.out; omega) HDG.out (by rw [HGD.out]; exact hb)]
          rfl
        · have hx : ¬ 0 ≤ ixr blk2 ((s[pos]'hp).toNat : Nat) := by rw [HIX.out]; exact hb
          have HDG2 : Hid (Nbs T (pos + 1)) := HDG.out.more (by rw [HGD.out]; simpa using hb)
          clear HIX
          generalize ixr blk2 ((s[pos]'hp).toNat : Nat) = x at *
          have HMS : Hid (s.size - w2.iterPos Kb < s.size - wr.iterPos Kb) := by
            show _ < _
            simp only [World.iterPos, ITE.out, HIT.out]
            omega
          go_wp2
          go_roundw
          case rel => exact ⟨pos + 1, by omega, GE.out, ITE.out, HDG2.out⟩
          case measure => exact HMS.out
      · obtain ⟨hr1, hr2⟩ := decode_high s pos hp (by omega)
        have hr3 := decode_le s pos
        obtain ⟨hb1, hb2⟩ := decode_bytes s pos hp (by omega)
        rw [HTT.out] at hb2
        have GI := hid_intro (grown_iter HG.out (k := Kb) HK.out s (pos + (Utf8.decode s pos).2))
        have II := hid_intro (Lib.iterAt_heap wr Kb s pos (pos + (Utf8.decode s pos).2) HIT.out)
        have HX : Hid (ixr blk2 ((Utf8.decode s pos).1 : Nat) = -1) := by show _ = _; unfold ixr; rw [if_neg (by omega)]
        have HDG2 : Hid (Nbs T (pos + (Utf8.decode s pos).2)) := fun j hj => by
          by_cases e : j < pos
          · exact HDG.out j e
          · exact isb_hi (hb2 j (by omega) hj)
        generalize (Utf8.decode s pos).1 = rn at *
        generalize (Utf8.decode s pos).2 = wd at *
        go_wp2_with fail
        refine (HR.out _ _ (by omega)).mono ?_
        rintro en w2 ⟨rfl, hg2⟩
        rw [HX.out]
        have i2 : w2.heap[Kb]? = some (.stringIter s (pos + wd)) := by rw [hg2.block Kb (Array.getElem?_eq_some_iff.1 II.out).1 (by simp)]; exact II.out
        have ITE := hid_intro i2
        have GE := hid_intro (grown_trans GI.out hg2)
        have HMS : Hid (s.size - w2.iterPos Kb < s.size - wr.iterPos Kb) := by
          show _ < _
          simp only [World.iterPos, i2, HIT.out]
          omega
        clear i2 hg2
        go_wp2
        go_roundw
        case rel => exact ⟨pos + wd, by omega, GE.out, ITE.out, HDG2.out⟩
        case measure => exact HMS.out
    · obtain rfl : pos = s.size := by omega
      have hnx : ∀ ty, (Instr.next (.pointer (some ⟨Kb, 0, none⟩)) true ty).run Tryz.prog wr = _ := fun ty => Lib.run_next_end_at wr Kb s s.size ty HIT.out hp
      go_wp2
      go_ret
      refine ⟨?_, HG.out⟩
      rw [iab_none (by rw [HTL.out]; exact HDG.out)]
      rfl
theorem indexAny_any (T : List UInt8) (w : World) (hs : T.length ≤ 2000000000) :
    Calls Tryz.prog 34 #[.string (tstr T), .string ⟨#[32, 9]⟩] w fun en w' => en = .returned (.int .i64 (iab T)) ∧ w.grownBy w' none := by
  have hl := tstr_size T
  by_cases h : 8 < (tstr T).size
  · exact indexAny_long (tstr T) w h (by omega)
  · exact indexAny_short (tstr T) w (by omega)
theorem trimLeft_any (T : List UInt8) (w : World) :
    Calls Tryz.prog 33 #[.string (tstr T), .string ⟨#[32, 9]⟩] w fun en w' => en = .returned (.string (tstr (T.dropWhile isb))) ∧ w.grownBy w' none := by
  refine (trimLeft_call (tstr T) blk2 w (by decide) (fun j b hj => blk_asc b (List.mem_of_getElem? hj))).mono ?_
  rintro en w' ⟨rfl, hb⟩
  refine ⟨?_, grown_below hb (Nat.le_refl _)⟩
  have hc : (fun c => [32, 9].contains c) = isb := by funext c; unfold isb; simp; rfl
  show _ = Ending.returned (.string ⟨_⟩)
  unfold Lib.trimLeftS
  rw [show blk2.data.toList = [32, 9] from rfl, hc]
  rfl
set_option maxHeartbeats 1000000 in
set_option maxRecDepth 100000 in
theorem said_any (T : List UInt8) (w : World) (hs : T.length ≤ 2000000000) :
    Calls Tryz.prog 18 #[.string (tstr T)] w fun en w' => en = .returned (.string (tstr (cua 35 T))) ∧ w.grownBy w' none := by
  have HC := hid_intro (cut_any 35 T w hs)
  generalize tstr (cua 35 T) = sa at *
  generalize tstr (cub 35 T) = sb at *
  generalize (cutC 35 T).isSome = f at *
  generalize tstr T = s at *
  go_enter Tryz.func18, Tryz.ntmps18
  go_wp2_with fail
  refine HC.out.mono ?_
  rintro en w' ⟨rfl, hq⟩
  have HQ := hid_intro (hq.grown none)
  clear hq
  go_wp2
  go_ret
  exact ⟨rfl, HQ.out⟩
set_option maxHeartbeats 1000000 in
set_option maxRecDepth 100000 in
theorem nextWord_any (T : List UInt8) (w : World) (hs : T.length ≤ 2000000000) :
    Calls Tryz.prog 17 #[.string (tstr T)] w fun en w' => en = .returned (.tuple #[.string (tstr (nw1 T)), .string (tstr (nw2 T))]) ∧ w.grownBy w' none := by
  have hlen : (T.dropWhile isb).length ≤ 2000000000 := by
    have e2 := congrArg List.length (List.takeWhile_append_dropWhile (p := isb) (l := T))
    rw [List.length_append] at e2
    omega
  have HT := hid_intro (trimLeft_any T w)
  have HI := hid_intro (fun W => indexAny_any (T.dropWhile isb) W hlen)
  unfold nw1 nw2
  generalize T.dropWhile isb = M at *
  have hM := List.takeWhile_append_dropWhile (p := nbl) (l := M)
  have hl := congrArg List.length hM
  rw [List.length_append] at hl
  by_cases hk : (M.takeWhile nbl).length = M.length
  · have e1 : M.takeWhile nbl = M := by
      have h0 : M.dropWhile nbl = [] := List.eq_nil_of_length_eq_zero (by omega)
      rw [h0, List.append_nil] at hM
      exact hM
    have e2 : M.dropWhile nbl = [] := List.eq_nil_of_length_eq_zero (by omega)
    rw [show iab M = -1 by unfold iab; rw [if_pos hk]] at HI
    rw [e1, e2]
    have HN : Hid (tstr [] = ⟨#[]⟩) := rfl
    clear e1 e2 hM hl hk hlen
    generalize tstr M = sm at *
    generalize tstr T = s at *
    go_enter Tryz.func17, Tryz.ntmps17
    go_wp2_with fail
    refine HT.out.mono ?_
    rintro en w1 ⟨rfl, hg1⟩
    have G1 := hid_intro hg1
    clear hg1
    go_wp2_with fail
    refine (HI.out _).mono ?_
    rintro en w2 ⟨rfl, hg2⟩
    have G2 := hid_intro (grown_trans G1.out hg2)
    clear hg2
    go_wp2
    go_ret2
    exact ⟨rfl, G2.out⟩
  · obtain ⟨k, hk2⟩ : ∃ k, (M.takeWhile nbl).length = k := ⟨_, rfl⟩
    have e0 : iab M = (k : Int) := by unfold iab; rw [if_neg hk, hk2]
    have t1 : M.take k = M.takeWhile nbl := by
      have := List.take_left (l₁ := M.takeWhile nbl) (l₂ := M.dropWhile nbl)
      rw [hM, hk2] at this
      exact this
    have t2 : M.drop k = M.dropWhile nbl := by
      have := List.drop_left (l₁ := M.takeWhile nbl) (l₂ := M.dropWhile nbl)
      rw [hM, hk2] at this
      exact this
    have e1 : (tstr M).extract 0 k = tstr (M.takeWhile nbl) := by rw [ext_take, t1]
    have e2 : (tstr M).extract k (tstr M).size = tstr (M.dropWhile nbl) := by rw [ext_drop, t2]
    clear t1 t2
    have hz := tstr_size M
    rw [e0] at HI
    have g0 : (0 : Int) ≤ (k : Int) := by omega
    have g1 : (k : Int) ≤ ((tstr M).size : Int) := by omega
    generalize tstr (M.takeWhile nbl) = sa at *
    generalize tstr (M.dropWhile nbl) = sb at *
    clear e0 hM hl hk hk2 hlen hz
    generalize tstr M = sm at *
    generalize tstr T = s at *
    go_enter Tryz.func17, Tryz.ntmps17
    go_wp2_with fail
    refine HT.out.mono ?_
    rintro en w1 ⟨rfl, hg1⟩
    have G1 := hid_intro hg1
    clear hg1
    go_wp2_with fail
    refine (HI.out _).mono ?_
    rintro en w2 ⟨rfl, hg2⟩
    have G2 := hid_intro (grown_trans G1.out hg2)
    clear hg2
    go_wp2
    go_quiet (fail)
    go_wp2
    go_ret2
    exact ⟨rfl, grown_trans G2.out ((Qt.drewN _ _).grown none)⟩
end Go.Proofs.YtdoclmmghdaaaaaGreatDoor
