import Derived.Test.YtcjgmiilfjjbcaaGreatDoorDu2
import Derived.Lib.OthersKept
namespace Go.Proofs.YtcjgmiilfjjbcaaGreatDoor
open Go.RowKit

/-! ### Unhex, sign by sign -/
def hbAt (t : List UInt8) (i j : Nat) : Int := if 2 * j + 1 < i then 16 * vdg (t.getD (2 * j) 0) + vdg (t.getD (2 * j + 1) 0) else if 2 * j < i then vdg (t.getD (2 * j) 0) else 0
def hbs (t : List UInt8) (i : Nat) : List Int := (List.range (t.length / 2)).map (hbAt t i)
theorem hbs_len (t : List UInt8) (i : Nat) : (hbs t i).length = t.length / 2 := by unfold hbs; simp
theorem hbs_zero (t : List UInt8) : hbs t 0 = List.replicate (t.length / 2) 0 := by
  unfold hbs
  refine List.ext_getElem (by simp) fun i h1 h2 => ?_
  simp [hbAt]
theorem hbs_get (t : List UInt8) (i j : Nat) (h : j < t.length / 2) : (hbs t i).getD j 0 = hbAt t i j := by
  unfold hbs
  simp [List.getD, h]
theorem hbs_el (t : List UInt8) (i j : Nat) (h : j < (hbs t i).length) : (hbs t i)[j] = hbAt t i j := by simp [hbs]
theorem hbAt_far (t : List UInt8) (i j : Nat) (e : ¬ i / 2 = j) : hbAt t i j = hbAt t (i + 1) j := by
  unfold hbAt
  by_cases a : 2 * j + 1 < i
  · rw [if_pos a, if_pos (by omega)]
  · by_cases b : 2 * j < i
    · omega
    · rw [if_neg a, if_neg b, if_neg (by omega), if_neg (by omega)]
theorem hbs_set (t : List UInt8) (i : Nat) (v : Int) (hv : v = hbAt t (i + 1) (i / 2)) : (hbs t i).set (i / 2) v = hbs t (i + 1) := by
  refine List.ext_getElem (by rw [List.length_set, hbs_len, hbs_len]) fun j h1 h2 => ?_
  rw [List.getElem_set, hbs_el]
  split
  · rename_i e
    subst e
    rw [hbs_el]
    exact hv
  · rename_i e
    rw [hbs_el]
    exact hbAt_far t i j e
theorem hbs_all : ∀ (t : List UInt8), t.length % 2 = 0 → (∀ c ∈ t, 0 ≤ vdg c) → uhs t = some (hbs t t.length)
  | [], _, _ => rfl
  | [_], h, _ => by simp at h
  | a :: b :: t, h, hd => by
    have ih := hbs_all t (by simp at h; omega) (fun c hc => hd c (by simp [hc]))
    have ha := hd a (by simp)
    have hb := hd b (by simp)
    simp only [uhs]
    rw [if_neg (by omega), ih, Option.map_some]
    congr 1
    unfold hbs
    have : (a :: b :: t).length / 2 = t.length / 2 + 1 := by simp; omega
    rw [this, List.range_succ_eq_map, List.map_cons, List.map_map]
    congr 1
    apply List.map_congr_left
    intro j hj
    simp only [Function.comp]
    unfold hbAt
    simp only [List.length_cons]
    have e1 : 2 * (j + 1) = 2 * j + 1 + 1 := by omega
    by_cases c1 : 2 * j + 1 < t.length
    · rw [if_pos c1, if_pos (by omega)]
      simp [List.getD, e1]
    · by_cases c2 : 2 * j < t.length
      · rw [if_neg c1, if_pos c2, if_neg (by omega), if_pos (by omega)]
        simp [List.getD, e1]
      · rw [if_neg c1, if_neg c2, if_neg (by omega), if_neg (by omega)]
/-- The digits ahead are all digits. -/
def Dgs (t : List UInt8) (i : Nat) : Prop := ∀ j, j < i → 0 ≤ vdg (t.getD j 0)
theorem or_nib (a b : Nat) (ha : a < 16) (hb : b < 16) : bits .or .u8 ((16 * a : Nat) : Int) (b : Int) = ((16 * a + b : Nat) : Int) := by
  have : ∀ (a b : Fin 16), bits .or .u8 ((16 * a.1 : Nat) : Int) (b.1 : Int) = ((16 * a.1 + b.1 : Nat) : Int) := by decide +kernel
  exact this ⟨a, ha⟩ ⟨b, hb⟩

/-- The block g holds just the bytes zs. -/
def Rwd (w : World) (g : Nat) (zs : List Int) : Prop := w.heap[g]? = some (.cells (zs.map (Value.int .u8)).toArray 5 (0, 0))
theorem Rwd.lt {w : World} {g : Nat} {zs : List Int} (h : Rwd w g zs) : g < w.heap.size := (Array.getElem?_eq_some_iff.1 h).1
theorem Rwd.cell {w : World} {g : Nat} {zs : List Int} (h : Rwd w g zs) (i : Nat) (hi : i < zs.length) : w.cell? ⟨g, i, none⟩ = some (.int .u8 (zs.getD i 0)) := by
  rw [cell_of_row w g i _ _ (0, 0) h]
  simp [List.getD, List.getElem?_eq_getElem hi]
theorem Rwd.frozen {w : World} {g : Nat} {zs : List Int} (h : Rwd w g zs) (i : Nat) : w.frozen? ⟨g, i, none⟩ = false := Lib.frozen_of_heap h i
theorem Rwd.byt {w : World} {g : Nat} {zs : List Int} (h : Rwd w g zs) (n cap : Nat) (hn : n = zs.length) : Byt w (some ⟨g, 0, none⟩) n cap zs := by
  refine Byt.of_cells hn.symm fun i hi => ?_
  rw [Nat.zero_add, h.cell i (by omega)]
theorem Rwd.keptN {w w' : World} {g : Nat} {zs : List Int} (h : Rwd w g zs) (hg : w.grownBy w' none) : Rwd w' g zs := (hg.block g h.lt (by simp)).trans h
theorem Rwd.set {w : World} {g : Nat} {zs : List Int} (h : Rwd w g zs) (j : Nat) (z : Int) : Rwd (w.setCell ⟨g, j, none⟩ (.int .u8 z)) g (zs.set j z) := by
  unfold Rwd
  rw [heap_setCell_same w g j _ _ (.int .u8 z) h]
  simp [List.map_set]
theorem Rwd.of_owns {w : World} {base g n : Nat} {zs : List Int} (h : w.ownsRow base 5 1 (.slice (some ⟨g, 0, none⟩) n n) n (zs.map (Value.int .u8))) : Rwd w g zs := by
  rcases h with ⟨hl, ⟨h0, _⟩ | ⟨g', cap, cur, hv, _, hg, _, _, hs, ht⟩⟩
  · cases h0
  · injection hv with e1 e2 e3
    injection e1 with e1
    injection e1 with e4
    subst e4 e3
    have : cur.toList = zs.map (Value.int .u8) := by
      rw [← ht, List.take_of_length_le (by simp [hs])]
    unfold Rwd
    rw [hg, ← this]
theorem Rwd.owns {w : World} {base g n : Nat} {zs : List Int} (h : Rwd w g zs) (hb : base ≤ g) (hn : zs.length = n) (hm : n ≤ maxLen) : w.ownsRow base 5 1 (.slice (some ⟨g, 0, none⟩) n n) n (zs.map (Value.int .u8)) :=
  ⟨by rw [List.length_map, hn, Nat.mul_one], .inr ⟨g, n, _, rfl, hb, h, Nat.le_refl _, hm, by simp [hn], by rw [Nat.mul_one, List.take_of_length_le (by simp [hn])]⟩⟩
theorem made20 (n : Nat) : (madeCells #[Value.int .u8 0] n).toList = (List.replicate n (0 : Int)).map (Value.int .u8) := by
  refine List.ext_getElem (by simp [madeCells]) fun i h1 h2 => ?_
  simp [madeCells, Nat.mod_one]
theorem grown_iter {w w' : World} (h : w.grownBy w' none) {k : Nat} (hk : w.heap.size ≤ k) (s : ByteArray) (p : Nat) : w.grownBy (w'.iterAt k s p) none :=
  ⟨h.os, h.tape, h.output, by rw [Lib.iterAt_size]; exact h.size, fun j hj hn => (Lib.iterAt_other w' k j s p (by omega)).trans (h.block j hj hn)⟩
theorem Rwd.iter {w : World} {g : Nat} {zs : List Int} (h : Rwd w g zs) {k : Nat} (hk : g ≠ k) (s : ByteArray) (p : Nat) : Rwd (w.iterAt k s p) g zs := (Lib.iterAt_other w k g s p hk).trans h
theorem grown_setd {w w' : World} (h : w.grownBy w' none) {g : Nat} (hg : w.heap.size ≤ g) (j : Nat) (v : Value) : w.grownBy (w'.setCell ⟨g, j, none⟩ v) none :=
  ⟨h.os, h.tape, h.output, by have := h.size; simpa [World.setCell] using this, fun k hk hn => (Below.heap_setCell _ _ _ _ (by show k ≠ g; omega)).trans (h.block k hk hn)⟩

theorem getD_data (s : ByteArray) (i : Nat) (h : i < s.size) : s.data.toList.getD i 0 = s[i]'h := by
  have h2 : i < s.data.toList.length := by simpa using h
  simp only [List.getD, List.getElem?_eq_getElem h2, Option.getD_some]
  rw [Array.getElem_toList]
  rfl
theorem size_data (s : ByteArray) : s.data.toList.length = s.size := by simp only [Array.length_toList]; rfl

set_option maxHeartbeats 400000 in
set_option maxRecDepth 100000 in
theorem unhex_dash (w : World) : Calls Tryz.prog 93 #[.string ⟨#[45]⟩] w fun en w' => en = .returned (.tuple #[.slice none 0 0, .int .i64 0]) ∧ w' = w := by
  go_enter Tryz.func93, Tryz.ntmps93
  go_wp2
  go_ret2
  exact ⟨rfl, rfl⟩
set_option maxHeartbeats 400000 in
set_option maxRecDepth 100000 in
theorem unhex_odd (s : ByteArray) (w : World) (h1 : (s.toList == [45]) = false) (h2 : s.size = 0 ∨ s.size % 2 = 1) (hs : s.size ≤ 2000000000) :
    Calls Tryz.prog 93 #[.string s] w fun en w' => en = .returned (.tuple #[.slice none 0 0, .int .i64 201]) ∧ w' = w := by
  by_cases h0 : s.size = 0
  · have g0 : ((s.size : Int) == 0) = true := by rw [h0]; rfl
    clear h2 h0
    go_enter Tryz.func93, Tryz.ntmps93
    go_wp2
    all_goals (go_ret2; exact ⟨rfl, rfl⟩)
  · have g0 : ((s.size : Int) == 0) = false := by rw [beq_eq_false_iff_ne]; omega
    have g1 : (s.size : Int) % 2 = 1 := by omega
    clear h2 h0
    go_enter Tryz.func93, Tryz.ntmps93
    go_wp2
    all_goals (go_ret2; exact ⟨rfl, rfl⟩)
/-- What Unhex answers. -/
def UhP (w : World) (T : List UInt8) (en : Ending) (w' : World) : Prop := w.grownBy w' none ∧ ((uh T = none ∧ en = .returned (.tuple #[.slice none 0 0, .int .i64 201])) ∨
  ∃ b ao c, uh T = some b ∧ en = .returned (.tuple #[.slice ao b.length c, .int .i64 0]) ∧ w'.ownsRow w.heap.size 5 1 (.slice ao b.length c) b.length (b.map (Value.int .u8)))
theorem Dgs.none {s : ByteArray} {T : List UInt8} {pos : Nat} (hT : s.data.toList = T) (hp : pos < s.size) (hd : T ≠ [45]) (hv : vdg (s[pos]'hp) < 0) : uh T = none := by
  have hl := size_data s
  have hg := getD_data s pos hp
  rw [hT] at hl hg
  refine uh_none (i := pos) (c := s[pos]'hp) ?_ hv hd
  have h2 : pos < T.length := by omega
  rw [List.getElem?_eq_getElem h2]
  simp only [List.getD, List.getElem?_eq_getElem h2, Option.getD_some] at hg
  rw [hg]
theorem Dgs.all {T : List UInt8} (h : Dgs T T.length) : ∀ c ∈ T, 0 ≤ vdg c := by
  intro c hc
  obtain ⟨i, hi, e⟩ := List.mem_iff_getElem.1 hc
  have := h i hi
  simpa [List.getD, List.getElem?_eq_getElem hi, e] using this
set_option maxHeartbeats 4000000 in
set_option maxRecDepth 100000 in
theorem unhex_even (s : ByteArray) (w : World) (h1 : (s.toList == [45]) = false) (h0 : s.size ≠ 0) (h2 : s.size % 2 = 0) (hs : s.size ≤ 2000000000) (hd : s.data.toList ≠ [45]) :
    Calls Tryz.prog 93 #[.string s] w fun en w' => UhP w s.data.toList en w' := by
  obtain ⟨i0, hi, hz0, hz1, hz2⟩ := info_parts info_u8
  have g0 : ((s.size : Int) == 0) = false := by rw [beq_eq_false_iff_ne]; omega
  have g1 : (s.size : Int) % 2 = 0 := by omega
  obtain ⟨n, hn⟩ : ∃ n, s.size = 2 * n := ⟨s.size / 2, by omega⟩
  have hl := size_data s
  generalize hT : s.data.toList = T at *
  have hdiv : (s.size : Int) / 2 = (n : Int) := by omega
  have HTL := hid_intro hl
  have HN := hid_intro hn
  have H2 := hid_intro h2
  have HD := hid_intro hd
  have HTT := hid_intro hT
  clear h0 h2 hl hn hd hT
  go_enter Tryz.func93, Tryz.ntmps93
  go_wp2_with (at_make; refine wpList_make_full _ rfl _ _ 32 rfl w.heap.size 5 i0 (.int .u8 0) 1 Tryz.underlying32 hi hz0 hz1 _ _ _ _ n rfl rfl ?b0 ?b1 ?b2 ?b3 (Nat.le_refl _) ?_)
  case b0 => rfl
  case b1 => rfl
  case b2 => rw [hz2]; have := HN.out; omega
  case b3 => unfold maxLen; have := HN.out; omega
  intro w0 hown0 hg0
  have hn2 : n * 1 = T.length / 2 := by have := HN.out; have := HTL.out; omega
  have R0 : Hid (Rwd w0 w.heap.size (hbs T 0)) := by
    show Rwd _ _ _
    have hh := hown0
    have e1 : n = T.length / 2 := by omega
    rw [made20, show List.replicate n (0 : Int) = hbs T 0 by rw [hbs_zero, e1]] at hh
    exact Rwd.of_owns hh
  have G0 := hid_intro hg0
  have L0 := R0.out.lt
  clear hown0 hg0
  go_wp2
  generalize hK : w0.heap.size = Kb
  have IT : Hid ((w0.iter s 0).heap[Kb]? = some (.stringIter s 0)) := by rw [← hK]; exact World.iter_heap w0 s 0
  have KG : Hid (w.heap.size < Kb) := by rw [← hK]; exact L0
  have G1 : Hid (w.grownBy (w0.iter s 0) none) := grown_trans G0.out (World.grownBy_alloc w0 _ none)
  have R1 : Hid (Rwd (w0.iter s 0) w.heap.size (hbs T 0)) := R0.out.keptN (World.grownBy_alloc w0 _ none)
  clear hK G0 R0 L0
  generalize w0.iter s 0 = w1 at *
  go_loopw [5, 6, 7] (fun _ _ _ wr => ∃ pos : Nat, pos ≤ s.size ∧ w.grownBy wr none ∧ Rwd wr w.heap.size (hbs T pos) ∧ wr.heap[Kb]? = some (.stringIter s pos) ∧ Dgs T pos) (fun _ _ _ wr => s.size - wr.iterPos Kb)
  case atStart => exact ⟨0, Nat.zero_le _, G1.out, R1.out, IT.out, fun j hj => by omega⟩
  case round =>
    obtain ⟨pos, hp', hg, hr, hit, hdg⟩ := hrel
    have HG := hid_intro hg
    have HR := hid_intro hr
    have HIT := hid_intro hit
    have HDG := hid_intro hdg
    clear G1 R1 IT hg hr hdg hit
    by_cases hp : pos < s.size
    · have hnx : ∀ ty, (Instr.next (.pointer (some ⟨Kb, 0, none⟩)) true ty).run Tryz.prog wr = _ := fun ty => Lib.run_next_any_at wr Kb s pos ty HIT.out hp
      by_cases hasc : (s[pos]'hp).toNat < 128
      · have hdec := decode_ascii s pos hp hasc
        rw [hdec] at hnx
        have hix := ixr_digs (s[pos]'hp).toNat hasc
        have hu : UInt8.ofNat (s[pos]'hp).toNat = s[pos]'hp := by simp
        rw [hu] at hix
        have HIX := hid_intro hix
        clear hdec hix hu
        have GI := hid_intro (grown_iter HG.out (k := Kb) (by have := KG.out; omega) s (pos + 1))
        have RI := hid_intro (HR.out.iter (k := Kb) (by have := KG.out; omega) s (pos + 1))
        have II := hid_intro (Lib.iterAt_heap wr Kb s pos (pos + 1) HIT.out)
        by_cases hv : 0 ≤ vdg (s[pos]'hp)
        · go_wp2_with fail
          refine (indexRune_any digs _ _ digs_asc (by decide) (by decide) (by omega)).mono ?_
          rintro en w2 ⟨rfl, hg2⟩
          rw [HIX.out]
          obtain ⟨d, hd⟩ : ∃ d : Nat, vdg (s[pos]'hp) = d := ⟨(vdg (s[pos]'hp)).toNat, by omega⟩
          have hd16 := vdg_lt (s[pos]'hp)
          rw [hd] at hd16 ⊢
          have hgd := getD_data s pos hp
          rw [HTT.out] at hgd
          obtain ⟨j, hj⟩ : ∃ j, pos / 2 = j := ⟨_, rfl⟩
          have hjn : j < n := by have := HN.out; omega
          have hjT : j < T.length / 2 := by omega
          obtain ⟨a, ha, ha16, hnew⟩ : ∃ a : Nat, hbAt T pos j = a ∧ a < 16 ∧ ((16 * a + d : Nat) : Int) = hbAt T (pos + 1) j := by
            unfold hbAt
            by_cases hev : 2 * j = pos
            · refine ⟨0, by rw [if_neg (by omega), if_neg (by omega)]; rfl, by omega, ?_⟩
              rw [if_neg (by omega), if_pos (by omega), hev, hgd, hd]
              omega
            · have hod : 2 * j + 1 = pos := by omega
              have h0 := HDG.out (2 * j) (by omega)
              have h16 := vdg_lt (T.getD (2 * j) 0)
              refine ⟨(vdg (T.getD (2 * j) 0)).toNat, by rw [if_neg (by omega), if_pos (by omega)]; omega, by omega, ?_⟩
              rw [if_pos (by omega), hod, hgd, hd]
              omega
          have R2 := RI.out.keptN hg2
          have c0 := R2.cell j (by rw [hbs_len]; exact hjT)
          rw [hbs_get T pos j hjT, ha] at c0
          have f0 := R2.frozen j
          have i2 : w2.heap[Kb]? = some (.stringIter s (pos + 1)) := by rw [hg2.block Kb (Array.getElem?_eq_some_iff.1 II.out).1 (by simp)]; exact II.out
          have HNEW : Hid ((hbs T pos).set j ((16 * a + d : Nat) : Int) = hbs T (pos + 1)) := by
            have := hbs_set T pos ((16 * a + d : Nat) : Int) (by rw [hj]; exact hnew)
            rwa [hj] at this
          have HDG2 : Hid (Dgs T (pos + 1)) := fun k hk => by
            by_cases e : k < pos
            · exact HDG.out k e
            · obtain rfl : k = pos := by omega
              rw [hgd, hd]; omega
          have RR := hid_intro R2
          have GG := hid_intro (grown_trans GI.out hg2)
          have ITE := hid_intro i2
          have e1 : (pos : Int) / 2 = (j : Int) := by omega
          have e2 : IntKind.u8.wrap ((a : Int) * 16) = ((16 * a : Nat) : Int) := by rw [IntKind.wrap_u8]; omega
          have e3 : IntKind.u8.wrap (d : Int) = (d : Int) := by rw [IntKind.wrap_u8]; omega
          have e4 : bits .or .u8 (16 * (a : Int)) (d : Int) = ((16 * a + d : Nat) : Int) := by have := or_nib a d ha16 (by omega); rwa [show ((16 * a : Nat) : Int) = 16 * (a : Int) by omega] at this
          have g2 : (0 : Int) ≤ (pos : Int) := by omega
          have g3 : (j : Int) < (n : Int) := by omega
          have g4 : (0 : Int) ≤ (d : Int) := by omega
          clear R2 i2 hg2 hv hgd hd HIX ha hnew hj
          have HSI : Hid (∀ v : Value, (w2.setCell ⟨w.heap.size, j, none⟩ v).heap[Kb]? = some (.stringIter s (pos + 1))) := fun v => (Below.heap_setCell _ _ _ _ (by show Kb ≠ w.heap.size; have := KG.out; omega)).trans ITE.out
          have HMS : Hid (∀ v : Value, s.size - (w2.setCell ⟨w.heap.size, j, none⟩ v).iterPos Kb < s.size - wr.iterPos Kb) := fun v => by
            simp only [World.iterPos, HSI.out v, HIT.out]
            omega
          have HRS : Hid (Rwd (w2.setCell ⟨w.heap.size, j, none⟩ (.int .u8 ((16 * a + d : Nat) : Int))) w.heap.size (hbs T (pos + 1))) := by
            show Rwd _ _ _
            rw [← HNEW.out]
            exact RR.out.set j _
          have hcast : ((16 * a + d : Nat) : Int) = 16 * (a : Int) + (d : Int) := by omega
          rw [hcast] at HRS e4
          clear hcast
          go_wp2
          go_roundw
          case rel => exact ⟨pos + 1, by omega, grown_setd GG.out (Nat.le_refl _) _ _, HRS.out, HSI.out _, HDG2.out⟩
          case measure => exact HMS.out _
        · go_wp2_with fail
          refine (indexRune_any digs _ _ digs_asc (by decide) (by decide) (by omega)).mono ?_
          rintro en w2 ⟨rfl, hg2⟩
          have hv2 : vdg (s[pos]'hp) < 0 := by omega
          rw [HIX.out]
          have GE := hid_intro (grown_trans GI.out hg2)
          clear hg2 hv
          go_wp2
          go_ret2
          exact ⟨GE.out, .inl ⟨Dgs.none HTT.out hp HD.out hv2, rfl⟩⟩
      · have hv2 := vdg_hi (s[pos]'hp) (by omega)
        obtain ⟨hr1, hr2⟩ := decode_high s pos hp (by omega)
        have hr3 := decode_le s pos
        have GI := hid_intro (grown_iter HG.out (k := Kb) (by have := KG.out; omega) s (pos + (Utf8.decode s pos).2))
        have HX : Hid (ixr digs ((Utf8.decode s pos).1 : Nat) = -1) := by show _ = _; unfold ixr; rw [if_neg (by omega)]
        generalize (Utf8.decode s pos).1 = rn at *
        generalize (Utf8.decode s pos).2 = wd at *
        go_wp2_with fail
        refine (indexRune_any digs _ _ digs_asc (by decide) (by decide) (by omega)).mono ?_
        rintro en w2 ⟨rfl, hg2⟩
        rw [HX.out]
        have GE := hid_intro (grown_trans GI.out hg2)
        clear hg2
        go_wp2
        go_ret2
        exact ⟨GE.out, .inl ⟨Dgs.none HTT.out hp HD.out (by rw [hv2]; omega), rfl⟩⟩
    · obtain rfl : pos = s.size := by omega
      have hnx : ∀ ty, (Instr.next (.pointer (some ⟨Kb, 0, none⟩)) true ty).run Tryz.prog wr = _ := fun ty => Lib.run_next_end_at wr Kb s s.size ty HIT.out hp
      have hTs := HTL.out
      have HU : Hid (uh T = some (hbs T s.size)) := by
        show _ = _
        have h := HDG.out
        rw [← hTs] at h ⊢
        have := hbs_all T (by have := H2.out; omega) h.all
        unfold uh
        rw [if_neg HD.out, if_neg (fun e => by rw [e] at hTs; rw [← hTs] at g0; simp at g0)]
        exact this
      have HL2 : Hid ((hbs T s.size).length = n) := by show _ = _; rw [hbs_len]; have := HN.out; omega
      clear hTs
      go_wp2
      go_ret2
      refine ⟨HG.out, .inr ⟨hbs T s.size, some ⟨w.heap.size, 0, none⟩, n, HU.out, ?_, ?_⟩⟩
      · rw [HL2.out]
        rfl
      · rw [HL2.out]
        exact HR.out.owns (Nat.le_refl _) HL2.out (by unfold maxLen; have := HN.out; omega)
/-- Unhex. -/
theorem unhex_any (s : ByteArray) (w : World) (hs : s.size ≤ 2000000000) : Calls Tryz.prog 93 #[.string s] w fun en w' => UhP w s.data.toList en w' := by
  have hl := size_data s
  by_cases hd : s.data.toList = [45]
  · have e : s = ⟨#[45]⟩ := by
      obtain ⟨⟨l⟩⟩ := s
      simp only at hd
      rw [hd]
    rw [hd]
    subst e
    refine (unhex_dash w).mono ?_
    rintro en w' ⟨rfl, rfl⟩
    exact ⟨World.grownBy.refl _ _, .inr ⟨[], none, 0, rfl, rfl, rfl, .inl ⟨rfl, rfl⟩⟩⟩
  · have h1 : (s.toList == [45]) = false := by rw [beq_eq_false_iff_ne, ByteArray.toList_eq]; exact hd
    by_cases h2 : s.size = 0 ∨ s.size % 2 = 1
    · refine (unhex_odd s w h1 h2 hs).mono ?_
      rintro en w' ⟨rfl, rfl⟩
      exact ⟨World.grownBy.refl _ _, .inl ⟨uh_odd hd (by omega), rfl⟩⟩
    · exact unhex_even s w h1 (by omega) (by omega) hs hd
end Go.Proofs.YtcjgmiilfjjbcaaGreatDoor
