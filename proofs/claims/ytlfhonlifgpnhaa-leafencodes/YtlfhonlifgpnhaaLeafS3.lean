import Derived.Test.YtlfhonlifgpnhaaLeafS2
namespace Go.Proofs.Ytlfhonlifgpnhaa
open Go.RowKit

/-- A list of items of one's own, made by Items. -/
structure Lq (w : World) (base A c : Nat) (gk gv : Nat → Nat × Nat) (xs : List Value) (L : List It) : Prop where
  own : w.ownsRow base 48 4 (.slice (some ⟨A, 0, none⟩) L.length c) L.length xs
  lm : Lm w base [] [] gk gv xs L
theorem Lq.il {w : World} {base A c : Nat} {gk gv : Nat → Nat × Nat} {xs : List Value} {L : List It} (h : Lq w base A c gk gv xs L) : Il w (some ⟨A, 0, none⟩) L := h.lm.il (ys := []) (by rw [List.append_nil]; exact h.own)
theorem Lq.keptN {w w' : World} {base A c : Nat} {gk gv : Nat → Nat × Nat} {xs : List Value} {L : List It} (h : Lq w base A c gk gv xs L) (hg : w.grownBy w' none) : Lq w' base A c gk gv xs L := ⟨own_keptN h.own hg, h.lm.keptN hg⟩
/-- A block below all of it was written to. -/
theorem Lq.below {w w' : World} {base A c g : Nat} {gk gv : Nat → Nat × Nat} {xs : List Value} {L : List It} (h : Lq w base A c gk gv xs L) (hg : w.grownBy w' (some g)) (hlt : g < base) : Lq w' base A c gk gv xs L :=
  ⟨h.own.kept hg (.inr (fun e => by have := (h.own.lt g e).1; omega)), h.lm.kept hg (fun b hb _ e => by have := Option.some.inj e; omega)⟩

set_option maxHeartbeats 2000000 in
set_option maxRecDepth 100000 in
theorem refItems_any (a : Option Addr) (n cap : Nat) (L : List It) (w : World) (hl : Il w a L) (hn : L.length = n) (hm : n ≤ 5000) (hs : ∀ x ∈ L, x.key.length ≤ 5000 ∧ x.val.length ≤ 5000) :
    Calls Try.prog 33 #[.slice a n cap] w fun en w' => ∃ A c gk gv xs, en = .returned (.slice (some ⟨A, 0, none⟩) n c) ∧ Lq w' w.heap.size A c gk gv xs L ∧ n ≤ c ∧ c ≤ 9223372036854775807 ∧ w.grownBy w' none := by
  obtain ⟨i1, hi1, hy0, hy1, hy2⟩ := info_parts info_item
  have HL := hid_intro hl
  have HS := hid_intro hs
  clear hl hs
  go_enter Try.func33, Try.ntmps33
  go_wp2_with (at_make; refine wpList_make_own _ rfl _ _ 22 rfl w.heap.size 48 i1 (.agg #[.slice none 0 0, .slice none 0 0, .int .i64 0, .int .i64 0]) 4 Try.underlying22 hi1 hy0 hy1 _ _ _ n rfl rfl rfl ?b2 ?b3 (Nat.le_refl _) ?_)
  case b2 => rw [hy2]; omega
  case b3 => unfold maxLen; omega
  intro w0 hown0 hg0
  have O0 := hid_intro hown0
  have G0 := hid_intro hg0
  clear hown0 hg0
  go_wp2
  go_loopw [3, 4, 5] (fun sl si _ wr => ∃ (i : Nat) (A c : Nat) (gk gv : Nat → Nat × Nat) (xs : List Value), i ≤ n ∧ si = .int .i64 i ∧ sl = .slice (some ⟨A, 0, none⟩) i c ∧ i ≤ c ∧ c ≤ 9223372036854775807 ∧ wr.ownsRow w.heap.size 48 4 (.slice (some ⟨A, 0, none⟩) i c) i xs ∧ Lm wr w.heap.size [] [] gk gv xs (L.take i) ∧ w.grownBy wr none) (fun _ si _ _ => n - (intOf si).toNat)
  case atStart => exact ⟨0, _, _, fun _ => (0, 0), fun _ => (0, 0), [], Nat.zero_le _, rfl, rfl, by omega, by omega, O0.out, Lm.nil _ _ _ _ _ _, G0.out⟩
  case round =>
    obtain ⟨i, A, c, gk, gv, xs, hi', rfl, rfl, hic, hcm, hown, hlm, hg⟩ := hrel
    have HO := hid_intro hown
    have HM := hid_intro hlm
    have HG := hid_intro hg
    clear hown hlm hg O0 G0
    by_cases hlt : i < n
    · obtain ⟨b1, off, ao, k, kc, bo, m, mc, rfl, q1, q2, q3, q4, hk, _, _, hv, _, _⟩ := HL.out.row i (by omega)
      have c0 := HG.out.cell q1 (by simp)
      have c1 := HG.out.cell q2 (by simp)
      have c2 := HG.out.cell q3 (by simp)
      have c3 := HG.out.cell q4 (by simp)
      have K1 := hid_intro (hk.keptN HG.out)
      have V1 := hid_intro (hv.keptN HG.out)
      have hkl := hk.len
      have hvl := hv.len
      have hss := HS.out _ (getD_mem (show i < L.length by omega))
      have HTK := hid_intro (itake (show i < L.length by omega))
      have HTL : Hid ((L.take i).length = i) := by show _ = _; rw [List.length_take]; omega
      clear q1 q2 q3 q4 hk hv
      generalize L.getD i it0 = x at *
      obtain ⟨sz, hsz⟩ : ∃ sz, x.size = sz := ⟨_, rfl⟩
      obtain ⟨fs, hfs⟩ : ∃ fs, x.first = fs := ⟨_, rfl⟩
      rw [hsz] at c2
      rw [hfs] at c3
      have HSZ := hid_intro hsz
      have HFS := hid_intro hfs
      clear hsz hfs
      have hwg := HG.out.size
      go_wp2_with fail
      refine (refItem_any ao k kc bo m mc sz fs x _ K1.out V1.out (by omega) (by omega)).mono ?_
      rintro en w2 ⟨g1, g2, rfl, ho1, ho2, hb1, hb2, hne, hg2⟩
      have ga := World.grownBy_alloc w2 (.cells #[.slice (some ⟨g1, 0, none⟩) k k, .slice (some ⟨g2, 0, none⟩) m m, .int .i64 sz, .int .i64 fs] 48) none
      have HLT : Hid (∀ j, j < (L.take i).length → (gk j).1 < g1 ∧ (gk j).1 < g2 ∧ (gv j).1 < g1 ∧ (gv j).1 < g2) := fun j hj => by
        have := (HM.out.ko j hj).1.lt
        have := (HM.out.ko j hj).2.lt
        omega
      have hga := grown_trans hg2 ga
      have HM3 := hid_intro (HM.out.keptN hga)
      have HO3 := hid_intro (own_keptN HO.out hga)
      have HG3 := hid_intro (grown_trans HG.out hga)
      have OK3 := hid_intro (ho1.keptN ga)
      have OV3 := hid_intro (ho2.keptN ga)
      have X3 := hid_intro (Bx.new w2 (.slice (some ⟨g1, 0, none⟩) k k) (.slice (some ⟨g2, 0, none⟩) m m) (.int .i64 sz) (.int .i64 fs))
      clear ga hga hg2 ho1 ho2 HM HO HG c0 c1 c2 c3 K1 V1
      go_upto_region 6 with fail
      generalize w2.alloc (.cells #[.slice (some ⟨g1, 0, none⟩) k k, .slice (some ⟨g2, 0, none⟩) m m, .int .i64 sz, .int .i64 fs] 48) = w3 at *
      generalize w2.heap.size = T at *
      obtain ⟨x0, x1, x2, x3⟩ := X3.out.cells
      go_wp2_with (at_builtin; refine wpList_append_own _ rfl _ _ 22 rfl w.heap.size 48 i1 (.agg #[.slice none 0 0, .slice none 0 0, .int .i64 0, .int .i64 0]) 4 64 Try.underlying22 hi1 hy0 hy1 hy2 rfl (by decide) _ i xs rfl (HO3.out.alloc _) ⟨w3.heap.size, 0, none⟩ 1 1 [.slice (some ⟨g1, 0, none⟩) k k, .slice (some ⟨g2, 0, none⟩) m m, .int .i64 sz, .int .i64 fs] rfl rfl (cell_four_new _ _ _ _ _ _) (by intro u hu; simp at hu; rcases hu with rfl | rfl | rfl | rfl <;> rfl) (by unfold maxLen; omega) (by omega) (by have := HG3.out.size; simp; omega) ?_)
      intro v' w10 ho hg10 _
      obtain ⟨A', c', rfl, hic', hcm'⟩ := own_slice ho (by omega)
      have gb := World.grownBy_alloc w3 (.cells #[.slice (some ⟨g1, 0, none⟩) k k, .slice (some ⟨g2, 0, none⟩) m m, .int .i64 sz, .int .i64 fs] 48) none
      have hnu : ∀ (g : Nat), U8 (w3.alloc (.cells #[.slice (some ⟨g1, 0, none⟩) k k, .slice (some ⟨g2, 0, none⟩) m m, .int .i64 sz, .int .i64 fs] 48)) g → some g ≠ _ := fun g hu => own_item_ne (HO3.out.alloc (.cells #[.slice (some ⟨g1, 0, none⟩) k k, .slice (some ⟨g2, 0, none⟩) m m, .int .i64 sz, .int .i64 fs] 48)) g hu
      have HM10 := (HM3.out.keptN gb).kept hg10 (fun g _ hu => hnu g hu)
      have OK10 := (OK3.out.keptN gb).kept hg10 (hnu g1 (OK3.out.keptN gb).u8)
      have OV10 := (OV3.out.keptN gb).kept hg10 (hnu g2 (OV3.out.keptN gb).u8)
      have HG10 := hid_intro (grown_app5 HG3.out HO3.out (Nat.le_refl _) hg10)
      have HM11 := hid_intro (HM10.snoc (by rw [List.append_nil]; exact OK10) (by rw [List.append_nil]; exact OV10) hkl hvl HSZ.out HFS.out (by omega) (by omega) hne HLT.out)
      have HO10 := hid_intro ho
      rw [← HTK.out] at HM11
      clear ho hg10 gb hnu HM10 OK10 OV10 HM3 HO3 HG3 OK3 OV3 X3 x0 x1 x2 x3
      go_wp2
      go_roundw
      case rel => exact ⟨i + 1, A', c', _, _, _, by omega, by go_num, rfl, hic', hcm', HO10.out, HM11.out, HG10.out⟩
      case measure => simp [intOf]; omega
    · have hin : i = n := by omega
      subst hin
      have e : L.take i = L := by rw [← hn, List.take_length]
      rw [e] at HM
      clear e
      go_wp2
      go_ret
      exact ⟨A, c, gk, gv, xs, rfl, ⟨by rw [hn]; exact HO.out, HM.out⟩, hic, hcm, HG.out⟩
end Go.Proofs.Ytlfhonlifgpnhaa
