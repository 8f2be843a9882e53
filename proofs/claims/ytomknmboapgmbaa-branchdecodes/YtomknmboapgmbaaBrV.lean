import Derived.Test.YtomknmboapgmbaaBrW
namespace Go.Proofs.Ytomknmboapgmbaa
open Go.RowKit

theorem mark_one (x : List Int) : (x ++ [201, 202]).getD x.length 0 = 201 := by
  unfold List.getD
  rw [List.getElem?_append_right (Nat.le_refl _), Nat.sub_self]
  rfl
theorem mark_two (x : List Int) : (x ++ [201, 202]).getD (x.length + 1) 0 = 202 := by
  unfold List.getD
  rw [List.getElem?_append_right (by omega), Nat.add_sub_cancel_left]
  rfl
def kdm : Kd := ⟨201, 202⟩

set_option maxHeartbeats 2000000 in
set_option maxRecDepth 100000 in
theorem stays_any (base A c h : Nat) (gs : List (Nat × Nat)) (xs : List Value) (a : Option Addr) (n cap : Nat) (L : List (List Int)) (w : World) (hk : Ln w base A c h gs xs L) (hl : Lz w a L) (hlb : Lb L) (hn : L.length = n) (hm : n ≤ 5000) :
    Calls Try.prog 14 #[.slice (some ⟨A, 0, none⟩) n c, .slice a n cap] w fun en w' => en = .returned (.bool true) ∧ w.grownBy w' none := by
  have HK := hid_intro hk
  have HL := hid_intro hl
  have hcl := hk.cap_le
  clear hk hl
  go_enter Try.func14, Try.ntmps14
  go_wp2_with fail
  refine (sameLists_any (some ⟨A, 0, none⟩) n c L a n cap L _ HK.out.lz hlb hn HL.out hlb hn (by omega)).mono ?_
  rintro en w1 ⟨⟨b8, rfl, hb8⟩, hq8⟩
  obtain rfl : b8 = true := hb8.2 rfl
  have Q1 := hid_intro hq8
  clear hb8 hq8
  go_wp2
  go_loopw [5, 6, 7, 8] (fun so si _ _ wr => ∃ i : Nat, i ≤ n ∧ si = .int .i64 i ∧ so = .bool true ∧ Qt w wr) (fun _ si _ _ _ => n - (intOf si).toNat)
  case atStart => exact ⟨0, Nat.zero_le _, rfl, rfl, Q1.out⟩
  case round =>
    obtain ⟨i, hi', rfl, rfl, hq⟩ := hrel
    have HQ := hid_intro hq
    clear hq Q1
    by_cases hlt : i < n
    · obtain ⟨b1, off, ao, k, cc, rfl, q2, q3, q4, q5⟩ := HL.out.row i (by omega)
      have c0 := (HQ.out.cell _).trans q2
      have c1 := (HQ.out.cell _).trans (HK.out.cell i (by omega))
      obtain ⟨_, h2, _⟩ := HK.out.lp.el i (by omega)
      have hk := q3.len
      have hsz := HK.out.sz _ (lget_mem (show i < L.length by omega))
      have c2 := (HQ.out.cell _).trans (h2.cell (j := k) (by rw [List.length_append]; simp only [List.length_cons, List.length_nil]; omega))
      have c3 := (HQ.out.cell _).trans (h2.cell (j := k + 1) (by rw [List.length_append]; simp only [List.length_cons, List.length_nil]; omega))
      have e2 : (L.getD i [] ++ [201, 202]).getD k 0 = 201 := by rw [← hk]; exact mark_one _
      have e3 : (L.getD i [] ++ [201, 202]).getD (k + 1) 0 = 202 := by rw [← hk]; exact mark_two _
      rw [e2] at c2
      rw [e3] at c3
      have hle := h2.le
      have hmx := h2.max
      rw [List.length_append] at hle
      simp only [List.length_cons, List.length_nil] at hle
      rw [hk] at c1 hle hsz
      clear q2 q3 h2 hk e2 e3
      generalize (gs.getD i (0, 0)).1 = g at *
      generalize (gs.getD i (0, 0)).2 = gc at *
      have g1 : (k : Int) + 2 ≤ (gc : Int) := by omega
      have g2 : (k : Int) < (k : Int) + 2 := by omega
      have g3 : (k : Int) + 1 < (k : Int) + 2 := by omega
      go_wp2
      go_roundw
      case rel => exact ⟨i + 1, by omega, by go_num, rfl, HQ.out⟩
      case measure => simp [intOf]; omega
    · have hin : i = n := by omega
      subst hin
      have c0 := (HQ.out.cell _).trans HK.out.cellLast
      have c1 := (HQ.out.cell _).trans (HK.out.last.cell (j := 0) (by simp))
      rw [hn] at c0
      have c1' : wr.cell? ⟨h, 0, none⟩ = some (.int .u8 203) := c1
      have g1 : (i : Int) + 1 ≤ (c : Int) := by omega
      have g2 : (i : Int) < (i : Int) + 1 := by omega
      clear c1
      go_wp2
      go_ret
      exact ⟨rfl, HQ.out.grown _⟩

/-- Kids lent: one more behind. -/
structure Lk (w : World) (base A cap : Nat) (K : List Kd) : Prop where
  own : w.ownsRow base 37 2 (.slice (some ⟨A, 0, none⟩) (K.length + 1) cap) (K.length + 1) (kc (K ++ [kdm]))
theorem Lk.keptN {w w' : World} {base A cap : Nat} {K : List Kd} (k : Lk w base A cap K) (hg : w.grownBy w' none) : Lk w' base A cap K := ⟨own_keptN k.own hg⟩
theorem Lk.cap_le {w : World} {base A cap : Nat} {K : List Kd} (k : Lk w base A cap K) : K.length + 1 ≤ cap ∧ cap ≤ 9223372036854775807 := by
  rcases k.own.2 with ⟨e, _⟩ | ⟨g, cap', cur, hv, _, _, hc, hm, _⟩
  · cases e
  · injection hv with _ _ e3
    subst e3
    exact ⟨hc, by unfold maxLen at hm; omega⟩
theorem Lk.cells {w : World} {base A cap : Nat} {K : List Kd} (k : Lk w base A cap K) (i : Nat) (hi : i < K.length + 1) : w.cell? ⟨A, i * 2, none⟩ = some (.int .i64 ((K ++ [kdm]).getD i kd0).no) ∧ w.cell? ⟨A, i * 2 + 1, none⟩ = some (.int .i64 ((K ++ [kdm]).getD i kd0).keys) := by
  have h := kc_get (K ++ [kdm]) i (by simp; omega)
  exact ⟨by rw [k.own.cellAt _ (by omega)]; exact h.1, by rw [k.own.cellAt _ (by omega)]; exact h.2⟩
theorem Lk.kl {w : World} {base A cap : Nat} {K : List Kd} (k : Lk w base A cap K) : Kl w (some ⟨A, 0, none⟩) K := by
  refine ⟨fun i hi => ⟨A, 0, rfl, ?_⟩⟩
  have e : (K ++ [kdm]).getD i kd0 = K.getD i kd0 := by simp [List.getD, List.getElem?_append_left hi]
  have := k.cells i (by omega)
  rw [e] at this
  rw [Nat.zero_add]
  exact this

set_option maxHeartbeats 1000000 in
set_option maxRecDepth 100000 in
/-- coppiceref.Kids: a copy. -/
theorem refKids_any (a : Option Addr) (n cap : Nat) (K : List Kd) (w : World) (hl : Kl w a K) (hn : K.length = n) (hm : n ≤ 5000) :
    Calls Try.prog 19 #[.slice a n cap] w fun en w' => (∃ v, en = .returned v ∧ w'.ownsRow w.heap.size 37 2 v n (kc K)) ∧ w.grownBy w' none ∧ w.heap.size < w'.heap.size := by
  obtain ⟨i1, hi1, hy0, hy1, hy2⟩ := info_parts info_kid
  have HL := hid_intro hl
  clear hl
  go_enter Try.func19, Try.ntmps19
  go_wp2_with (at_make; refine wpList_make_own _ rfl _ _ 30 rfl w.heap.size 37 i1 (.agg #[.int .i64 0, .int .i64 0]) 2 Try.underlying30 hi1 hy0 hy1 _ _ _ n rfl rfl rfl ?b2 ?b3 (Nat.le_refl _) ?_)
  case b2 => rw [hy2]; omega
  case b3 => unfold maxLen; omega
  intro w0 hown0 hg0
  have hs0 : w.heap.size < w0.heap.size := (hown0.lt w.heap.size rfl).2
  have O0 := hid_intro hown0
  have G0 := hid_intro hg0
  clear hown0 hg0
  go_wp2
  go_loopw [3, 4] (fun sl si wr => ∃ i : Nat, i ≤ n ∧ si = .int .i64 i ∧ wr.ownsRow w.heap.size 37 2 sl i (kc (K.take i)) ∧ w.grownBy wr none ∧ w.heap.size < wr.heap.size) (fun _ si _ => n - (intOf si).toNat)
  case atStart => exact ⟨0, Nat.zero_le _, rfl, O0.out, G0.out, hs0⟩
  case round =>
    obtain ⟨i, hi', rfl, hown, hg, hs⟩ := hrel
    have HO := hid_intro hown
    have HG := hid_intro hg
    clear hown hg O0 G0
    by_cases hlt : i < n
    · obtain ⟨b1, off, rfl, q2, q3⟩ := HL.out.row i (by omega)
      have c0 := HG.out.cell q2 (by simp)
      have c1 := HG.out.cell q3 (by simp)
      have HTK : Hid (kc (K.take (i + 1)) = kc (K.take i) ++ [.int .i64 (K.getD i kd0).no, .int .i64 (K.getD i kd0).keys]) := by
        show _ = _
        rw [← kc_snoc, List.take_add_one, List.getElem?_eq_getElem (show i < K.length by omega)]
        simp [List.getD, List.getElem?_eq_getElem (show i < K.length by omega)]
      clear q2 q3
      generalize (K.getD i kd0).no = no at *
      generalize (K.getD i kd0).keys = ks at *
      go_wp2_with (at_builtin; refine wpList_append_own _ rfl _ _ 30 rfl w.heap.size 37 i1 (.agg #[.int .i64 0, .int .i64 0]) 2 16 Try.underlying30 hi1 hy0 hy1 hy2 rfl (by decide) _ i (kc (K.take i)) rfl (HO.out.alloc _) ⟨wr.heap.size, 0, none⟩ 1 1 [.int .i64 no, .int .i64 ks] rfl rfl (cell_two_new _ _ _ _) (by intro u hu; simp at hu; rcases hu with rfl | rfl <;> rfl) (by unfold maxLen; omega) (by omega) (by have := HG.out.size; simp; omega) ?_)
      intro v' w10 ho hg10 _
      have HO1 := hid_intro ho
      have HG1 := hid_intro (grown_app5 HG.out HO.out (Nat.le_refl _) hg10)
      have hs1 : w.heap.size < w10.heap.size := by have := hg10.size; simp at this; omega
      clear ho hg10 HO HG c0 c1
      go_wp2
      go_roundw
      case rel => exact ⟨i + 1, by omega, by go_num, by rw [HTK.out]; exact HO1.out, HG1.out, hs1⟩
      case measure => simp [intOf]; omega
    · have hin : i = n := by omega
      subst hin
      have e : K.take i = K := by rw [← hn, List.take_length]
      rw [e] at HO
      go_wp2
      go_ret
      exact ⟨⟨_, rfl, HO.out⟩, HG.out, hs⟩

set_option maxHeartbeats 1000000 in
set_option maxRecDepth 100000 in
theorem lentKids_any (a : Option Addr) (n cap : Nat) (K : List Kd) (w : World) (hl : Kl w a K) (hn : K.length = n) (hm : n ≤ 5000) :
    Calls Try.prog 17 #[.slice a n cap] w fun en w' => (∃ A c, en = .returned (.slice (some ⟨A, 0, none⟩) n c) ∧ Lk w' w.heap.size A c K) ∧ w.grownBy w' none := by
  obtain ⟨i1, hi1, hy0, hy1, hy2⟩ := info_parts info_kid
  have HL := hid_intro hl
  clear hl
  go_enter Try.func17, Try.ntmps17
  go_wp2_with fail
  refine (refKids_any a n cap K _ HL.out hn hm).mono ?_
  rintro en w1 ⟨⟨v, rfl, hown⟩, hg1, hs1⟩
  have HO := hid_intro hown
  have HG := hid_intro hg1
  clear hown hg1
  go_wp2_with (at_builtin; refine wpList_append_own _ rfl _ _ 30 rfl w.heap.size 37 i1 (.agg #[.int .i64 0, .int .i64 0]) 2 16 Try.underlying30 hi1 hy0 hy1 hy2 rfl (by decide) _ n (kc K) rfl (HO.out.alloc _) ⟨w1.heap.size, 0, none⟩ 1 1 [.int .i64 201, .int .i64 202] rfl rfl (cell_two_new _ _ _ _) (by intro u hu; simp at hu; rcases hu with rfl | rfl <;> rfl) (by unfold maxLen; omega) (by omega) (by have := HG.out.size; simp; omega) ?_)
  intro v' w2 ho hg2 _
  have HG2 := hid_intro (grown_app5 HG.out HO.out (Nat.le_refl _) hg2)
  rcases ho.2 with ⟨e, h0⟩ | ⟨A, cap', cur, hv, _, _, hc, hmx, _⟩
  · omega
  · subst hv
    have HLN : Hid (Lk w2 w.heap.size A cap' K) := ⟨by rw [kc_snoc, hn]; exact ho⟩
    have g1 : (n : Int) ≤ (cap' : Int) := by omega
    have g2 : (0 : Int) ≤ (n : Int) := by omega
    clear ho hg2 HO HG
    go_wp2
    go_ret
    exact ⟨⟨A, cap', rfl, HLN.out⟩, HG2.out⟩

set_option maxHeartbeats 1000000 in
set_option maxRecDepth 100000 in
theorem stayKids_any (base A c : Nat) (a : Option Addr) (n cap : Nat) (K : List Kd) (w : World) (hk : Lk w base A c K) (hl : Kl w a K) (hn : K.length = n) (hm : n ≤ 5000) :
    Calls Try.prog 36 #[.slice (some ⟨A, 0, none⟩) n c, .slice a n cap] w fun en w' => en = .returned (.bool true) ∧ w.grownBy w' none := by
  have HK := hid_intro hk
  have HL := hid_intro hl
  have hcl := hk.cap_le
  clear hk hl
  go_enter Try.func36, Try.ntmps36
  go_wp2_with fail
  refine (sameKids_any (some ⟨A, 0, none⟩) n c K a n cap K _ HK.out.kl hn HL.out hn (by omega)).mono ?_
  rintro en w1 ⟨⟨b8, rfl, hb8⟩, hq8⟩
  obtain rfl : b8 = true := hb8.2 rfl
  have hc := HK.out.cells n (by omega)
  have e : (K ++ [kdm]).getD n kd0 = kdm := by rw [← hn]; simp [List.getD]
  rw [e] at hc
  have c0 : w1.cell? ⟨A, n * 2, none⟩ = some (.int .i64 201) := (hq8.cell _).trans hc.1
  have c1 : w1.cell? ⟨A, n * 2 + 1, none⟩ = some (.int .i64 202) := (hq8.cell _).trans hc.2
  have Q1 := hid_intro hq8
  have g1 : (n : Int) + 1 ≤ (c : Int) := by omega
  have g2 : (n : Int) < (n : Int) + 1 := by omega
  clear hb8 hq8 hc e
  go_wp2
  go_ret
  exact ⟨rfl, Q1.out.grown _⟩

set_option maxHeartbeats 1000000 in
set_option maxRecDepth 100000 in
/-- coppiceref.ByteLists: a copy. -/
theorem refLists_any (a : Option Addr) (n cap : Nat) (L : List (List Int)) (w : World) (hl : Lz w a L) (hn : L.length = n) (hm : n ≤ 5000) (hs : ∀ s ∈ L, s.length ≤ 20000) :
    Calls Try.prog 15 #[.slice a n cap] w fun en w' => (∃ a' c', en = .returned (.slice a' n c') ∧ Lz w' a' L ∧ n ≤ c' ∧ c' ≤ 9223372036854775807) ∧ w.grownBy w' none := by
  obtain ⟨i0, hi, hz0, hz1, hz2⟩ := info_parts info_bytesS
  have HL := hid_intro hl
  have HS := hid_intro hs
  clear hl hs
  go_enter Try.func15, Try.ntmps15
  go_wp2_with (at_make; refine wpList_make_own _ rfl _ _ 22 rfl w.heap.size 28 i0 (.slice none 0 0) 1 Try.underlying22 hi hz0 hz1 _ _ _ n rfl rfl rfl ?b2 ?b3 (Nat.le_refl _) ?_)
  case b2 => rw [hz2]; omega
  case b3 => unfold maxLen; omega
  intro w0 hown0 hg0
  have O0 := hid_intro hown0
  have G0 := hid_intro hg0
  clear hown0 hg0
  go_wp2
  go_loopw [3, 4, 5] (fun sl si _ wr => ∃ (i : Nat) (xs : List Value), i ≤ n ∧ si = .int .i64 i ∧ Sv wr w.heap.size xs (L.take i) ∧ wr.ownsRow w.heap.size 28 1 sl i xs ∧ w.grownBy wr none) (fun _ si _ _ => n - (intOf si).toNat)
  case atStart => exact ⟨0, [], Nat.zero_le _, rfl, Sv.nil _ _, O0.out, G0.out⟩
  case round =>
    obtain ⟨i, xs, hi', rfl, hsv, hown, hg⟩ := hrel
    have HV := hid_intro hsv
    have HO := hid_intro hown
    have HG := hid_intro hg
    clear hsv hown hg O0 G0
    by_cases hlt : i < n
    · obtain ⟨b1, off, ao, k, c, rfl, q2, q3, q4, q5⟩ := HL.out.row i (by omega)
      have c0 := HG.out.cell q2 (by simp)
      have B0 := hid_intro (q3.keptN HG.out)
      have hk := q3.len
      have hk2 := HS.out _ (lget_mem (show i < L.length by omega))
      have HTK : Hid (L.take (i + 1) = L.take i ++ [L.getD i []]) := by
        show _ = _
        rw [List.take_add_one, List.getElem?_eq_getElem (show i < L.length by omega)]
        simp [List.getD, List.getElem?_eq_getElem (show i < L.length by omega)]
      clear q2 q3
      generalize L.getD i [] = x at *
      go_wp2_with fail
      refine (refBytes_any ao k c x _ B0.out (by omega)).mono ?_
      rintro en w2 ⟨rfl, hown2, hg2, hs2⟩
      have R2 := hid_intro (Rw.of_owns hown2)
      have HV2 := hid_intro (HV.out.kept hg2 (fun _ _ _ _ => by simp))
      have HO2 := hid_intro (own_keptN HO.out hg2)
      have HG2 := hid_intro (grown_trans HG.out hg2)
      have hgl := HG.out.size
      clear hown2 hg2 hs2 HV HO HG B0 c0
      generalize wr.heap.size = g at *
      go_wp2_with (at_builtin; refine wpList_append_own _ rfl _ _ 22 rfl w.heap.size 28 i0 (.slice none 0 0) 1 24 Try.underlying22 hi hz0 hz1 hz2 rfl (by decide) _ i xs rfl (HO2.out.alloc _) ⟨w2.heap.size, 0, none⟩ 1 1 [.slice (some ⟨g, 0, none⟩) k k] rfl rfl (cell_one_new _ _ _) (by intro u hu; simp at hu; subst hu; rfl) (by unfold maxLen; omega) (by omega) (by have := HG2.out.size; simp; omega) ?_)
      intro v' w4 ho4 hg4 _
      have hg24 := World.grownBy_alloc w2 (.cells #[.slice (some ⟨g, 0, none⟩) k k] 28) none
      have hnu : ∀ (q : Nat) (ys : List Int), w.heap.size ≤ q → Rw (w2.alloc (.cells #[.slice (some ⟨g, 0, none⟩) k k] 28)) q ys → some q ≠ _ := fun q ys _ hq => own_ne (HO2.out.alloc (.cells #[.slice (some ⟨g, 0, none⟩) k k] 28)) hq (by decide)
      have HV4 := hid_intro (((HV2.out.kept hg24 (fun _ _ _ _ => by simp)).kept hg4 hnu).snoc ((R2.out.keptN hg24).kept hg4 (hnu g x hgl (R2.out.keptN hg24))) hk hgl (by omega))
      have HG4 := hid_intro (grown_app5 HG2.out HO2.out (Nat.le_refl _) hg4)
      have HO4 := hid_intro ho4
      clear hg24 hnu ho4 hg4 HV2 HO2 HG2 R2
      go_wp2
      go_roundw
      case rel => exact ⟨i + 1, _, by omega, by go_num, by rw [HTK.out]; exact HV4.out, HO4.out, HG4.out⟩
      case measure => simp [intOf]; omega
    · have hin : i = n := by omega
      subst hin
      have e : L.take i = L := by rw [← hn, List.take_length]
      rw [e] at HV
      obtain ⟨a2, cap3, e1, e2, e3, e4, e5⟩ := HV.out.lz HO.out
      subst e1
      have HM := hid_intro e2
      clear e2 HV HO e
      go_wp2
      go_ret
      exact ⟨⟨a2, cap3, rfl, HM.out, e4, e5⟩, HG.out⟩
end Go.Proofs.Ytomknmboapgmbaa
