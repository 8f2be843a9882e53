import Derived.Test.YtpoflmcmlnghhaaPlS
namespace Go.Proofs.Ytpoflmcmlnghhaa
open Go.RowKit Go.Maps

theorem own_keptR {w w' : World} {base sz n : Nat} {e : TypeId} {v : Value} {xs : List Value} {row : Option Nat} (h : w.ownsRow base e sz v n xs) (hg : w.grownBy w' row) (hne : ∀ g, v.ownBlock = some g → row ≠ some g) : w'.ownsRow base e sz v n xs := by
  refine ⟨h.1, ?_⟩
  rcases h.2 with h0 | ⟨g, cap, cur, rfl, hb, hc, r⟩
  · exact .inl h0
  · exact .inr ⟨g, cap, cur, rfl, hb, (hg.block g (Array.getElem?_eq_some_iff.1 hc).1 (fun e => hne g rfl e.symm)).trans hc, r⟩
theorem own_lt {w : World} {base sz n : Nat} {e : TypeId} {v : Value} {xs : List Value} (h : w.ownsRow base e sz v n xs) {g : Nat} (hg : v.ownBlock = some g) : base ≤ g ∧ ∃ cur, w.heap[g]? = some (.cells cur e (0, 0)) := by
  rcases h.2 with ⟨rfl, _⟩ | ⟨g', cap, cur, rfl, hb, hc, r⟩
  · cases hg
  · obtain rfl : g' = g := Option.some.inj hg
    exact ⟨hb, cur, hc⟩
theorem own_nil (w : World) (base sz : Nat) (e : TypeId) : w.ownsRow base e sz (.slice none 0 0) 0 [] := ⟨by simp, .inl ⟨rfl, rfl⟩⟩
theorem own_ne_map {w : World} {base sz n : Nat} {e : TypeId} {v : Value} {xs : List Value} (h : w.ownsRow base e sz v n xs) {b n' : Nat} {l : List (Int × Int)} (hm : w.ownsMap Try.prog 3 (plainElem Try.prog 3) b n' (imD l)) : some b ≠ v.ownBlock := by
  intro e
  obtain ⟨_, cur, hc⟩ := own_lt h e.symm
  obtain ⟨es, clock, hb, _⟩ := hm
  rw [hb] at hc
  cases hc
theorem own_ne_it {w : World} {base sz n : Nat} {e : TypeId} {v : Value} {xs : List Value} (h : w.ownsRow base e sz v n xs) {b r n' : Nat} {l : List (Int × Int)} {left : Lit → Bool} {cnt : Nat} (hm : w.ranges Try.prog 3 (plainElem Try.prog 3) b r n' (imD l) left cnt) : some r ≠ v.ownBlock := by
  intro e
  obtain ⟨_, cur, hc⟩ := own_lt h e.symm
  obtain ⟨es, clock, since, seen, c0, _, _, _, _, hr, _⟩ := hm
  rw [hr] at hc
  cases hc

/-- What is usable. -/
def usb (p : Po) : List (Int × Int) := p.l.filter fun x => p.q.all fun y => decide (x.2 ≤ y.1)
def us (p : Po) : List Int := (usb p).map (·.1)
theorem us_ris {p : Po} (h : Ris p.l) : RisZ (us p) := (h.sub List.filter_sublist).keys
theorem us_len (p : Po) : (us p).length ≤ p.l.length := by
  unfold us usb
  rw [List.length_map]
  exact List.length_filter_le _ _
theorem mem_us {p : Po} {x : Int} : x ∈ us p ↔ ∃ y ∈ p.l, y.1 = x ∧ ∀ z ∈ p.q, y.2 ≤ z.1 := by
  unfold us usb
  simp only [List.mem_map, List.mem_filter, List.all_eq_true, decide_eq_true_eq]
  constructor
  · rintro ⟨y, ⟨h1, h2⟩, h3⟩
    exact ⟨y, h1, h3, h2⟩
  · rintro ⟨y, h1, h3, h2⟩
    exact ⟨y, ⟨h1, h2⟩, h3⟩

/-- The least pinned version of those that have come. -/
structure Mn (q : List (Int × Int)) (left : Lit → Bool) (m : Int) : Prop where
  low : ∀ x ∈ q, left (.int .i64 x.1) = false → m ≤ x.1
  is : m = 9223372036854775807 ∨ ∃ x ∈ q, m = x.1
  wf : -9223372036854775808 ≤ m ∧ m ≤ 9223372036854775807
theorem Mn.start (q : List (Int × Int)) : Mn q (Maps.has (imD q)) 9223372036854775807 := by
  refine ⟨fun x hx h => ?_, .inl rfl, by omega⟩
  rw [imD_has] at h
  have : hasI q x.1 = true := (hasI_iff q x.1).2 ⟨x, hx, rfl⟩
  rw [h] at this
  cases this
theorem Mn.step {q : List (Int × Int)} {left : Lit → Bool} {m x c : Int} (h : Mn q left m) (hx : hasI q x = true) (hw : -9223372036854775808 ≤ x ∧ x ≤ 9223372036854775807) (hc : c = if m ≤ x then m else x) : Mn q (fun z => left z && !z.sameKey (.int .i64 x)) c := by
  subst hc
  refine ⟨fun y hy hl => ?_, ?_, ?_⟩
  · simp only [same_int, Bool.and_eq_false_iff, Bool.not_eq_false', decide_eq_true_eq] at hl
    rcases hl with hl | hl
    · have := h.low y hy hl
      split <;> omega
    · split <;> omega
  · split
    · exact h.is
    · obtain ⟨y, hy, e⟩ := (hasI_iff q x).1 hx
      exact .inr ⟨y, hy, e.symm⟩
  · have := h.wf
    split <;> omega
theorem Mn.done {q : List (Int × Int)} {left : Lit → Bool} {m : Int} (h : Mn q left m) (hl : ∀ k, left k = false) {c : Int} (hc : c ≤ 9223372036854775807) : c ≤ m ↔ ∀ y ∈ q, c ≤ y.1 := by
  constructor
  · intro hcm y hy
    have := h.low y hy (hl _)
    omega
  · intro hy
    rcases h.is with e | ⟨x, hx, e⟩
    · omega
    · have := hy x hx
      omega

/-- The usable ones that have come. -/
structure Uc (l : List (Int × Int)) (left : Lit → Bool) (m : Int) (u : List Int) : Prop where
  nd : u.Nodup
  mem : ∀ x, x ∈ u ↔ ∃ y ∈ l, y.1 = x ∧ y.2 ≤ m ∧ left (.int .i64 x) = false
theorem Uc.start (l : List (Int × Int)) (m : Int) : Uc l (Maps.has (imD l)) m [] := by
  refine ⟨List.nodup_nil, fun x => ⟨fun h => (by simp at h), ?_⟩⟩
  rintro ⟨y, hy, rfl, _, h⟩
  rw [imD_has] at h
  have : hasI l y.1 = true := (hasI_iff l y.1).2 ⟨y, hy, rfl⟩
  rw [h] at this
  cases this
theorem Uc.yes {l : List (Int × Int)} {left : Lit → Bool} {m x c : Int} {u : List Int} (h : Uc l left m u) (hx : (x, c) ∈ l) (hlx : left (.int .i64 x) = true) (hc : c ≤ m) : Uc l (fun z => left z && !z.sameKey (.int .i64 x)) m (u ++ [x]) := by
  have hn : x ∉ u := fun hu => by
    obtain ⟨y, _, rfl, _, h2⟩ := (h.mem x).1 hu
    rw [hlx] at h2
    cases h2
  refine ⟨List.nodup_append.2 ⟨h.nd, by simp, fun a ha b hb => ?_⟩, fun z => ?_⟩
  · simp at hb
    subst hb
    intro e
    exact hn (e ▸ ha)
  · simp only [List.mem_append, List.mem_singleton, same_int, h.mem]
    constructor
    · rintro (⟨y, hy, rfl, h1, h2⟩ | rfl)
      · exact ⟨y, hy, rfl, h1, by simp [h2]⟩
      · exact ⟨_, hx, rfl, hc, by simp⟩
    · rintro ⟨y, hy, rfl, h1, h2⟩
      simp only [Bool.and_eq_false_iff, Bool.not_eq_false', decide_eq_true_eq] at h2
      rcases h2 with h2 | h2
      · exact .inl ⟨y, hy, rfl, h1, h2⟩
      · exact .inr h2
theorem Uc.no {l : List (Int × Int)} {left : Lit → Bool} {m x c : Int} {u : List Int} (hr : Ris l) (h : Uc l left m u) (hx : (x, c) ∈ l) (hc : m < c) : Uc l (fun z => left z && !z.sameKey (.int .i64 x)) m u := by
  refine ⟨h.nd, fun z => ?_⟩
  simp only [same_int, h.mem]
  constructor
  · rintro ⟨y, hy, rfl, h1, h2⟩
    exact ⟨y, hy, rfl, h1, by simp [h2]⟩
  · rintro ⟨y, hy, rfl, h1, h2⟩
    simp only [Bool.and_eq_false_iff, Bool.not_eq_false', decide_eq_true_eq] at h2
    rcases h2 with h2 | h2
    · exact ⟨y, hy, rfl, h1, h2⟩
    · have := hr.uniq hy hx h2
      rw [this] at h1
      simp at h1
      omega
theorem nodup_le {u l : List Int} (hn : u.Nodup) (h : ∀ x ∈ u, x ∈ l) : u.length ≤ l.length := by
  induction u generalizing l with
  | nil => simp
  | cons a u ih =>
    obtain ⟨h1, h2⟩ := List.nodup_cons.1 hn
    have ha := h a (List.mem_cons_self ..)
    have := ih (l := l.erase a) h2 (fun x hx => (List.mem_erase_of_ne (fun (e : x = a) => h1 (e ▸ hx))).2 (h x (List.mem_cons_of_mem _ hx)))
    rw [List.length_erase_of_mem ha] at this
    have : 0 < l.length := List.length_pos_of_mem ha
    simp
    omega
theorem Uc.len {l : List (Int × Int)} {left : Lit → Bool} {m : Int} {u : List Int} (h : Uc l left m u) : u.length ≤ l.length := by
  have hs : ∀ x ∈ u, x ∈ l.map (·.1) := fun x hx => by
    obtain ⟨y, hy, rfl, _⟩ := (h.mem x).1 hx
    exact List.mem_map_of_mem hy
  have := nodup_le h.nd hs
  simpa using this
theorem Uc.done {p : Po} {left leftq : Lit → Bool} {m : Int} {u : List Int} (hr : Ris p.l) (h : Uc p.l left m u) (hl : ∀ k, left k = false) (hm : Mn p.q leftq m) (hq : ∀ k, leftq k = false) (hw : ∀ y ∈ p.l, y.2 ≤ 9223372036854775807) : srt u = us p := by
  refine sort_eq h.nd (us_ris hr) fun x => ?_
  rw [h.mem, mem_us]
  constructor
  · rintro ⟨y, hy, rfl, h1, _⟩
    exact ⟨y, hy, rfl, (hm.done hq (hw y hy)).1 h1⟩
  · rintro ⟨y, hy, rfl, h1⟩
    exact ⟨y, hy, rfl, (hm.done hq (hw y hy)).2 h1, hl _⟩

theorem has_of_at {l : List (Int × Int)} {x c : Int} (hr : Ris l) (hat : ∀ zd, (imD l).atKey (.int .i64 x) zd = .lit (.int .i64 c)) : (x, c) ∈ l := by
  have h1 : hasI l x = true := by rw [← imD_has]; exact has_true_of_atKey hat
  have h2 := hat (.lit (.int .i64 0))
  rw [imD_at] at h2
  simp only [DataW.lit.injEq, Lit.int.injEq, true_and] at h2
  have := getI_has hr h1
  rw [h2] at this
  exact this

set_option maxHeartbeats 2000000 in
set_option maxRecDepth 100000 in
theorem usable_any {w : World} {B s q : Nat} {p : Po} (h : Pl w B s q p) (hs : p.l.length ≤ 1000000) :
    Calls Try.prog 14 #[.pointer (some ⟨B, 0, none⟩)] w fun e w' => ∃ v, e = .returned v ∧ w'.ownsRow w.heap.size 3 1 v (us p).length ((us p).map (Value.int .i64)) ∧ w.grownBy w' none := by
  obtain ⟨i1, hi1, hy0, hy1, hy2⟩ := info_parts info_int
  have c3 := h.c3
  have c2 := h.c2
  have HP := hid_intro h
  have HMQ := hid_intro h.mq
  clear h
  go_enter Try.func14, Try.ntmps14
  go_wp2_with (first
    | (at_range; refine wpList_range_own _ rfl _ 67 rfl 3 3 keyedI Try.underlying67 _ q p.q.length _ rfl HMQ.out ?_; intro w0 hrg0 hg0 hs0)
    | go_in)
  go_frame
  go_loopw [3, 4] (fun sm _ wr => ∃ (left : Lit → Bool) (cnt : Nat) (m : Int), sm = .int .i64 m ∧ wr.ranges Try.prog 3 (plainElem Try.prog 3) q w.heap.size p.q.length (imD p.q) left cnt ∧ Mn p.q left m ∧ w.grownBy wr none) (fun _ _ wr => wr.rangeLeft q w.heap.size)
  case atStart => exact ⟨_, _, _, rfl, hrg0, Mn.start _, hg0⟩
  case round =>
    obtain ⟨left, cnt, m, rfl, hrg, hmn, hgw⟩ := hrel
    have HRG := hid_intro hrg
    have HMN := hid_intro hmn
    have HGW := hid_intro hgw
    have c2' := hgw.cell c2 (by simp)
    clear hrg hmn hgw hrg0 hg0 hs0
    go_wp2_with (first
      | (at_next; refine wpList_next_ranges_ii _ rfl _ rfl 3 3 .i64 .i64 keyedI Try.underlying3 Try.underlying3 q w.heap.size p.q.length _ _ _ rfl HRG.out ?_ ?_)
      | go_in)
    · intro _ hl0
      have HL0 := hid_intro hl0
      have HMS := hid_intro (HP.out.ms.keptN HGW.out)
      clear hl0
      go_wp2_with (first
        | (at_range; refine wpList_range_own _ rfl _ 67 rfl 3 3 keyedI Try.underlying67 _ s p.l.length _ rfl HMS.out ?_; intro w0 hrg0 hg0 hs0)
        | go_in)
      go_frame
      have hr2 : w.heap.size ≤ wr.heap.size := HGW.out.size
      have HG0 := hid_intro (grown_trans HGW.out hg0)
      clear HMS hg0 hs0
      generalize wr.heap.size = r2 at *
      go_loopw [5, 6, 7] (fun sv _ _ wr => ∃ (left : Lit → Bool) (cnt : Nat) (u : List Int), wr.ranges Try.prog 3 (plainElem Try.prog 3) s r2 p.l.length (imD p.l) left cnt ∧ Uc p.l left m u ∧ wr.ownsRow w.heap.size 3 1 sv u.length (u.map (Value.int .i64)) ∧ w.grownBy wr none) (fun _ _ _ wr => wr.rangeLeft s r2)
      case atStart => exact ⟨_, _, [], hrg0, Uc.start _ _, own_nil _ _ _ _, HG0.out⟩
      case round =>
        rename_i sv _ _
        obtain ⟨left2, cnt2, u, hrg, huc, hown, hgw⟩ := hrel
        have HRG2 := hid_intro hrg
        have HUC := hid_intro huc
        have HO := hid_intro hown
        have HG2 := hid_intro hgw
        clear hrg huc hown hgw hrg0 HG0
        go_wp2_with (first
          | (at_next; refine wpList_next_ranges_ii _ rfl _ rfl 3 3 .i64 .i64 keyedI Try.underlying3 Try.underlying3 s r2 p.l.length _ _ _ rfl HRG2.out ?_ ?_)
          | go_in)
        · intro _ hl1
          have HS : Hid (srt u = us p) := HUC.out.done HP.out.ms.ris hl1 HMN.out HL0.out (fun y hy => (of_wf64 (HP.out.ms.wf y hy)).2)
          have hul := HUC.out.len
          clear hl1
          go_wp2_with fail
          refine (sort_any _ HO.out (by omega)).mono ?_
          rintro e w3 ⟨rfl, ho3, hg3⟩
          rw [HS.out] at ho3
          have hl3 : u.length = (us p).length := by rw [← HS.out, srt_len]
          rw [hl3] at ho3
          have HO3 := hid_intro ho3
          have HG3 := hid_intro (HG2.out.andThen hg3 (fun j e => .inl (own_lt HO.out e).1))
          clear ho3 hg3 hl3
          go_wp2
          go_ret
          exact ⟨_, rfl, HO3.out, HG3.out⟩
        · intro x c w1 cnt1 hwx hwc hlx hat hrg1 hlt hg1 hs1 hen
          have HX := hid_intro (has_of_at HP.out.ms.ris hat)
          have hul := HUC.out.len
          have HO1 := hid_intro (own_keptR HO.out hg1 (fun g e e' => own_ne_it HO.out HRG2.out (e'.symm ▸ e.symm)))
          have HG1 := hid_intro (HG2.out.andThen hg1 (fun j e => .inl (by have := Option.some.inj e; omega)))
          have HRG3 := hid_intro hrg1
          have HLX := hid_intro hlx
          have HLT := hid_intro hlt
          clear hlx hat hrg1 hlt hg1 hs1 hwx hwc
          by_cases hcm : c ≤ m
          · have HU2 := hid_intro (HUC.out.yes HX.out HLX.out hcm)
            go_wp2_with (first
              | (at_builtin; refine wpList_append_own _ rfl _ _ 22 rfl w.heap.size 3 i1 (.int .i64 0) 1 8 Try.underlying22 hi1 hy0 hy1 hy2 rfl (by decide) u5 u.length (u.map (Value.int .i64)) rfl (HO1.out.alloc _) ⟨w1.heap.size, 0, none⟩ 1 1 [.int .i64 x] rfl rfl (cell_one_new _ _ _) (by intro u hu; simp at hu; subst hu; rfl) (by unfold maxLen; omega) (by omega) (by have := HG1.out.size; simp; omega) ?_; intro v' w10 ho hg10 _)
              | go_in)
            have hrg4 := (HRG3.out.alloc (.cells #[.int .i64 x] 3)).kept hg10 (own_ne_map (HO1.out.alloc (.cells #[.int .i64 x] 3)) (HRG3.out.owns.alloc _)) (own_ne_it (HO1.out.alloc (.cells #[.int .i64 x] 3)) (HRG3.out.alloc _))
            have hg4 := grown_app5 HG1.out HO1.out (Nat.le_refl _) hg10
            have HO4 := hid_intro ho
            have HRG4 := hid_intro hrg4
            have HG4 := hid_intro hg4
            clear ho hg10 hrg4 hg4
            go_wp2
            go_roundw
            case rel => exact ⟨_, cnt1, u ++ [x], HRG4.out, HU2.out, by simpa using HO4.out, HG4.out⟩
            case measure => rw [HRG4.out.left_eq, HRG2.out.left_eq]; exact HLT.out
          · have HU2 := hid_intro (HUC.out.no HP.out.ms.ris HX.out (Int.not_le.1 hcm))
            go_wp2
            go_roundw
            case rel => exact ⟨_, cnt1, u, HRG3.out, HU2.out, HO1.out, HG1.out⟩
            case measure => rw [HRG3.out.left_eq, HRG2.out.left_eq]; exact HLT.out
    · intro x c w1 cnt1 hwx hwc hlx hat hrg1 hlt hg1 hs1 hen
      have HX := hid_intro ((hasI_iff p.q x).2 ⟨_, has_of_at HP.out.mq.ris hat, rfl⟩)
      have HG1 := hid_intro (HGW.out.andThen hg1 (fun j e => .inl (by have := Option.some.inj e; omega)))
      have HRG3 := hid_intro hrg1
      have HLT := hid_intro hlt
      have hxw := of_wf64 hwx
      clear hlx hat hrg1 hlt hg1 hs1 hwx hwc
      by_cases hcm : m ≤ x
      · have HM2 := hid_intro (HMN.out.step HX.out hxw (c := m) (by rw [if_pos hcm]))
        go_wp2
        go_roundw
        case rel => exact ⟨_, cnt1, m, by rw [Int.min_eq_left hcm], HRG3.out, HM2.out, HG1.out⟩
        case measure => rw [HRG3.out.left_eq, HRG.out.left_eq]; exact HLT.out
      · have HM2 := hid_intro (HMN.out.step HX.out hxw (c := x) (by rw [if_neg hcm]))
        go_wp2
        go_roundw
        case rel => exact ⟨_, cnt1, x, by rw [Int.min_eq_right (by omega)], HRG3.out, HM2.out, HG1.out⟩
        case measure => rw [HRG3.out.left_eq, HRG.out.left_eq]; exact HLT.out

end Go.Proofs.Ytpoflmcmlnghhaa
