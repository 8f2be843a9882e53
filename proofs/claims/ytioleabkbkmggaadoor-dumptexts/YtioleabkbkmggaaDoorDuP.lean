import Derived.Test.YtioleabkbkmggaaDoorDuJ
namespace Go.Proofs.YtioleabkbkmggaaDoor
open Go.RowKit

/-! ### lent, stays: pairs in new memory, a mark behind each -/
structure Lw (w : World) (B : Nat) (bl : Nat → Nat) (xs : List Value) (l : List Pq) : Prop where
  len : xs.length = l.length * 2
  mono : ∀ a b, a < b → b < l.length * 2 → bl a < bl b
  el : ∀ i p, l[i]? = some p → ∃ c d, xs[i * 2]? = some (.slice (some ⟨bl (i * 2), 0, none⟩) p.1.length c) ∧ xs[i * 2 + 1]? = some (.slice (some ⟨bl (i * 2 + 1), 0, none⟩) p.2.length d) ∧
    w.ownsRow B 5 1 (.slice (some ⟨bl (i * 2), 0, none⟩) (p.1.length + 1) c) (p.1.length + 1) ((p.1 ++ [201]).map (Value.int .u8)) ∧
    w.ownsRow B 5 1 (.slice (some ⟨bl (i * 2 + 1), 0, none⟩) (p.2.length + 1) d) (p.2.length + 1) ((p.2 ++ [202]).map (Value.int .u8)) ∧ Bt p.1 ∧ Bt p.2
theorem Lw.nil (w : World) (B : Nat) (bl : Nat → Nat) : Lw w B bl [] [] := ⟨rfl, fun a b h1 h2 => by simp at h2, fun i p h => by simp at h⟩
theorem Lw.keptN {w w' : World} {B : Nat} {bl : Nat → Nat} {xs : List Value} {l : List Pq} (h : Lw w B bl xs l) (hg : w.grownBy w' none) : Lw w' B bl xs l :=
  ⟨h.len, h.mono, fun i p hp => by
    obtain ⟨c, d, h1, h2, h3, h4, h5⟩ := h.el i p hp
    exact ⟨c, d, h1, h2, own_keptD h3 hg, own_keptD h4 hg, h5⟩⟩
theorem Lw.app {w w' : World} {B : Nat} {bl : Nat → Nat} {xs : List Value} {l : List Pq} {base n : Nat} {v : Value} {ys : List Value} (h : Lw w B bl xs l) (ho : w.ownsRow base 44 2 v n ys) (hg : w.grownBy w' v.ownBlock) : Lw w' B bl xs l :=
  ⟨h.len, h.mono, fun i p hp => by
    obtain ⟨c, d, h1, h2, h3, h4, h5⟩ := h.el i p hp
    exact ⟨c, d, h1, h2, h3.kept hg (own_neD h3 ho (by decide)), h4.kept hg (own_neD h4 ho (by decide)), h5⟩⟩
theorem Lw.lt {w : World} {B : Nat} {bl : Nat → Nat} {xs : List Value} {l : List Pq} (h : Lw w B bl xs l) {a : Nat} (ha : a < l.length * 2) : B ≤ bl a ∧ bl a < w.heap.size := by
  obtain ⟨i, hi, hc⟩ : ∃ i, i < l.length ∧ (a = i * 2 ∨ a = i * 2 + 1) := ⟨a / 2, by omega, by omega⟩
  obtain ⟨c, d, h1, h2, h3, h4, h5⟩ := h.el i _ (List.getElem?_eq_getElem hi)
  rcases hc with rfl | rfl
  · exact h3.lt _ rfl
  · exact h4.lt _ rfl
theorem Lw.snoc {w : World} {B g k c d : Nat} {bl : Nat → Nat} {xs : List Value} {l : List Pq} {p : Pq} (h : Lw w B bl xs l)
    (h3 : w.ownsRow B 5 1 (.slice (some ⟨g, 0, none⟩) (p.1.length + 1) c) (p.1.length + 1) ((p.1 ++ [201]).map (Value.int .u8)))
    (h4 : w.ownsRow B 5 1 (.slice (some ⟨k, 0, none⟩) (p.2.length + 1) d) (p.2.length + 1) ((p.2 ++ [202]).map (Value.int .u8)))
    (hb : Bt p.1 ∧ Bt p.2) (hlo : ∀ a, a < l.length * 2 → bl a < g) (hgk : g < k) :
    ∃ bl', Lw w B bl' (xs ++ [.slice (some ⟨g, 0, none⟩) p.1.length c, .slice (some ⟨k, 0, none⟩) p.2.length d]) (l ++ [p]) := by
  have hl := h.len
  refine ⟨fun j => if j = l.length * 2 then g else if j = l.length * 2 + 1 then k else bl j, by simp [hl]; omega, fun a b hab hb2 => ?_, fun i q hq => ?_⟩
  · rw [List.length_append, List.length_singleton] at hb2
    have h1 : ¬ a = l.length * 2 + 1 := by omega
    by_cases h2 : a = l.length * 2
    · have h5 : ¬ b = l.length * 2 := by omega
      have h6 : b = l.length * 2 + 1 := by omega
      simp only [if_pos h2, if_neg h5, if_pos h6]; exact hgk
    · have h7 := hlo a (by omega)
      simp only [if_neg h2, if_neg h1]
      by_cases h5 : b = l.length * 2
      · simp only [if_pos h5]; exact h7
      · by_cases h6 : b = l.length * 2 + 1
        · simp only [if_neg h5, if_pos h6]; omega
        · simp only [if_neg h5, if_neg h6]; exact h.mono a b hab (by omega)
  · by_cases hi : i < l.length
    · rw [List.getElem?_append_left hi] at hq
      obtain ⟨c', d', h1, h2, h3', h4', h5⟩ := h.el i q hq
      have e1 : ¬ i * 2 = l.length * 2 := by omega
      have e2 : ¬ i * 2 = l.length * 2 + 1 := by omega
      have e3 : ¬ i * 2 + 1 = l.length * 2 := by omega
      have e4 : ¬ i * 2 + 1 = l.length * 2 + 1 := by omega
      simp only [if_neg e1, if_neg e2, if_neg e3, if_neg e4]
      exact ⟨c', d', by rw [List.getElem?_append_left (by omega)]; exact h1, by rw [List.getElem?_append_left (by omega)]; exact h2, h3', h4', h5⟩
    · rw [List.getElem?_append_right (by omega)] at hq
      have hi2 : i - l.length = 0 := by
        cases hk : i - l.length with
        | zero => rfl
        | succ k => rw [hk] at hq; simp at hq
      rw [hi2] at hq
      simp only [List.getElem?_cons_zero, Option.some.injEq] at hq
      subst hq
      have hi3 : i = l.length := by omega
      subst hi3
      have e3 : ¬ l.length * 2 + 1 = l.length * 2 := by omega
      simp only [if_neg e3, if_true]
      refine ⟨c, d, ?_, ?_, h3, h4, hb⟩
      · rw [List.getElem?_append_right (by omega), hl, Nat.sub_self]; rfl
      · rw [List.getElem?_append_right (by omega), hl, Nat.add_sub_cancel_left]; rfl
/-- A list of pairs in memory whose row begins the call's own. -/
theorem Lw.pm {w : World} {B : Nat} {bl : Nat → Nat} {xs ys : List Value} {l : List Pq} {base n m : Nat} {a : Option Addr} {c : Nat} (h : Lw w B bl xs l) (ho : w.ownsRow base 44 2 (.slice a n c) n (xs ++ ys)) (hm : l.length = m) (hm2 : m ≤ n) : Pm w a l := by
  have hl := h.len
  have ho1 := ho.1
  refine ⟨fun i p hp => ?_⟩
  have hi := (List.getElem?_eq_some_iff.1 hp).1
  obtain ⟨c1, d1, h1, h2, h3, h4, h5, h6⟩ := h.el i p hp
  rcases ho.2 with ⟨_, e2⟩ | ⟨g, cap, cur, e1, _, e3, e4, e5, e6, e7⟩
  · omega
  · simp only [Value.slice.injEq] at e1
    obtain ⟨rfl, _, rfl⟩ := e1
    have hc : ∀ j u, xs[j]? = some u → w.cell? ⟨g, j, none⟩ = some u := by
      intro j u hu
      have hu2 : (xs ++ ys)[j]? = some u := by rw [List.getElem?_append_left (List.getElem?_eq_some_iff.1 hu).1]; exact hu
      rw [cell_of_row w g j cur _ _ e3, ← Array.getElem?_toList]
      rw [← e7, List.getElem?_take] at hu2
      split at hu2
      · exact hu2
      · cases hu2
    have t3 := (byt_of_ownD h3).take p.1.length c1 (by omega) (fun e => by cases e)
    have t4 := (byt_of_ownD h4).take p.2.length d1 (by omega) (fun e => by cases e)
    rw [List.take_left' rfl] at t3 t4
    exact ⟨g, 0, _, c1, _, d1, rfl, by rw [Nat.zero_add]; exact hc _ _ h1, by rw [Nat.zero_add]; exact hc _ _ h2, t3, h5, t4, h6⟩
/-- What lent answers. -/
def LentP (w : World) (n : Nat) (l : List Pq) (en : Ending) (w' : World) : Prop := ∃ a c bl xs g, en = .returned (.slice a n c) ∧ w.grownBy w' none ∧ n + 1 ≤ c ∧
  w'.ownsRow w.heap.size 44 2 (.slice a (n + 1) c) (n + 1) (xs ++ [.slice (some ⟨g, 0, none⟩) 1 1, .slice none 0 0]) ∧ Lw w' w.heap.size bl xs l ∧ w'.ownsRow w.heap.size 5 1 (.slice (some ⟨g, 0, none⟩) 1 1) 1 [.int .u8 203] ∧ ∀ j, j < l.length * 2 → bl j < g
set_option maxHeartbeats 8000000 in
set_option maxRecDepth 100000 in
theorem lent20 (a : Option Addr) (n c : Nat) (l : List Pq) (w : World) (h : Pm w a l) (hn : l.length = n) (h0 : n ≤ 2000) (hs : ∀ p ∈ l, p.1.length ≤ 1048576 ∧ p.2.length ≤ 1048576) :
    Calls Tryd.prog 18 #[.slice a n c] w fun en w' => LentP w n l en w' := by
  obtain ⟨i0, hi, hz0, hz1, hz2⟩ := info_parts info_u8
  obtain ⟨ip, hip, hp0, hp1, hp2⟩ := info_parts info_pairD
  have HP := hid_intro h
  have HL := hid_intro hn
  have HSM := hid_intro hs
  clear h hn hs
  go_enter Tryd.func18, Tryd.ntmps18
  go_wp2
  go_loopw [3, 4, 5, 6] (fun sm si _ _ wr => ∃ (i : Nat) (so : Option Addr) (sc : Nat) (bl : Nat → Nat) (xs : List Value), i ≤ n ∧ si = .int .i64 (i : Nat) ∧ sm = .slice so i sc ∧ wr.ownsRow w.heap.size 44 2 (.slice so i sc) i xs ∧ Lw wr w.heap.size bl xs (l.take i) ∧ w.grownBy wr none) (fun _ si _ _ _ => n - (intOf si).toNat)
  case atStart => exact ⟨0, none, 0, fun _ => 0, [], Nat.zero_le _, rfl, rfl, ⟨rfl, .inl ⟨rfl, rfl⟩⟩, Lw.nil _ _ _, World.grownBy.refl _ _⟩
  case round =>
    obtain ⟨i, so, sc, bl, xs, hi', rfl, rfl, ho, hlw, hg⟩ := hrel
    have HO := hid_intro ho
    have HLW := hid_intro hlw
    have HG := hid_intro hg
    clear ho hlw hg
    by_cases hlt : i < n
    · obtain ⟨p, hp⟩ : ∃ p, l[i]? = some p := ⟨_, List.getElem?_eq_getElem (by have := HL.out; omega)⟩
      have hsm := HSM.out p (List.mem_of_getElem? hp)
      have HTK : Hid (l.take (i + 1) = l.take i ++ [p]) := by
        obtain ⟨h1, e⟩ := List.getElem?_eq_some_iff.1 hp
        show _ = _
        rw [List.take_succ_eq_append_getElem h1, e]
      have HTL : Hid ((l.take i).length = i) := by show _ = _; rw [List.length_take]; have := HL.out; omega
      obtain ⟨b, off, ao, c1, bo, d1, rfl, q1, q2, q3, q4, q5, q6⟩ := HP.out.el i p hp
      obtain ⟨ky, vl⟩ := p
      simp only at q1 q2 q3 q4 q5 q6 hsm
      obtain ⟨n1, hn1⟩ : ∃ n1, ky.length = n1 := ⟨_, rfl⟩
      obtain ⟨n2, hn2⟩ : ∃ n2, vl.length = n2 := ⟨_, rfl⟩
      rw [hn1] at q1 q3 hsm
      rw [hn2] at q2 q5 hsm
      have N1 := hid_intro hn1
      have N2 := hid_intro hn2
      have c0 := HG.out.cell q1 (by simp)
      have Q1 := hid_intro q1
      have Q2 := hid_intro q2
      have Q3 := hid_intro q3
      have Q4 := hid_intro q4
      have Q5 := hid_intro q5
      have Q6 := hid_intro q6
      have j0 : (0 : Int) ≤ (i : Int) := by omega
      have j1 : (i : Int) < (n : Int) := by omega
      clear q1 q2 q3 q4 q5 q6 hn1 hn2 hp
      go_wp2_with fail
      refine (refBytes_any ao n1 c1 ky wr (Q3.out.keptN HG.out) (by omega)).mono ?_
      rintro en w2 ⟨rfl, ho2, hg2, _⟩
      have O2 := hid_intro ho2
      have G2 := hid_intro hg2
      clear ho2 hg2
      have hs2 := G2.out.size
      go_wp2_with (at_builtin; refine wpList_append_own _ rfl _ _ 22 rfl wr.heap.size 5 i0 (.int .u8 0) 1 1 Tryd.underlying22 hi hz0 hz1 hz2 rfl (by decide) _ n1 _ rfl (O2.out.alloc _) ⟨w2.heap.size, 0, none⟩ 1 1 [.int .u8 201] rfl rfl (cell_one_new _ _ _) (by intro u hu; simp at hu; subst hu; rfl) (by unfold maxLen; omega) (by omega) (by simp; omega) ?_)
      intro v3 w3 ho3 hg3 _
      have e3 : (ky.map (Value.int .u8)) ++ [.int .u8 201] = (ky ++ [201]).map (Value.int .u8) := by simp
      rw [e3] at ho3
      obtain ⟨g, cp, hv3, hgb, hnc, _, _⟩ := own_atD ho3 (by omega)
      subst hv3
      have O3 := hid_intro ho3
      have R3 := hid_intro (grown_app20 G2.out O2.out (Nat.le_refl _) hg3)
      have G3 := hid_intro (grown_trans HG.out R3.out)
      clear c0
      have c2 := G3.out.cell Q2.out (by simp)
      have hgl : g < w3.heap.size := (ho3.lt g rfl).2
      clear ho3 hg3 e3 O2 G2 hs2
      go_wp2_with fail
      refine (refBytes_any bo n2 d1 vl w3 (Q5.out.keptN G3.out) (by omega)).mono ?_
      rintro en w4 ⟨rfl, ho4, hg4, _⟩
      have O4 := hid_intro ho4
      have G4 := hid_intro hg4
      clear ho4 hg4
      have hs4 := G4.out.size
      go_wp2_with (at_builtin; refine wpList_append_own _ rfl _ _ 22 rfl w3.heap.size 5 i0 (.int .u8 0) 1 1 Tryd.underlying22 hi hz0 hz1 hz2 rfl (by decide) _ n2 _ rfl (O4.out.alloc _) ⟨w4.heap.size, 0, none⟩ 1 1 [.int .u8 202] rfl rfl (cell_one_new _ _ _) (by intro u hu; simp at hu; subst hu; rfl) (by unfold maxLen; omega) (by omega) (by simp; omega) ?_)
      intro v5 w5 ho5 hg5 _
      have e5 : (vl.map (Value.int .u8)) ++ [.int .u8 202] = (vl ++ [202]).map (Value.int .u8) := by simp
      rw [e5] at ho5
      obtain ⟨k, cq, hv5, hkb, hkc, _, _⟩ := own_atD ho5 (by omega)
      subst hv5
      have O5 := hid_intro ho5
      have R5 := hid_intro (grown_app20 G4.out O4.out (Nat.le_refl _) hg5)
      have G5 := hid_intro (grown_trans G3.out R5.out)
      clear c2
      have c0 := G5.out.cell Q1.out (by simp)
      have c2 := G5.out.cell Q2.out (by simp)
      have OK5 := hid_intro (own_low (own_keptD O3.out R5.out) HG.out.size)
      have OV5 := hid_intro (own_low O5.out G3.out.size)
      have LW5 := hid_intro (HLW.out.keptN (grown_trans R3.out R5.out))
      have OM5 := hid_intro (own_keptD HO.out (grown_trans R3.out R5.out))
      have HLO : Hid (∀ j, j < (l.take i).length * 2 → bl j < g) := fun j hj => by have := (HLW.out.lt hj).2; omega
      clear ho5 hg5 e5 O4 G4 hs4 O3 O5 R3 R5 G3 HLW HO
      have k1 : (n1 : Int) ≤ (cp : Int) := by omega
      have k2 : (n2 : Int) ≤ (cq : Int) := by omega
      have k3 : (0 : Int) ≤ (n1 : Int) := by omega
      have k4 : (0 : Int) ≤ (n2 : Int) := by omega
      have HAP : Hid (∀ W : World, W.heap = w5.heap → (W.alloc (.cells #[.slice (some ⟨g, 0, none⟩) n1 cp, .slice (some ⟨k, 0, none⟩) n2 cq] 44)).ownsRow w.heap.size 44 2 (.slice so i sc) i xs) := fun W hW => (own_same20 OM5.out hW).alloc _
      have hs5 := G5.out.size
      go_upto_region 7 with fail
      go_region_law (refine step_append20 rfl (.tmp 29) (.tmp 47) 35 (by rfl) w.heap.size 44 ip (.agg #[.slice none 0 0, .slice none 0 0]) 2 48 Tryd.underlying35 hip hp0 hp1 hp2 rfl (by decide) (.slice so i sc) i xs (by rfl) (by exact HAP.out _ rfl) ⟨w5.heap.size, 0, none⟩ 1 1 [.slice (some ⟨g, 0, none⟩) n1 cp, .slice (some ⟨k, 0, none⟩) n2 cq] (by rfl) rfl (by exact cell_two20 _ _ _ _) (by intro u hu; simp at hu; rcases hu with rfl | rfl <;> rfl) (by unfold maxLen; omega) (by omega) (by simp; omega) ?_; intro v8 w8 ho8 hg8; obtain ⟨va, vc, hv8⟩ := own_shape20 ho8; subst hv8; have O8 := hid_intro ho8; have G8 := hid_intro (grown_undrew hg8); clear ho8 hg8)
      all_goals
        go_wp2
        go_roundw
        case rel =>
          have gb := World.grownBy_alloc w5 (.cells #[.slice (some ⟨g, 0, none⟩) n1 cp, .slice (some ⟨k, 0, none⟩) n2 cq] 44) none
          have oa := own_keptD OM5.out gb
          have ok8 := (own_keptD OK5.out gb).kept G8.out (own_neD (own_keptD OK5.out gb) oa (by decide))
          have ov8 := (own_keptD OV5.out gb).kept G8.out (own_neD (own_keptD OV5.out gb) oa (by decide))
          have p8 := (LW5.out.keptN gb).app oa G8.out
          obtain ⟨bl', ps⟩ := p8.snoc (p := (ky, vl)) (by rw [N1.out]; exact ok8) (by rw [N2.out]; exact ov8) ⟨Q4.out, Q6.out⟩ HLO.out (by omega)
          simp only [N1.out, N2.out] at ps
          have gg := grown_app20 G5.out OM5.out (Nat.le_refl _) G8.out
          exact ⟨i + 1, va, vc, bl', _, by omega, by go_num, rfl, O8.out, by rw [HTK.out]; exact ps, gg⟩
        case measure => simp [intOf]; omega
    · obtain rfl : i = n := by omega
      have HTK : Hid (l.take i = l) := by show _ = _; rw [← HL.out, List.take_length]
      have LW := HLW.out
      rw [HTK.out] at LW
      have LW5 := hid_intro LW
      clear LW HLW
      have hs5 := HG.out.size
      have HAP : Hid (∀ W : World, W.heap = wr.heap → ((W.alloc (.cells #[.int .u8 203] 5)).alloc (.cells #[.slice (some ⟨wr.heap.size, 0, none⟩) 1 1, .slice none 0 0] 44)).ownsRow w.heap.size 44 2 (.slice so i sc) i xs) := fun W hW => ((own_same20 HO.out hW).alloc _).alloc _
      go_wp2_with (at_builtin; refine wpList_append_own _ rfl _ _ 35 rfl w.heap.size 44 ip (.agg #[.slice none 0 0, .slice none 0 0]) 2 48 Tryd.underlying35 hip hp0 hp1 hp2 rfl (by decide) _ i xs rfl (HAP.out _ rfl) ⟨wr.heap.size + 1, 0, none⟩ 1 1 [.slice (some ⟨wr.heap.size, 0, none⟩) 1 1, .slice none 0 0] rfl rfl (by have hh := cell_two_new (wr.alloc (.cells #[.int .u8 203] 5)) 44 (.slice (some ⟨wr.heap.size, 0, none⟩) 1 1) (.slice none 0 0); rw [size_allocD] at hh; exact hh) (by intro u hu; simp at hu; rcases hu with rfl | rfl <;> rfl) (by unfold maxLen; omega) (by omega) (by simp; omega) ?_)
      intro v8 w8 ho8 hg8 _
      obtain ⟨va, vc, hv8⟩ := own_shape20 ho8
      subst hv8
      have gb := grown_trans (World.grownBy_alloc wr (.cells #[.int .u8 203] 5) none) (World.grownBy_alloc (wr.alloc (.cells #[.int .u8 203] 5)) (.cells #[.slice (some ⟨wr.heap.size, 0, none⟩) 1 1, .slice none 0 0] 44) none)
      have om := own_keptD HO.out gb
      have hlit : (wr.alloc (.cells #[.int .u8 203] 5)).ownsRow wr.heap.size 5 1 (.slice (some ⟨wr.heap.size, 0, none⟩) 1 1) 1 [.int .u8 203] := World.ownsRow_lit (base := wr.heap.size) (e := 5) (size := 1) wr #[.int .u8 203] 1 (Nat.le_refl _) (by unfold maxLen; omega) rfl
      have hl2 := own_keptD hlit (World.grownBy_alloc _ (.cells #[.slice (some ⟨wr.heap.size, 0, none⟩) 1 1, .slice none 0 0] 44) none)
      have O9 := hid_intro (own_low (hl2.kept hg8 (own_neD hl2 om (by decide))) hs5)
      have L9 := hid_intro ((LW5.out.keptN gb).app om hg8)
      have G9 := hid_intro (grown_app20 (grown_trans HG.out (World.grownBy_alloc wr (.cells #[.int .u8 203] 5) none)) (own_keptD HO.out (World.grownBy_alloc wr (.cells #[.int .u8 203] 5) none)) (Nat.le_refl _) hg8)
      have O8 := hid_intro ho8
      have HC : Hid (i + 1 ≤ vc) := by
        show i + 1 ≤ vc
        rcases ho8.2 with ⟨e, _⟩ | ⟨_, _, _, e1, _, _, e4, _⟩
        · cases e
        · simp only [Value.slice.injEq] at e1
          omega
      have HLB : Hid (∀ j, j < l.length * 2 → bl j < wr.heap.size) := fun j hj => (LW5.out.lt hj).2
      have k1 : (i : Int) ≤ (vc : Int) := by have := HC.out; omega
      have k2 : (0 : Int) ≤ (i : Int) := by omega
      clear ho8 hg8 gb om hlit hl2
      go_wp2
      go_ret
      exact ⟨va, vc, bl, xs, wr.heap.size, rfl, G9.out, HC.out, O8.out, L9.out, O9.out, HLB.out⟩
end Go.Proofs.YtioleabkbkmggaaDoor
