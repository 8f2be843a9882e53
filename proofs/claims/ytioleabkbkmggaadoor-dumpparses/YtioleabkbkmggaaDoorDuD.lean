import Derived.Test.YtioleabkbkmggaaDoorDuC
namespace Go.Proofs.YtioleabkbkmggaaDoor
open Go.RowKit

theorem info_pairD : (Tryd.prog.info? 44).map (fun i => (i.zero, i.size, i.bytes)) = some (some (.agg #[.slice none 0 0, .slice none 0 0]), 2, 48) := by kernel_rfl
/-- Pairs of one's own: each key and value in a row of bytes. -/
structure Pw (w : World) (xs : List Value) (l : List Pq) : Prop where
  len : xs.length = l.length * 2
  el : ∀ i p, l[i]? = some p → ∃ ao c bo d, xs[i * 2]? = some (.slice ao p.1.length c) ∧ xs[i * 2 + 1]? = some (.slice bo p.2.length d) ∧ w.ownsRow 0 5 1 (.slice ao p.1.length c) p.1.length (p.1.map (Value.int .u8)) ∧ w.ownsRow 0 5 1 (.slice bo p.2.length d) p.2.length (p.2.map (Value.int .u8)) ∧ Bt p.1 ∧ Bt p.2
theorem Pw.nil (w : World) : Pw w [] [] := ⟨rfl, fun i p h => by simp at h⟩
theorem Pw.keptN {w w' : World} {xs : List Value} {l : List Pq} (h : Pw w xs l) (hg : w.grownBy w' none) : Pw w' xs l :=
  ⟨h.len, fun i p hp => by
    obtain ⟨ao, c, bo, d, h1, h2, h3, h4, h5⟩ := h.el i p hp
    exact ⟨ao, c, bo, d, h1, h2, own_keptD h3 hg, own_keptD h4 hg, h5⟩⟩
theorem own_neD {w : World} {b1 b2 e1 e2 s1 s2 n1 n2 : Nat} {v1 v2 : Value} {x1 x2 : List Value} (h : w.ownsRow b1 e1 s1 v1 n1 x1) (k : w.ownsRow b2 e2 s2 v2 n2 x2) (hne : e1 ≠ e2) : v1.ownBlock = none ∨ v1.ownBlock ≠ v2.ownBlock := by
  rcases h.2 with ⟨h1, _⟩ | ⟨g, cap, cur, h1, _, h3, _⟩
  · left; rw [h1]; rfl
  · right
    rcases k.2 with ⟨k1, _⟩ | ⟨g', cap', cur', k1, _, k3, _⟩
    · rw [h1, k1]; simp [Value.ownBlock]
    · rw [h1, k1]
      simp only [Value.ownBlock, ne_eq, Option.some.injEq]
      intro e
      subst e
      rw [h3] at k3
      simp only [Option.some.injEq, Obj.cells.injEq] at k3
      exact hne k3.2.1
/-- The list's own row grows. -/
theorem Pw.app {w w' : World} {xs : List Value} {l : List Pq} {base n : Nat} {v : Value} {ys : List Value} (h : Pw w xs l) (ho : w.ownsRow base 44 2 v n ys) (hg : w.grownBy w' v.ownBlock) : Pw w' xs l :=
  ⟨h.len, fun i p hp => by
    obtain ⟨ao, c, bo, d, h1, h2, h3, h4, h5⟩ := h.el i p hp
    exact ⟨ao, c, bo, d, h1, h2, h3.kept hg (own_neD h3 ho (by decide)), h4.kept hg (own_neD h4 ho (by decide)), h5⟩⟩
theorem Pw.snoc {w : World} {xs : List Value} {l : List Pq} {p : Pq} {ao bo : Option Addr} {c d : Nat} (h : Pw w xs l) (h3 : w.ownsRow 0 5 1 (.slice ao p.1.length c) p.1.length (p.1.map (Value.int .u8))) (h4 : w.ownsRow 0 5 1 (.slice bo p.2.length d) p.2.length (p.2.map (Value.int .u8))) (hb : Bt p.1 ∧ Bt p.2) : Pw w (xs ++ [.slice ao p.1.length c, .slice bo p.2.length d]) (l ++ [p]) := by
  have hl := h.len
  refine ⟨by simp [hl]; omega, fun i q hq => ?_⟩
  by_cases hi : i < l.length
  · rw [List.getElem?_append_left hi] at hq
    obtain ⟨ao', c', bo', d', h1, h2, h3', h4', h5⟩ := h.el i q hq
    exact ⟨ao', c', bo', d', by rw [List.getElem?_append_left (by omega)]; exact h1, by rw [List.getElem?_append_left (by omega)]; exact h2, h3', h4', h5⟩
  · rw [List.getElem?_append_right (by omega)] at hq
    have hi2 : i - l.length = 0 := by
      cases hk : i - l.length with
      | zero => rfl
      | succ k => rw [hk] at hq; simp at hq
    rw [hi2] at hq
    simp only [List.getElem?_cons_zero, Option.some.injEq] at hq
    subst hq
    have hi3 : i = l.length := by omega
    subst hi3
    refine ⟨ao, c, bo, d, ?_, ?_, h3, h4, hb⟩
    · rw [List.getElem?_append_right (by omega), hl, Nat.sub_self]; rfl
    · rw [List.getElem?_append_right (by omega), hl, Nat.add_sub_cancel_left]; rfl
theorem byt_of_ownD {w : World} {base n c : Nat} {a : Option Addr} {zs : List Int} (h : w.ownsRow base 5 1 (.slice a n c) n (zs.map (Value.int .u8))) : Byt w a n c zs := by
  obtain ⟨a', c', e, hb⟩ := owns_any h
  simp only [Value.slice.injEq] at e
  obtain ⟨rfl, _, rfl⟩ := e
  exact hb
theorem Pw.pm {w : World} {xs : List Value} {l : List Pq} {base n : Nat} {a : Option Addr} {c : Nat} (h : Pw w xs l) (ho : w.ownsRow base 44 2 (.slice a n c) n xs) : Pm w a l ∧ l.length = n := by
  have hl := h.len
  have ho1 := ho.1
  have hn : l.length = n := by omega
  refine ⟨⟨fun i p hp => ?_⟩, hn⟩
  have hi := (List.getElem?_eq_some_iff.1 hp).1
  obtain ⟨ao, c1, bo, d1, h1, h2, h3, h4, h5, h6⟩ := h.el i p hp
  rcases ho.2 with ⟨_, e2⟩ | ⟨g, cap, cur, e1, _, e3, e4, e5, e6, e7⟩
  · omega
  · simp only [Value.slice.injEq] at e1
    obtain ⟨rfl, _, rfl⟩ := e1
    have hc : ∀ j u, xs[j]? = some u → w.cell? ⟨g, j, none⟩ = some u := by
      intro j u hu
      rw [cell_of_row w g j cur _ _ e3, ← Array.getElem?_toList]
      rw [← e7, List.getElem?_take] at hu
      split at hu
      · exact hu
      · cases hu
    exact ⟨g, 0, ao, c1, bo, d1, rfl, by rw [Nat.zero_add]; exact hc _ _ h1, by rw [Nat.zero_add]; exact hc _ _ h2, byt_of_ownD h3, h5, byt_of_ownD h4, h6⟩

def Pa.pre (l : List Pq) : Pa → Pa
  | .ok m => .ok (l ++ m)
  | .error (k, e) => .error (k, e)
theorem Pa.pre_nil (r : Pa) : r.pre [] = r := by cases r <;> rfl
theorem Pa.pre_cons (l : List Pq) (p : Pq) (r : Pa) : (r.cons p).pre l = r.pre (l ++ [p]) := by cases r <;> simp [Pa.pre, Pa.cons]
/-- What Parse answers. -/
def PaP (w : World) (r : Pa) (en : Ending) (w' : World) : Prop := w.grownBy w' none ∧ ((∃ (k : Nat) (e : Int), r = .error (k, e) ∧ en = .returned (.tuple #[.slice none 0 0, .int .i64 (k : Nat), .int .i64 e])) ∨
  ∃ l a c xs, r = .ok l ∧ en = .returned (.tuple #[.slice a l.length c, .int .i64 0, .int .i64 0]) ∧ w'.ownsRow w.heap.size 44 2 (.slice a l.length c) l.length xs ∧ Pw w' xs l)
theorem cnt_le {t : List UInt8} {n : Nat} (h : cnt t = some n) : n ≤ 2147483647 := by
  unfold cnt at h
  split at h
  · exact (dec_nb h).2
  · cases h
theorem cell_two20 (w : World) (e : TypeId) (a b : Value) : ∀ j u, [a, b][j]? = some u → (w.alloc (.cells #[a, b] e)).drew.cell? ((⟨w.heap.size, 0, none⟩ : Addr).add j) = some u := fun j u h => cell_two_new w e a b j u h
theorem alloc_cell20 {w5 : World} {X : Nat} {x y : Value} (h : w5.heap[X]? = some (.cells #[x, y] 44 (0, 0))) (hl : X < w5.heap.size) (o : Obj) : (w5.alloc o).cell? ⟨X, 0, none⟩ = some x := by
  have h8 : (w5.alloc o).heap[X]? = some (.cells #[x, y] 44 (0, 0)) := (Below.heap_alloc w5 o X hl).trans h
  rw [Lib.cell_of_heap h8]; rfl
theorem box_cell20 {w5 w8 : World} {X : Nat} {x y : Value} {o : Obj} {v : Value} (h : w5.heap[X]? = some (.cells #[x, y] 44 (0, 0))) (hl : X < w5.heap.size) (hg : (w5.alloc o).grownBy w8 v.ownBlock) (hlt : ∀ g, v.ownBlock = some g → g < X) : w8.cell? ⟨X, 0, none⟩ = some x := by
  have h8 : w8.heap[X]? = some (.cells #[x, y] 44 (0, 0)) := by
    rw [hg.block X (by simp; omega) (fun e => by have := hlt X e.symm; omega), Below.heap_alloc w5 o X hl]
    exact h
  rw [Lib.cell_of_heap h8]; rfl
set_option maxHeartbeats 8000000 in
set_option maxRecDepth 100000 in
theorem parse_any (T : List UInt8) (w : World) (ht : T.length ≤ 2000000000) : Calls Tryd.prog 26 #[.string (tstr T)] w fun en w' => PaP w (prs T) en w' := by
  obtain ⟨ip, hip, hp0, hp1, hp2⟩ := info_parts info_pairD
  have HCU := hid_intro (cut_any 10 T w ht)
  obtain ⟨hl1, hl2⟩ := cua_len 10 T
  have HCN := hid_intro (fun W => count_any (cua 10 T) W (by omega))
  have HPR : Hid (prs T = match cutC 10 T with | none => .error (1, 200) | some p => match cnt p.1 with | none => .error (1, 200) | some n => pls n [] p.2 2) := by
    show _ = _
    unfold prs
    cases cutC 10 T <;> rfl
  cases hct : cutC 10 T with
  | none =>
    rw [hct] at HCU HPR
    simp only [Option.isSome_none] at HCU HPR
    generalize prs T = R at *
    generalize tstr (cua 10 T) = s1 at *
    generalize tstr (cub 10 T) = s2 at *
    generalize cnt (cua 10 T) = cn at *
    generalize tstr T = s at *
    go_enter Tryd.func26, Tryd.ntmps26
    go_wp2_with fail
    refine HCU.out.mono ?_
    rintro en w1 ⟨rfl, hq1⟩
    have Q1 := hid_intro (hq1.grown none)
    clear hq1
    go_wp2_with fail
    refine (HCN.out _).mono ?_
    rintro en w2 ⟨hg, ⟨hr, rfl⟩ | ⟨n, hr, rfl⟩⟩
    all_goals
      have HG := hid_intro (grown_trans Q1.out hg)
      clear hg hr
      go_wp2
      go_ret3
      exact ⟨HG.out, .inl ⟨1, 200, HPR.out, rfl⟩⟩
  | some q =>
    obtain ⟨ln, rs⟩ := q
    have e1 : cua 10 T = ln := by unfold cua; rw [hct]
    have e2 : cub 10 T = rs := by unfold cub; rw [hct]
    rw [hct] at HCU HPR
    simp only [Option.isSome_some] at HCU HPR
    rw [e1, e2] at HCU
    rw [e1] at HCN
    rw [e2] at hl2
    generalize prs T = R at *
    generalize tstr T = s at *
    clear e1 e2 hct hl1
    go_enter Tryd.func26, Tryd.ntmps26
    go_wp2_with fail
    refine HCU.out.mono ?_
    rintro en w1 ⟨rfl, hq1⟩
    have Q1 := hid_intro (hq1.grown none)
    clear hq1
    go_wp2_with fail
    refine (HCN.out _).mono ?_
    rintro en w2 ⟨hg, ⟨hr, rfl⟩ | ⟨n, hr, rfl⟩⟩
    · have HG := hid_intro (grown_trans Q1.out hg)
      have HR : Hid (R = .error (1, 200)) := by show _ = _; rw [HPR.out, hr]
      clear hg hr HPR HCN HCU
      generalize tstr ln = s1 at *
      generalize tstr rs = s2 at *
      go_wp2
      go_ret3
      exact ⟨HG.out, .inl ⟨1, 200, HR.out, rfl⟩⟩
    · have HG := hid_intro (grown_trans Q1.out hg)
      have HR : Hid (R = pls n [] rs 2) := by show _ = _; rw [HPR.out, hr]
      have hn := cnt_le hr
      clear hg hr HPR HCN HCU Q1
      generalize tstr ln = s1 at *
      go_wp2
      go_loopw [6, 7, 10, 11, 12, 13, 14, 15, 34] (fun s6 _ s10 s11 _ _ _ _ si wr => ∃ (i kn kc : Nat) (ka : Option Addr) (za : List Int) (Rl : List UInt8) (l : List Pq) (xs : List Value), i ≤ n ∧ si = .int .i64 (i : Nat) ∧ s6 = .string (tstr Rl) ∧ s11 = .slice ka kn kc ∧ Byt wr ka kn kc za ∧ Bt za ∧ l.length = i ∧ Rl.length ≤ T.length ∧ wr.ownsRow w.heap.size 44 2 s10 i xs ∧ Pw wr xs l ∧ w.grownBy wr none ∧ R = (pls (n - i) za Rl (i + 2)).pre l) (fun _ _ _ _ _ _ _ _ si _ => n - (intOf si).toNat)
      case atStart => exact ⟨0, 0, 0, none, [], rs, [], [], Nat.zero_le _, rfl, rfl, rfl, Byt.empty _, Bt.nil, rfl, hl2, ⟨rfl, .inl ⟨rfl, rfl⟩⟩, Pw.nil _, HG.out, by rw [Pa.pre_nil]; exact HR.out⟩
      case round =>
        obtain ⟨i, kn, kc, ka, za, Rl, l, xs, hi, rfl, rfl, rfl, hb, bt, hll, hrl, ho, hpw, hg, hR⟩ := hrel
        obtain ⟨so, sc, hso⟩ := own_shape20 ho
        subst hso
        have HB := hid_intro hb
        have HBT := hid_intro bt
        have HO := hid_intro ho
        have HPW := hid_intro hpw
        have HG2 := hid_intro hg
        have HR2 := hid_intro hR
        have HLL := hid_intro hll
        clear hb bt ho hpw hg hR HG HR hll
        by_cases hlt : i < n
        · obtain ⟨m, hm⟩ : ∃ m, n - i = m + 1 := ⟨n - i - 1, by omega⟩
          rw [hm] at HR2
          have HM := hid_intro hm
          clear hm
          have HC2 := hid_intro (cut_any 10 Rl wr (by omega))
          cases hct : cutC 10 Rl with
          | none =>
            rw [hct] at HC2
            simp only [Option.isSome_none] at HC2
            have HR3 : Hid (R = .error ((i + 2), 200)) := by show _ = _; rw [HR2.out]; simp only [pls, hct]; rfl
            clear HR2 hct
            generalize tstr (cua 10 Rl) = s1 at *
            generalize tstr (cub 10 Rl) = s2 at *
            generalize tstr Rl = s3 at *
            go_wp2_with fail
            refine HC2.out.mono ?_
            rintro en w3 ⟨rfl, hq3⟩
            have G3 := hid_intro (grown_trans HG2.out (hq3.grown none))
            clear hq3
            go_wp2
            go_ret3
            exact ⟨G3.out, .inl ⟨i + 2, 200, HR3.out, by simp⟩⟩
          | some q =>
            obtain ⟨lx, rx⟩ := q
            have e1 : cua 10 Rl = lx := by unfold cua; rw [hct]
            have e2 : cub 10 Rl = rx := by unfold cub; rw [hct]
            obtain ⟨hx1, hx2⟩ := cua_len 10 Rl
            rw [hct, e1, e2] at HC2
            rw [e1] at hx1
            rw [e2] at hx2
            simp only [Option.isSome_some] at HC2
            have HR3 : Hid (R = Pa.pre l (match pp za lx with | .error e => Except.error (i + 2, e) | .ok p => (pls m p.1 rx (i + 2 + 1)).cons p)) := by show _ = _; rw [HR2.out]; simp only [pls, hct]; rfl
            have HPP := hid_intro (fun W hb => parsePair_any lx ka kn kc za W hb HBT.out (by omega))
            clear HR2 hct e1 e2
            generalize tstr lx = s1 at *
            generalize tstr Rl = s3 at *
            go_wp2_with fail
            refine HC2.out.mono ?_
            rintro en w3 ⟨rfl, hq3⟩
            have G3 := hid_intro (grown_trans HG2.out (hq3.grown none))
            have Q3 := hid_intro hq3
            clear hq3
            go_wp2_with fail
            refine (HPP.out w3 (HB.out.heap Q3.out.heap)).mono ?_
            rintro en w4 ⟨hg4, ⟨e, hr, he, rfl⟩ | ⟨k, v, ao, c, bo, d, hr, rfl, bk, bv, ok, ov⟩⟩
            · have HR4 : Hid (R = .error ((i + 2), e)) := by show _ = _; rw [HR3.out, hr]; rfl
              have G4 := hid_intro (grown_trans G3.out hg4)
              have G5 := hid_intro (grown_trans G4.out (World.grownBy_alloc w4 (.cells #[.slice none 0 0, .slice none 0 0] 44) none))
              have k1 : (e == 0) = false := by rw [beq_eq_false_iff_ne]; exact he
              have k2 : (e != 0) = true := by simp only [bne, k1]; rfl
              clear hg4 hr HR3 he HPP
              go_wp2
              go_ret3
              exact ⟨G5.out, .inl ⟨i + 2, e, HR4.out, by simp⟩⟩
            · have HR4 : Hid (R = (pls m k rx (i + 2 + 1)).pre (l ++ [(k, v)])) := by
                show _ = _
                rw [HR3.out, hr]
                exact Pa.pre_cons _ _ _
              have g14 : w.grownBy w4 none := grown_trans G3.out hg4
              have ga := World.grownBy_alloc w4 (.cells #[.slice ao k.length c, .slice bo v.length d] 44) none
              have g34 : wr.grownBy (w4.alloc (.cells #[.slice ao k.length c, .slice bo v.length d] 44)) none := grown_trans (grown_trans (Q3.out.grown none) hg4) ga
              have hxb : (w4.alloc (.cells #[.slice ao k.length c, .slice bo v.length d] 44)).heap[w4.heap.size]? = some (.cells #[.slice ao k.length c, .slice bo v.length d] 44 (0, 0)) := heap_alloc_new w4 _
              have HXB := hid_intro hxb
              have G5 := hid_intro (grown_trans g14 ga)
              have O5 := hid_intro (own_keptD HO.out g34)
              have P5 := hid_intro (HPW.out.keptN g34)
              have OK5 := hid_intro (own_low (own_keptD ok ga) (Nat.zero_le _))
              have OV5 := hid_intro (own_low (own_keptD ov ga) (Nat.zero_le _))
              have hlt4 : ∀ g, (Value.slice so i sc).ownBlock = some g → g < w4.heap.size := fun g hgg => by
                have := (HO.out.lt g hgg).2
                have := (grown_trans (Q3.out.grown none) hg4).size
                omega
              have HLT := hid_intro hlt4
              have x0 : (w4.alloc (.cells #[.slice ao k.length c, .slice bo v.length d] 44)).cell? ⟨w4.heap.size, 0, none⟩ = some (.slice ao k.length c) := by rw [Lib.cell_of_heap hxb]; rfl
              have x1 : (w4.alloc (.cells #[.slice ao k.length c, .slice bo v.length d] 44)).cell? ⟨w4.heap.size, 1, none⟩ = some (.slice bo v.length d) := by rw [Lib.cell_of_heap hxb]; rfl
              have BK := hid_intro bk
              have BV := hid_intro bv
              have hs5 := G5.out.size
              obtain ⟨nk, hnk⟩ : ∃ nk, k.length = nk := ⟨_, rfl⟩
              obtain ⟨nv, hnv⟩ : ∃ nv, v.length = nv := ⟨_, rfl⟩
              have HNK := hid_intro hnk
              have HNV := hid_intro hnv
              rw [hnk, hnv] at x0 x1 O5 P5 OK5 OV5 HXB G5 hs5 ⊢
              clear hg4 hr HR3 HPP g14 ga g34 hxb ok ov hlt4 hnk hnv bk bv HC2 HO HPW HB
              go_upto_region 15 with fail
              generalize w4.alloc (.cells #[.slice ao nk c, .slice bo nv d] 44) = w5 at *
              generalize w4.heap.size = X at *
              have HXL : Hid (X < w5.heap.size) := (Array.getElem?_eq_some_iff.1 HXB.out).1
              have HAP : Hid (∀ W : World, W.heap = w5.heap → (W.alloc (.cells #[.slice ao nk c, .slice bo nv d] 44)).ownsRow w.heap.size 44 2 (.slice so i sc) i xs) := fun W hW => (own_same20 O5.out hW).alloc _
              have xa0 : ∀ o, (w5.alloc o).cell? ⟨X, 0, none⟩ = some (.slice ao nk c) := fun o => (alloc_cell20 HXB.out HXL.out o)
              go_upto_region 17 with fail
              go_region_law (refine step_append20 rfl (.tmp 58) (.tmp 60) 35 (by rfl) w.heap.size 44 ip (.agg #[.slice none 0 0, .slice none 0 0]) 2 48 Tryd.underlying35 hip hp0 hp1 hp2 rfl (by decide) (.slice so i sc) i xs (by rfl) (by exact HAP.out _ rfl) ⟨w5.heap.size, 0, none⟩ 1 1 [.slice ao nk c, .slice bo nv d] (by rfl) rfl (by exact cell_two20 _ _ _ _) (by intro u hu; simp at hu; rcases hu with rfl | rfl <;> rfl) (by unfold maxLen; omega) (by omega) (by simp; omega) ?_; intro v8 w8 ho8 hg8; obtain ⟨va, vc, hv8⟩ := own_shape20 ho8; subst hv8; have O8 := hid_intro ho8; have G8 := hid_intro (grown_undrew hg8); have T8 := box_cell20 HXB.out HXL.out G8.out HLT.out; clear ho8 hg8)
              all_goals
                go_wp2
                go_roundw
                case rel =>
                  have gb := World.grownBy_alloc w5 (.cells #[.slice ao nk c, .slice bo nv d] 44) none
                  have oa := own_keptD O5.out gb
                  have ok8 := (own_keptD OK5.out gb).kept G8.out (own_neD (own_keptD OK5.out gb) oa (by decide))
                  have ov8 := (own_keptD OV5.out gb).kept G8.out (own_neD (own_keptD OV5.out gb) oa (by decide))
                  have p8 := (P5.out.keptN gb).app oa G8.out
                  have ps := p8.snoc (p := (k, v)) (by rw [HNK.out]; exact ok8) (by rw [HNV.out]; exact ov8) ⟨BK.out, BV.out⟩
                  simp only [HNK.out, HNV.out] at ps
                  have gg := grown_app20 G5.out O5.out (Nat.le_refl _) G8.out
                  have hlen := HLL.out
                  exact ⟨i + 1, nk, c, ao, k, rx, l ++ [(k, v)], _, by omega, by go_num, rfl, rfl, byt_of_ownD ok8, BK.out, by rw [List.length_append]; simp; omega, by omega, O8.out, ps, gg, by have hh := HR4.out; rw [show n - (i + 1) = m by have := HM.out; omega]; exact hh⟩
                case measure => simp [intOf]; omega
        · obtain rfl : i = n := by omega
          have HR3 : Hid (R = (if Rl = [] then Except.ok l else .error ((i + 2), 200))) := by
            show _ = _
            rw [HR2.out, Nat.sub_self]
            simp only [pls]
            by_cases h0 : Rl = []
            · rw [if_pos h0, if_pos h0]; simp [Pa.pre]
            · rw [if_neg h0, if_neg h0]; rfl
          have hnl := str_nil Rl
          by_cases h0 : Rl = []
          · rw [decide_eq_true h0] at hnl
            rw [if_pos h0] at HR3
            clear h0 HR2
            generalize tstr Rl = s3 at *
            go_wp2
            go_ret3
            refine ⟨HG2.out, .inr ⟨l, so, sc, xs, HR3.out, ?_, ?_, HPW.out⟩⟩
            · rw [HLL.out]; rfl
            · rw [HLL.out]; exact HO.out
          · rw [decide_eq_false h0] at hnl
            rw [if_neg h0] at HR3
            clear h0 HR2
            generalize tstr Rl = s3 at *
            go_wp2
            go_ret3
            exact ⟨HG2.out, .inl ⟨i + 2, 200, HR3.out, by simp⟩⟩
end Go.Proofs.YtioleabkbkmggaaDoor
