import Derived.Test.YtlhjociijkhimaaGreatDoorBookO
import Derived.Test.YtlhjociijkhimaaGreatDoorMeF
namespace Go.Proofs.YtlhjociijkhimaaGreatDoor
open Go.RowKit

/-- What Encode leaves: nothing, or a new block of BodySize bytes. -/
def Eo (w : World) (base : Nat) (bo : Option Addr) (m : Nat) (zs : List Int) : Prop := (bo = none ∧ m = 0 ∧ zs = []) ∨ ∃ g, bo = some ⟨g, 0, none⟩ ∧ m = 4092 ∧ base ≤ g ∧ Rw w g zs ∧ zs.length = 4092
theorem Eo.keptN {w w' : World} {base : Nat} {bo : Option Addr} {m : Nat} {zs : List Int} (h : Eo w base bo m zs) (hg : w.grownBy w' none) : Eo w' base bo m zs := by
  rcases h with h | ⟨g, h1, h2, h3, h4, h5⟩
  · exact .inl h
  · exact .inr ⟨g, h1, h2, h3, h4.keptN hg, h5⟩
theorem encode_eo (v c r t k f n : Int) (w : World) (hk0 : Mk w) :
    Calls Tryz.prog 5 #[.agg #[.int .i64 v, .int .i64 c, .int .i64 r, .int .i64 t, .int .i64 k, .int .i64 f, .int .i64 n]] w fun en w' => ∃ bo m, en = .returned (.tuple #[.slice bo m m, .int .i64 (eM ⟨v, c, r, t, k, f, n⟩)]) ∧ Eo w' w.heap.size bo m (oM ⟨v, c, r, t, k, f, n⟩) ∧ w.grownBy w' none := by
  cases hm : may ⟨v, c, r, t, k, f, n⟩ with
  | true =>
    refine (encode_ok v c r t k f n w hm hk0).mono ?_
    rintro en w' ⟨g, rfl, h1, h2, h3⟩
    rw [(o_yes hm).1, (o_yes hm).2]
    exact ⟨_, 4092, rfl, .inr ⟨g, rfl, rfl, h2, h1, mB_len _⟩, h3⟩
  | false =>
    refine (encode_no v c r t k f n w hm).mono ?_
    rintro en w' ⟨rfl, h3⟩
    rw [(o_no hm).1, (o_no hm).2]
    exact ⟨none, 0, rfl, .inl ⟨rfl, rfl, rfl⟩, h3⟩

def sl7 (g n : Nat) : Sl := ⟨.slice (some ⟨g, 0, none⟩) n n, g, 0, n, n⟩
def sl7n (g : Nat) : Sl := ⟨.slice none 0 0, g, 0, 0, 0⟩
theorem keep7 {w : World} {B base : Nat} {L : List Sl} {ys : List Value} {vb vw : Value} (bo : Option Addr) (m lo X : Nat) (zs : List Int) (h : Kb w B base L ys vb vw) (ho : Eo w lo bo m zs) (hX : X < base ∧ X ≠ B) (hlo : base ≤ lo) (hfr : ∀ g, lo ≤ g → g < w.heap.size → bo = some ⟨g, 0, none⟩ → Free B vb vw g ∧ ∀ t ∈ L, 0 < t.c → t.g ≠ g) (hL : L.length ≤ 1000) :
    Calls Tryz.prog 6 #[.pointer (some ⟨B, 0, none⟩), .slice bo m m] w fun en w' => en = .returned (.tuple #[]) ∧ ∃ s ys' vb' vw', Kb w' B base (L ++ [s]) ys' vb' vw' ∧ Ke w w' B vb vw vb' vw' ∧ (0 < s.c → base ≤ s.g ∧ bo = some ⟨s.g, 0, none⟩) := by
  rcases ho with ⟨rfl, rfl, rfl⟩ | ⟨g, rfl, rfl, h3, h4, h5⟩
  · refine (kb_keep2 (sl7n X) none [] h ⟨Nat.le_refl _, by show 0 ≤ 1099511627776; omega, by show 0 ≤ 9223372036854775807; omega, _, rfl, fun h => absurd h (by show ¬ 0 < 0; omega)⟩ (fun j hj => absurd hj (by show ¬ j < 0; omega)) (by show 0 ≤ 1099511620000; omega) (by have := h.bB.2; show X < _; omega) (h.free hX.1 hX.2) rfl (fun t _ i j _ hj => absurd hj (by show ¬ j < 0; omega)) (Byt.empty w) hL).mono ?_
    rintro en w' ⟨h1, k, vb', vw', h2, h3, _⟩
    exact ⟨h1, _, _, _, _, h2, h3, fun h => absurd h (by show ¬ 0 < 0; omega)⟩
  · obtain ⟨hf, hap⟩ := hfr g h3 h4.lt rfl
    refine (kb_keep2 (sl7 g 4092) (some ⟨g, 0, none⟩) zs h ⟨Nat.le_refl _, by show 4092 ≤ 1099511627776; omega, by show 4092 ≤ 9223372036854775807; omega, _, rfl, fun _ => rfl⟩ (fun j hj => ?_) (by show 4092 ≤ 1099511620000; omega) h4.lt hf rfl (fun t ht i j hi _ e => ?_) (h4.all 4092 4092 h5.symm) hL).mono ?_
    · have hj' : j < 4092 := hj
      show (∃ u, w.cell? ⟨g, 0 + j, none⟩ = some u) ∧ w.frozen? ⟨g, 0 + j, none⟩ = false
      rw [Nat.zero_add]
      exact ⟨⟨_, h4.cell j (by omega)⟩, frozen_of_row w g j _ _ h4⟩
    · injection e with e1
      exact hap t ht (by omega) e1
    · rintro en w' ⟨h1, k, vb', vw', h2, h6, _⟩
      exact ⟨h1, _, _, _, _, h2, h6, fun _ => ⟨by show base ≤ g; omega, rfl⟩⟩
theorem Ke.hx {w w' : World} {B : Nat} {vb vw vb' vw' : Value} (e : Ke w w' B vb vw vb' vw') {T : Nat} {v c r t k f n : Int} (h : Hx w T v c r t k f n) (hf : Free B vb vw T) : Hx w' T v c r t k f n := (e.block T h.lt hf).1.trans h
theorem Ke.rw7 {w w' : World} {B : Nat} {vb vw vb' vw' : Value} (k : Ke w w' B vb vw vb' vw') {g : Nat} {zs : List Int} (h : Rw w g zs) (hf : Free B vb vw g) : Rw w' g zs := (k.block g h.lt hf).1.trans h

theorem Eo.at {w : World} {lo : Nat} {bo : Option Addr} {m : Nat} {zs : List Int} (h : Eo w lo bo m zs) (g : Nat) (hg : bo = some ⟨g, 0, none⟩) : lo ≤ g ∧ g < w.heap.size := by
  rcases h with ⟨h, _⟩ | ⟨g', h, _, h2, h3, _⟩
  · rw [h] at hg; cases hg
  · rw [h] at hg
    have : g' = g := by injection hg with e; injection e
    subst this
    exact ⟨h2, h3.lt⟩
theorem Eo.ke {w w' : World} {lo B : Nat} {vb vw vb' vw' : Value} {bo : Option Addr} {m : Nat} {zs : List Int} (h : Eo w lo bo m zs) (k : Ke w w' B vb vw vb' vw') (hf : ∀ g, bo = some ⟨g, 0, none⟩ → Free B vb vw g) : Eo w' lo bo m zs := by
  rcases h with h | ⟨g, h1, h2, h3, h4, h5⟩
  · exact .inl h
  · exact .inr ⟨g, h1, h2, h3, k.rw7 h4 (hf g h1), h5⟩
/-- What holds at each round's head. -/
structure Or7 (w : World) (B X Y base i : Nat) (wr : World) (L : List Sl) (ys : List Value) (vb vw : Value) (v c r t k f n v' c' r' t' k' f' n' : Int) : Prop where
  kb : Kb wr B base L ys vb vw
  len : L.length = 2 * i
  new : ∀ s ∈ L, 0 < s.c → base ≤ s.g
  x : Hx wr X v c r t k f n
  y : Hx wr Y v' c' r' t' k' f' n'
  gr : w.grownBy wr none

set_option maxHeartbeats 4000000 in
set_option maxRecDepth 100000 in
theorem metaOwn_walk (v c r t k f n v' c' r' t' k' f' n' : Int) (w : World) (hk : Mk w) :
    Calls Tryz.prog 3 #[.agg #[.int .i64 v, .int .i64 c, .int .i64 r, .int .i64 t, .int .i64 k, .int .i64 f, .int .i64 n], .agg #[.int .i64 v', .int .i64 c', .int .i64 r', .int .i64 t', .int .i64 k', .int .i64 f', .int .i64 n']] w fun en w' => en = .returned (.bool true) ∧ w.grownBy w' none := by
  have HK := hid_intro hk
  clear hk
  go_enter Tryz.func3, Tryz.ntmps3
  go_upto_region 1 with fail
  have X1 := hid_intro ((Hx.new w v c r t k f n).keptN (World.grownBy_alloc _ (.cells #[.int .i64 v', .int .i64 c', .int .i64 r', .int .i64 t', .int .i64 k', .int .i64 f', .int .i64 n'] 23) none))
  have Y1 := hid_intro (Hx.new2 w (.cells #[.int .i64 v, .int .i64 c, .int .i64 r, .int .i64 t, .int .i64 k, .int .i64 f, .int .i64 n] 23) v' c' r' t' k' f' n')
  have G1 := hid_intro (grown_two w (.cells #[.int .i64 v, .int .i64 c, .int .i64 r, .int .i64 t, .int .i64 k, .int .i64 f, .int .i64 n] 23) (.cells #[.int .i64 v', .int .i64 c', .int .i64 r', .int .i64 t', .int .i64 k', .int .i64 f', .int .i64 n'] 23))
  generalize (w.alloc (.cells #[.int .i64 v, .int .i64 c, .int .i64 r, .int .i64 t, .int .i64 k, .int .i64 f, .int .i64 n] 23)).alloc (.cells #[.int .i64 v', .int .i64 c', .int .i64 r', .int .i64 t', .int .i64 k', .int .i64 f', .int .i64 n'] 23) = w1 at *
  go_wp2_with fail
  refine (first7_any _ (HK.out.keptN G1.out)).mono ?_
  rintro en w2 ⟨rfl, hg2⟩
  have X2 := hid_intro (X1.out.keptN hg2)
  have Y2 := hid_intro (Y1.out.keptN hg2)
  have G2 := hid_intro (grown_trans G1.out hg2)
  clear hg2 X1 Y1 G1
  go_wp2_with (refine wpList_build_book rfl rfl ?_)
  have hsX := X2.out.lt
  have hsY := Y2.out.lt
  have gg := World.grownBy_alloc w2 (.cells bookZ 40 (0, 0)) none
  have BX := hid_intro (box_new w2)
  have X3 := hid_intro (X2.out.keptN gg)
  have Y3 := hid_intro (Y2.out.keptN gg)
  have G3 := hid_intro (grown_trans G2.out gg)
  have S3 : Hid ((w2.alloc (.cells bookZ 40 (0, 0))).heap.size = w2.heap.size + 1) := by show _ = _; simp
  clear gg X2 Y2
  have hB0 : w.heap.size + 2 ≤ w2.heap.size := by have := Y3.out.lt; have := S3.out; omega
  generalize w2.alloc (.cells bookZ 40 (0, 0)) = w3 at *
  generalize w2.heap.size = B at *
  obtain ⟨base, hbase⟩ : ∃ base, base = w3.heap.size := ⟨_, rfl⟩
  have hBb : B + 1 = base := by rw [hbase]; exact S3.out.symm
  obtain ⟨X, hX⟩ : ∃ X, X = w.heap.size := ⟨_, rfl⟩
  obtain ⟨Y, hY⟩ : ∃ Y, Y = w.heap.size + 1 := ⟨_, rfl⟩
  have HN : Hid (X < B ∧ Y < B ∧ w.heap.size ≤ X ∧ w.heap.size ≤ B) := ⟨by omega, by omega, by omega, by omega⟩
  have HO : Hid (Or7 w B w.heap.size (w.heap.size + 1) base 0 w3 [] [] (.slice none 0 0) (.slice none 0 0) v c r t k f n v' c' r' t' k' f' n') :=
    ⟨⟨BX.out, ⟨rfl, _root_.Or.inl ⟨rfl, rfl⟩⟩, ⟨rfl, _root_.Or.inl ⟨rfl, rfl⟩⟩, ⟨by omega, by omega⟩, (fun i e => by cases e), (fun s hs => by simp at hs), List.Pairwise.nil, (fun k s y hk => by simp at hk)⟩, rfl, (fun s hs => by simp at hs), X3.out, Y3.out, G3.out⟩
  rw [← hY, ← hX] at HO ⊢
  clear hX hY hbase BX X3 Y3 G3 S3 G2 hsX hsY hB0
  go_wp2
  go_loopw [7] (fun si wr => ∃ i : Nat, i ≤ 3 ∧ si = .int .i64 i ∧ ∃ L ys vb vw, Or7 w B X Y base i wr L ys vb vw v c r t k f n v' c' r' t' k' f' n') (fun si _ => 3 - (intOf si).toNat)
  case atStart => exact ⟨0, by omega, rfl, _, _, _, _, HO.out⟩
  case round =>
    obtain ⟨i, hi3, rfl, L, ys, vb, vw, hO⟩ := hrel
    have OO := hid_intro hO
    have hLl := hO.len
    clear hO HO
    have p0 : (0 : Int) ≤ (i : Int) := by omega
    by_cases h1 : i < 3
    · have p1 : (i : Int) < 3 := by omega
      obtain ⟨c0, c1, c2, c3, c4, c5, c6⟩ := OO.out.x.cells
      obtain ⟨d0, d1, d2, d3, d4, d5, d6⟩ := OO.out.y.cells
      go_wp2_with fail
      refine (encode_eo v c r t k f n _ (HK.out.keptN OO.out.gr)).mono ?_
      rintro en w4 ⟨bo, m, rfl, he4, hg4⟩
      have E4 := hid_intro he4
      have K4 := hid_intro (OO.out.kb.kept hg4 (by simp))
      have X4 := hid_intro (OO.out.x.keptN hg4)
      have Y4 := hid_intro (OO.out.y.keptN hg4)
      have G4 := hid_intro (grown_trans OO.out.gr hg4)
      have NW := hid_intro OO.out.new
      have HLT : Hid (∀ s ∈ L, s.g < wr.heap.size) := fun s hs => (OO.out.kb.ok s hs).2.2.2.1
      have HFR : Hid (∀ j, wr.heap.size ≤ j → Free B vb vw j) := fun j hj => OO.out.kb.freeN hj
      have hwb := OO.out.kb.bB.2
      have hs4 := hg4.size
      clear he4 hg4 OO c0 c1 c2 c3 c4 c5 c6 d0 d1 d2 d3 d4 d5 d6
      generalize wr.heap.size = sr at *
      obtain ⟨d0, d1, d2, d3, d4, d5, d6⟩ := Y4.out.cells
      go_wp2_with fail
      refine (encode_eo v' c' r' t' k' f' n' _ (HK.out.keptN G4.out)).mono ?_
      rintro en w5 ⟨bo', m', rfl, he5, hg5⟩
      have F5 := hid_intro he5
      have E5 := hid_intro (E4.out.keptN hg5)
      have E4L : Hid (∀ g, bo = some ⟨g, 0, none⟩ → sr ≤ g ∧ g < w4.heap.size) := by
        intro g hg
        rcases E4.out with ⟨h, _⟩ | ⟨g', h, _, h2, h3, _⟩
        · rw [h] at hg; cases hg
        · rw [h] at hg
          have : g' = g := by injection hg with e; injection e
          subst this
          exact ⟨h2, h3.lt⟩
      have K5 := hid_intro (K4.out.kept hg5 (by simp))
      have X5 := hid_intro (X4.out.keptN hg5)
      have Y5 := hid_intro (Y4.out.keptN hg5)
      have G5 := hid_intro (grown_trans G4.out hg5)
      have hs5 := hg5.size
      clear he5 hg5 E4 K4 X4 Y4 G4 d0 d1 d2 d3 d4 d5 d6
      generalize w4.heap.size = s4 at *
      have HXB : Hid (X < base ∧ X ≠ B) := by have := HN.out; exact ⟨by omega, by omega⟩
      have HYB : Hid (Y < base ∧ Y ≠ B) := by have := HN.out; exact ⟨by omega, by omega⟩
      go_wp2_with fail
      refine (keep7 bo m sr X _ K5.out E5.out HXB.out (by omega) (fun g h1 h2 h3 => ⟨HFR.out g h1, fun s hs _ e => by have := HLT.out s hs; omega⟩) (by omega)).mono ?_
      rintro en w6 ⟨rfl, s1, ys1, vb1, vw1, hk6, he6, hn6⟩
      have K6 := hid_intro hk6
      have N6 := hid_intro hn6
      have FR6 : Hid (∀ j, sr ≤ j → j < w5.heap.size → Free B vb1 vw1 j) := fun j h1 h2 => (he6.block j h2 (HFR.out j h1)).2
      have E6 := hid_intro (E5.out.ke he6 (fun g hg => HFR.out g (E4L.out g hg).1))
      have F6 := hid_intro (F5.out.ke he6 (fun g hg => HFR.out g (by have := (F5.out.at g hg).1; omega)))
      have F5L := hid_intro F5.out.at
      have X6 := hid_intro (he6.hx X5.out (K5.out.free HXB.out.1 HXB.out.2))
      have Y6 := hid_intro (he6.hx Y5.out (K5.out.free HYB.out.1 HYB.out.2))
      have G6 := hid_intro (he6.grown K5.out G5.out HN.out.2.2.2)
      have E6L : Hid (∀ g, bo = some ⟨g, 0, none⟩ → Free B vb1 vw1 g) := fun g hg => FR6.out g (E4L.out g hg).1 (by have := (E4L.out g hg).2; omega)
      clear hk6 hn6 he6 E5 F5 K5 X5 Y5 G5
      go_wp2_with fail
      refine (keep7 bo' m' s4 X _ K6.out F6.out HXB.out (by omega) (fun g h1 h2 h3 => ⟨FR6.out g (by omega) (F5L.out g h3).2, fun s hs hc e => ?_⟩) (by rw [List.length_append]; simp; omega)).mono ?_
      · rcases List.mem_append.1 hs with h | h
        · have := HLT.out s h; omega
        · obtain rfl : s = s1 := by simpa using h
          have := (E4L.out s.g (N6.out hc).2).2
          omega
      rintro en w7 ⟨rfl, s2, ys2, vb2, vw2, hk7, he7, hn7⟩
      have K7 := hid_intro hk7
      have N7 : Hid (∀ s ∈ L ++ [s1] ++ [s2], 0 < s.c → base ≤ s.g) := by
        intro s hs hc
        rcases List.mem_append.1 hs with h | h
        · rcases List.mem_append.1 h with h | h
          · exact NW.out s h hc
          · obtain rfl : s = s1 := by simpa using h
            exact (N6.out hc).1
        · obtain rfl : s = s2 := by simpa using h
          exact (hn7 hc).1
      have E7 := hid_intro (E6.out.ke he7 E6L.out)
      have X7 := hid_intro (he7.hx X6.out (K6.out.free HXB.out.1 HXB.out.2))
      have Y7 := hid_intro (he7.hx Y6.out (K6.out.free HYB.out.1 HYB.out.2))
      have G7 := hid_intro (he7.grown K6.out G6.out HN.out.2.2.2)
      have L7 : Hid ((L ++ [s1] ++ [s2]).length = 2 * (i + 1)) := by show _ = _; simp; omega
      clear hk7 hn7 he7 E6 F6 K6 X6 Y6 G6 E6L F5L FR6 N6 E4L NW HLT HFR hwb hs4 hs5
      generalize L ++ [s1] ++ [s2] = L2 at *
      go_wp2_with fail
      refine (num7_any _ _).mono ?_
      rintro en w7 ⟨rfl, rfl⟩
      cases hm : may ⟨v, c, r, t, k, f, n⟩ with
      | false =>
        rw [(o_no hm).2]
        clear hm E7
        go_wp2
        go_roundw
        case rel => exact ⟨i + 1, by omega, by go_num, L2, ys2, vb2, vw2, ⟨K7.out, L7.out, N7.out, X7.out, Y7.out, G7.out⟩⟩
        case measure => simp [intOf]; omega
      | true =>
        have hE := E7.out
        rw [(o_yes hm).1] at hE
        rw [(o_yes hm).2]
        obtain ⟨g1, rfl, rfl, hR7⟩ : ∃ g, bo = some ⟨g, 0, none⟩ ∧ m = 4092 ∧ Rw w7 g (mB ⟨v, c, r, t, k, f, n⟩) := by
          rcases hE with ⟨_, _, h⟩ | ⟨g, h1, h2, _, h4, _⟩
          · have := mB_len ⟨v, c, r, t, k, f, n⟩
            rw [h] at this
            cases this
          · exact ⟨g, h1, h2, h4⟩
        have HM := hid_intro hm
        have R7 := hid_intro hR7
        clear hm hE hR7 E7
        go_wp2_with fail
        refine (decode_any _ 4092 4092 _ _ (R7.out.all 4092 4092 (mB_len _).symm) (mB_bt _) (HK.out.keptN G7.out)).mono ?_
        rw [(a_yes (dM_mB HM.out)).1, (a_yes (dM_mB HM.out)).2, rH_mB HM.out]
        rintro en w8 ⟨rfl, hg8⟩
        have K8 := hid_intro (K7.out.kept hg8 (by simp))
        have X8 := hid_intro (X7.out.keptN hg8)
        have Y8 := hid_intro (Y7.out.keptN hg8)
        have G8 := hid_intro (grown_trans G7.out hg8)
        clear hg8 K7 X7 Y7 G7 R7
        go_upto_region 12 with fail
        have Z9 := hid_intro (Hx.new w8 v c r t k f n)
        have gg := World.grownBy_alloc w8 (.cells #[.int .i64 v, .int .i64 c, .int .i64 r, .int .i64 t, .int .i64 k, .int .i64 f, .int .i64 n] 23) none
        have K9 := hid_intro (K8.out.kept gg (by simp))
        have X9 := hid_intro (X8.out.keptN gg)
        have Y9 := hid_intro (Y8.out.keptN gg)
        have G9 := hid_intro (grown_trans G8.out gg)
        clear gg K8 X8 Y8 G8
        generalize w8.alloc (.cells #[.int .i64 v, .int .i64 c, .int .i64 r, .int .i64 t, .int .i64 k, .int .i64 f, .int .i64 n] 23) = w9 at *
        generalize w8.heap.size = T9 at *
        obtain ⟨c0, c1, c2, c3, c4, c5, c6⟩ := X9.out.cells
        obtain ⟨d0, d1, d2, d3, d4, d5, d6⟩ := Z9.out.cells
        go_wp2_with fail
        refine (sameHead_yes v c r t k f n _).mono ?_
        rintro en w10 ⟨rfl, hg10⟩
        have K10 := hid_intro (K9.out.kept hg10 (by simp))
        have X10 := hid_intro (X9.out.keptN hg10)
        have Y10 := hid_intro (Y9.out.keptN hg10)
        have G10 := hid_intro (grown_trans G9.out hg10)
        clear hg10 K9 X9 Y9 G9 Z9 c0 c1 c2 c3 c4 c5 c6 d0 d1 d2 d3 d4 d5 d6
        go_wp2_with fail
        refine (num7_any _ _).mono ?_
        rintro en w10 ⟨rfl, rfl⟩
        go_wp2
        go_roundw
        case rel => exact ⟨i + 1, by omega, by go_num, L2, ys2, vb2, vw2, ⟨K10.out, L7.out, N7.out, X10.out, Y10.out, G10.out⟩⟩
        case measure => simp [intOf]; omega
    · have FIN : Hid (Calls Tryz.prog 10 #[.pointer (some ⟨B, 0, none⟩)] wr fun en w' => en = .returned (.bool true) ∧ w.grownBy w' none) := by
        refine kb_finish OO.out.kb (by omega) (_root_.Or.inr (by have := HN.out; omega)) (fun v => w.grownBy v none) OO.out.gr (fun v w' row h1 h2 h3 => ?_) (fun v s j u h1 h2 h3 => ?_)
        · cases row with
          | none => exact grown_trans h1 h2
          | some j =>
            refine grown_new h1 h2 ?_
            have := OO.out.gr.size
            have := HN.out
            rcases h3 j rfl with h4 | h4 <;> omega
        · exact grown_new h3 (grown_set v s.g _ _) (by have := OO.out.new s h1 (by omega); have := HN.out; omega)
      have h3 : ¬ (i : Int) < 3 := by omega
      go_wp2_with fail
      refine FIN.out.mono ?_
      rintro en w4 ⟨rfl, hg4⟩
      have G4 := hid_intro hg4
      clear hg4 FIN OO
      go_wp2_with fail
      refine (first7_any _ (HK.out.keptN G4.out)).mono ?_
      rintro en w5 ⟨rfl, hg5⟩
      have G5 := hid_intro (grown_trans G4.out hg5)
      clear hg5 G4
      go_wp2
      go_ret
      exact ⟨rfl, G5.out⟩
end Go.Proofs.YtlhjociijkhimaaGreatDoor
