import Derived.Test.YtgipnfbojnllnaaGreatDoorCrcOwnsW
import Derived.Test.YtgipnfbojnllnaaGreatDoorToolsP
namespace Go.Proofs.YtgipnfbojnllnaaGreatDoor
open Go.RowKit

theorem Rd.setByteO {w : World} {R G : Nat} {zs : List Int} {p : Nat} {e : Int} (h : Rd w R G zs p e) (i : Nat) (v : Value) (hi : i < p) : Rd (w.setCell ⟨G, i, none⟩ v) R G zs p e := by
  obtain ⟨cur, hc, hs, hr⟩ := h.row
  refine ⟨h.ne, h.le, h.max, ?_, cur.setIfInBounds i v, ?_, by simp [hs], fun j a b => ?_⟩
  · rw [heap_setCell_other w ⟨G, i, none⟩ R _ (by have := h.ne; simp; omega)]; exact h.box
  · rw [heap_setCell_same w G i _ _ _ hc]
  · rw [Array.getElem?_setIfInBounds_ne (by omega)]; exact hr j a b
theorem Rd.there {w : World} {R G : Nat} {zs : List Int} {p : Nat} {e : Int} (h : Rd w R G zs p e) (i : Nat) (hi : i < zs.length) : (∃ u, w.cell? ⟨G, i, none⟩ = some u) ∧ w.frozen? ⟨G, i, none⟩ = false := by
  obtain ⟨cur, hc, hs, _⟩ := h.row
  exact ⟨⟨cur[i]'(by omega), by rw [cell_of_row w G i _ _ _ hc]; simp⟩, frozen_of_row w G i _ _ hc⟩
theorem Rd.ke {w w' : World} {B : Nat} {vb vw vb' vw' : Value} (k : Ke w w' B vb vw vb' vw') {R G : Nat} {zs : List Int} {p : Nat} {e : Int} (h : Rd w R G zs p e) (h1 : Free B vb vw R) (h2 : Free B vb vw G) : Rd w' R G zs p e := by
  obtain ⟨cur, hc, hr⟩ := h.row
  have hl := h.lt
  exact ⟨h.ne, h.le, h.max, (k.block R hl.1 h1).1.trans h.box, cur, (k.block G hl.2 h2).1.trans hc, hr⟩

/-- A part of a slice that came in. -/
theorem Byt.part {w : World} {b off n cap : Nat} {zs : List Int} (h : Byt w (some ⟨b, off, none⟩) n cap zs) (q m c : Nat) (hq : q + m ≤ n) : Byt w (some ⟨b, off + q, none⟩) m c ((zs.drop q).take m) := by
  have hl := h.len
  refine Byt.of_cells (by simp; omega) fun i hi => ?_
  obtain ⟨b', o', e, _, hc⟩ := h.at (by omega)
  simp at e
  obtain ⟨rfl, rfl⟩ := e
  rw [Nat.add_assoc, hc (q + i) (by omega)]
  simp [List.getD, hi]
theorem Byt.none0 (w : World) (ao : Option Addr) (c : Nat) (h : ao = none → c = 0) : Byt w ao 0 c [] :=
  ⟨rfl, fun e => ⟨rfl, h e⟩, fun ad _ j u hu => by simp at hu⟩

/-- What holds at each round's head. -/
structure Wo (w : World) (B base R G E : Nat) (zs : List Int) (p i : Nat) (wr : World) (L : List Sl) (ys : List Value) (vb vw : Value) : Prop where
  kb : Kb wr B base L ys vb vw
  len : L.length = 4 * i
  pos : ∀ t ∈ L, base ≤ t.g ∨ (t.g = G ∧ t.o + t.c ≤ p)
  rd : Rd wr R G zs p 0
  row : Rw wr E zs
  gr : w.grownBy wr none

set_option maxHeartbeats 4000000 in
set_option maxRecDepth 100000 in
theorem wireOwn_calls (ao : Option Addr) (n cap : Nat) (zs : List Int) (x : Nat) (w : World) (hb : Byt w ao n cap zs) (hc : n ≤ cap) (hcm : cap ≤ 9223372036854775807) (hx : x < 18446744073709551616) :
    Calls Tryz.prog 3 #[.slice ao n cap, .int .u64 x] w fun e w' => e = .returned (.bool true) ∧ w.grownBy w' none := by
  have HB := hid_intro hb
  have HL := hid_intro hb.len
  clear hb
  go_enter Tryz.func3, Tryz.ntmps3
  go_wp2_with fail
  refine (first_any w).mono ?_
  rintro e w1 ⟨rfl, hg1⟩
  have G1 := hid_intro hg1
  clear hg1
  by_cases hn : n ≤ 2000
  case neg =>
    have hn1 : (2000 : Int) < (n : Int) := by omega
    go_wp2
    go_ret
    exact ⟨rfl, G1.out⟩
  have hn1 : ¬ (2000 : Int) < (n : Int) := by omega
  go_wp2_with (refine wpList_build_book rfl rfl ?_)
  obtain ⟨w2, hw2⟩ : ∃ w2, w2 = w1.alloc (.cells bookZ 40 (0, 0)) := ⟨_, rfl⟩
  rw [← hw2]
  obtain ⟨B, hB⟩ : ∃ B, B = w1.heap.size := ⟨_, rfl⟩
  rw [← hB]
  have X2 : Hid (Box w2 B 0 0 (.slice none 0 0) (.slice none 0 0) (.slice none 0 0)) := by rw [hw2, hB]; exact box_new w1
  have G2 : Hid (w.grownBy w2 none) := by rw [hw2]; exact grown_trans G1.out (World.grownBy_alloc w1 _ none)
  have hs2 : B < w2.heap.size := by rw [hw2, hB]; simp
  have hwB : w.heap.size ≤ B := by rw [hB]; exact G1.out.size
  clear hw2 hB G1
  refine (refBytes_any ao n cap zs w2 (HB.out.keptN G2.out) (by omega)).mono ?_
  rintro e w3 ⟨rfl, hown3, hg3, hs3⟩
  obtain ⟨E, hE⟩ : ∃ E, E = w2.heap.size := ⟨_, rfl⟩
  rw [← hE] at hown3 hs3
  rw [← hE]
  have E3 := hid_intro (Rw.of_owns hown3)
  have X3 := hid_intro (X2.out.kept hg3 (by simp))
  have G3 := hid_intro (grown_trans G2.out hg3)
  have hBE : B < E := by omega
  clear hown3 hg3 hE X2 G2
  go_wp2_with fail
  refine (newReader_any _ n n zs w3 (E3.out.all n n HL.out.symm) (by omega)).mono ?_
  rintro e w4 ⟨R, rfl, hr4, hg4, hR⟩
  obtain ⟨G, hG⟩ : ∃ G, G = w3.heap.size := ⟨_, rfl⟩
  rw [← hG] at hr4 hR
  have hEG : E < G := by omega
  have hlt4 := hr4.lt
  obtain ⟨base, hbase⟩ : ∃ base, base = w4.heap.size := ⟨_, rfl⟩
  have HO : Hid (Wo w B base R G E zs 0 0 w4 [] [] (.slice none 0 0) (.slice none 0 0)) :=
    ⟨⟨X3.out.kept hg4 (by simp), ⟨rfl, Or.inl ⟨rfl, rfl⟩⟩, ⟨rfl, Or.inl ⟨rfl, rfl⟩⟩, ⟨by omega, by omega⟩, (fun i e => by cases e), (fun s hs => by simp at hs), List.Pairwise.nil, (fun k s y hk => by simp at hk)⟩, rfl, (fun s hs => by simp at hs), hr4, E3.out.keptN hg4, grown_trans G3.out hg4⟩
  have hRb : R < base := by omega
  have hGb : G < base := by omega
  have hm0 : ∃ m : Nat, m = n / 6 := ⟨_, rfl⟩
  obtain ⟨m, hm⟩ := hm0
  have hm6 : 6 * m ≤ n := by omega
  have hmI : (n : Int) / 6 = (m : Int) := by omega
  clear hr4 hg4 hG hlt4 hbase X3 E3 G3 hs3 hs2 hm
  go_wp2
  go_loopw [9] (fun si wr => ∃ i q : Nat, i ≤ 6 ∧ q = i * m ∧ si = .int .i64 i ∧ ∃ L ys vb vw, Wo w B base R G E zs q i wr L ys vb vw) (fun si _ => 6 - (intOf si).toNat)
  case atStart => exact ⟨0, 0, by omega, by omega, rfl, _, _, _, _, HO.out⟩
  case round =>
    obtain ⟨i, q, hi6, hq, rfl, L, ys, vb, vw, hO⟩ := hrel
    have OO := hid_intro hO
    have hLl := hO.len
    clear hO HO
    have p0 : (0 : Int) ≤ (i : Int) := by omega
    by_cases hlt : i < 6
    · have hqm : q + m ≤ n := by
        have h5 : i * m ≤ 5 * m := Nat.mul_le_mul_right m (by omega)
        omega
      have hqI : (i : Int) * (m : Int) = (q : Int) := by rw [hq]; simp
      have HQ : Hid (q + m = (i + 1) * m) := by show q + m = (i + 1) * m; rw [hq, Nat.add_mul, Nat.one_mul]
      have hwr := OO.out.kb.bB.2
      obtain ⟨D, hD⟩ : ∃ D, D = wr.heap.size := ⟨_, rfl⟩
      have HLT : Hid (∀ t ∈ L, t.g < D ∧ t.g ≠ B) := fun t ht => ⟨by rw [hD]; exact (OO.out.kb.ok t ht).2.2.2.1, (OO.out.kb.ok t ht).2.2.2.2.1⟩
      rw [← hD] at hwr
      have HPS := hid_intro OO.out.pos
      have HFR : Hid (∀ j, D ≤ j → Free B vb vw j) := fun j hj => OO.out.kb.freeN (by omega)
      have hf1 := form_le (i : Int) x
      have hf2 := form_le ((i : Int) + 1) x
      obtain ⟨f1, hff1⟩ : ∃ f1, f1 = form (wd (i : Int)) x := ⟨_, rfl⟩
      obtain ⟨f2, hff2⟩ : ∃ f2, f2 = form (wd ((i : Int) + 1)) x := ⟨_, rfl⟩
      rw [← hff1] at hf1
      rw [← hff2] at hf2
      have FF1 := hid_intro hff1
      have FF2 := hid_intro hff2
      have K0 := hid_intro OO.out.kb
      have D0 := hid_intro OO.out.rd
      have E0 := hid_intro OO.out.row
      have W0 := hid_intro OO.out.gr
      clear hq OO hff1 hff2
      go_wp2_with fail
      refine (wide_any _ _).mono ?_
      rintro e wa ⟨rfl, rfl⟩
      go_wp2_with fail
      refine (put_any _ n n zs x (i : Int) wa (E0.out.all n n HL.out.symm) (by omega) hx).mono ?_
      rintro e w5 ⟨m1, hm1, rfl, hown5, hg5, hs5⟩
      rw [← hD] at hown5 hs5
      rw [← hD]
      rw [← FF1.out] at hown5 hm1
      have A5 := hid_intro (Rw.of_owns hown5)
      have la : (zs ++ f1).length = m1 := by rw [List.length_append, HL.out, hm1]
      have K5 := hid_intro (K0.out.kept hg5 (by simp))
      have D5 := hid_intro (D0.out.kept hg5 (by simp) (by simp))
      have E5 := hid_intro (E0.out.keptN hg5)
      have W5 := hid_intro (grown_trans W0.out hg5)
      have bm1 : n ≤ m1 ∧ m1 ≤ 2010 := by omega
      have HM1 := hid_intro hm1
      have LA := hid_intro la
      clear hown5 hg5 K0 D0 E0 W0 hD hm1 la
      go_wp2_with fail
      refine (wide_any _ _).mono ?_
      rintro e wa ⟨rfl, rfl⟩
      go_wp2_with fail
      refine (put_any _ m1 m1 (zs ++ f1) x ((i : Int) + 1) wa (A5.out.all m1 m1 LA.out.symm) (by omega) hx).mono ?_
      rintro e w6 ⟨m2, hm2, rfl, hown6, hg6, hs6⟩
      obtain ⟨A2, hA2⟩ : ∃ A2, A2 = wa.heap.size := ⟨_, rfl⟩
      rw [← hA2] at hown6 hs6
      rw [← hA2]
      rw [← FF2.out] at hown6 hm2
      have C6 := hid_intro (Rw.of_owns hown6)
      have lb : (zs ++ f1 ++ f2).length = m2 := by rw [List.length_append, LA.out, hm2]
      have A6 := hid_intro (A5.out.keptN hg6)
      have K6 := hid_intro (K5.out.kept hg6 (by simp))
      have D6 := hid_intro (D5.out.kept hg6 (by simp) (by simp))
      have E6 := hid_intro (E5.out.keptN hg6)
      have W6 := hid_intro (grown_trans W5.out hg6)
      have hDA : D < A2 := by omega
      have bm2 : m1 ≤ m2 ∧ m2 ≤ 2020 := by omega
      have LB := hid_intro lb
      clear hown6 hg6 K5 D5 E5 W5 A5 hA2 hs5 hm2 lb
      go_wp2_with fail
      refine (wide_any _ _).mono ?_
      rintro e wa2 ⟨rfl, rfl⟩
      go_wp2_with fail
      refine (put_any _ n n zs x (i : Int) wa2 (E6.out.all n n HL.out.symm) (by omega) hx).mono ?_
      rintro e w7 ⟨m3, hm3, rfl, hown7, hg7, hs7⟩
      obtain ⟨A3, hA3⟩ : ∃ A3, A3 = wa2.heap.size := ⟨_, rfl⟩
      rw [← hA3] at hown7 hs7
      rw [← hA3]
      rw [← FF1.out] at hown7 hm3
      have hm31 : m3 = m1 := by rw [hm3, HM1.out]
      rw [hm31] at hown7
      rw [hm31]
      have T7 := hid_intro (Rw.of_owns hown7)
      have A7 := hid_intro (A6.out.keptN hg7)
      have C7 := hid_intro (C6.out.keptN hg7)
      have K7 := hid_intro (K6.out.kept hg7 (by simp))
      have D7 := hid_intro (D6.out.kept hg7 (by simp) (by simp))
      have E7 := hid_intro (E6.out.keptN hg7)
      have W7 := hid_intro (grown_trans W6.out hg7)
      have hA23 : A2 < A3 := by omega
      clear hown7 hg7 K6 D6 E6 W6 A6 C6 hA3 hm3 hm31 hs6
      have nlt : ¬ (m2 : Int) < (m1 : Int) := by omega
      have mle : (m1 : Int) ≤ (m2 : Int) := by omega
      go_wp2_with fail
      refine (same_yes _ _ m1 m1 m1 m1 (zs ++ f1) (zs ++ f1) w7 (A7.out.all m1 m1 LA.out.symm) (T7.out.all m1 m1 LA.out.symm) rfl).mono ?_
      rintro e w7b ⟨rfl, rfl⟩
      go_wp2_with fail
      refine (same_yes _ _ m1 m1 m2 m1 (zs ++ f1) (zs ++ f1) w7b (by have h5 := C7.out.byt 0 m1 m2 (by rw [LB.out]; omega); rwa [List.drop_zero, List.take_left' LA.out] at h5) (A7.out.all m1 m1 LA.out.symm) rfl).mono ?_
      rintro e w7c ⟨rfl, rfl⟩
      go_wp2_with fail
      refine (keep_rw D m1 (zs ++ f1) K7.out A7.out LA.out (by omega) (HFR.out D (by omega)) (fun t ht => by have := (HLT.out t ht).1; omega) (by omega)).mono ?_
      rintro e w8 ⟨rfl, ys1, vb1, vw1, hK8, hE8⟩
      have N1 : Hid (∀ j, D ≤ j → j < w7c.heap.size → Free B vb1 vw1 j) := fun j h1 h2 => (hE8.block j h2 (HFR.out j h1)).2
      have K8 := hid_intro hK8
      have C8 := hid_intro (hE8.rw C7.out (HFR.out A2 (by omega)))
      have T8 := hid_intro (hE8.rw T7.out (HFR.out A3 (by omega)))
      have D8 := hid_intro (Rd.ke hE8 D7.out (K7.out.free hRb (by omega)) (K7.out.free hGb (by omega)))
      have E8 := hid_intro (hE8.rw E7.out (K7.out.free (by omega) (by omega)))
      have W8 := hid_intro (hE8.grown K7.out W7.out hwB)
      have z1 := hE8.size
      have y1 := T7.out.lt
      clear hK8 hE8 K7 A7 C7 T7 D7 E7 W7
      go_wp2_with fail
      refine (keep_rw A2 m2 (zs ++ f1 ++ f2) K8.out C8.out LB.out (by omega) (N1.out A2 (by omega) (by omega)) (fun t ht => by
        rcases List.mem_append.1 ht with h | h
        · have := (HLT.out t h).1; omega
        · obtain rfl := List.mem_singleton.1 h; show D ≠ A2; omega) (by rw [List.length_append]; simp; omega)).mono ?_
      rintro e w9 ⟨rfl, ys2, vb2, vw2, hK9, hE9⟩
      have K9 := hid_intro hK9
      have T9 := hid_intro (hE9.rw T8.out (N1.out A3 (by omega) (by omega)))
      have N2 := hid_intro (hE9.block A3 (by omega) (N1.out A3 (by omega) (by omega))).2
      have D9 := hid_intro (Rd.ke hE9 D8.out (K8.out.free hRb (by omega)) (K8.out.free hGb (by omega)))
      have E9 := hid_intro (hE9.rw E8.out (K8.out.free (by omega) (by omega)))
      have W9 := hid_intro (hE9.grown K8.out W8.out hwB)
      clear hK9 hE9 K8 C8 T8 D8 E8 W8 N1
      go_wp2_with fail
      refine (keep_rw A3 m1 (zs ++ f1) K9.out T9.out LA.out (by omega) N2.out (fun t ht => by
        rcases List.mem_append.1 ht with h | h
        · rcases List.mem_append.1 h with h | h
          · have := (HLT.out t h).1; omega
          · obtain rfl := List.mem_singleton.1 h; show D ≠ A3; omega
        · obtain rfl := List.mem_singleton.1 h; show A2 ≠ A3; omega) (by rw [List.length_append, List.length_append]; simp; omega)).mono ?_
      rintro e w10 ⟨rfl, ys3, vb3, vw3, hK10, hE10⟩
      have K10 := hid_intro hK10
      have D10 := hid_intro (Rd.ke hE10 D9.out (K9.out.free hRb (by omega)) (K9.out.free hGb (by omega)))
      have E10 := hid_intro (hE10.rw E9.out (K9.out.free (by omega) (by omega)))
      have W10 := hid_intro (hE10.grown K9.out W9.out hwB)
      have HP10 : Hid (∀ t ∈ L ++ [sl D m1] ++ [sl A2 m2] ++ [sl A3 m1], base ≤ t.g ∨ (t.g = G ∧ t.o + t.c ≤ q)) := fun t ht => by
        rcases List.mem_append.1 ht with h | h
        · rcases List.mem_append.1 h with h | h
          · rcases List.mem_append.1 h with h | h
            · exact HPS.out t h
            · obtain rfl := List.mem_singleton.1 h; exact Or.inl (show base ≤ D by omega)
          · obtain rfl := List.mem_singleton.1 h; exact Or.inl (show base ≤ A2 by omega)
        · obtain rfl := List.mem_singleton.1 h; exact Or.inl (show base ≤ A3 by omega)
      have l10 : (L ++ [sl D m1] ++ [sl A2 m2] ++ [sl A3 m1]).length = 4 * i + 3 := by simp; omega
      clear hK10 hE10 K9 T9 N2 D9 E9 W9 HPS HLT HFR LA LB HM1
      generalize L ++ [sl D m1] ++ [sl A2 m2] ++ [sl A3 m1] = L3 at *
      go_wp2_with fail
      refine (bytes_ok R G zs q m w10 D10.out (by rw [HL.out]; omega)).mono ?_
      rintro e w11 ⟨po, rfl, hpo, hby11, hr11, hg11⟩
      have K11 := hid_intro (K10.out.kept hg11 (fun j e => by
        obtain rfl := Option.some.inj e
        refine ⟨by omega, hRb, fun s hs => ?_⟩
        rcases HP10.out s hs with h | h
        · omega
        · omega))
      have E11 := hid_intro (E10.out.kept hg11 (by simp; omega))
      have W11 := hid_intro (grown_new W10.out hg11 (by omega))
      have D11 := hid_intro hr11
      have Y11 := hid_intro hby11
      have HPO := hid_intro hpo
      have B11 := hid_intro (HB.out.keptN W11.out)
      clear hr11 hby11 hpo hg11 K10 D10 E10 W10
      have PAP : Hid (∀ t ∈ L3, t.Apart ⟨.slice po m m, G, q, m, m⟩) := fun t ht => by
        rcases HP10.out t ht with h | h
        · exact apart_blocks (show t.g ≠ G by omega)
        · intro a c ha hc' e
          have ha' : a < t.c := ha
          injection e with e1 e2
          have e3 : t.o + a = q + c := e2
          omega
      rcases Nat.eq_zero_or_pos m with hm0 | hm0
      · subst hm0
        have hq0 : q = 0 := by have := HQ.out; omega
        subst hq0
        go_wp2_with fail
        refine (same_yes po ao 0 0 0 cap [] [] w11 (Byt.none0 _ _ _ (fun _ => rfl)) (Byt.none0 _ _ _ (fun e => (B11.out.nil e).2)) rfl).mono ?_
        rintro e w11b ⟨rfl, rfl⟩
        go_wp2_with fail
        refine (kb_keep ⟨.slice po 0 0, G, 0, 0, 0⟩ po ((zs.drop 0).take 0) K11.out ⟨Nat.le_refl _, (show 0 ≤ 1099511627776 by omega), (show 0 ≤ 9223372036854775807 by omega), po, rfl, fun h => HPO.out h⟩ (fun j hj => by have hj' : j < 0 := hj; exact D11.out.there (0 + j) (by rw [HL.out]; omega)) (show 0 ≤ 1099511620000 by omega) D11.out.lt.2 (show G ≠ B by omega) (K11.out.free hGb (by omega)).2.1 (K11.out.free hGb (by omega)).2.2 rfl (fun t ht => PAP.out t ht) Y11.out (by omega)).mono ?_
        rintro e w12 ⟨rfl, ys4, vb4, vw4, hK12, hE12⟩
        have NEW : Hid (Wo w B base R G E zs (0 + 0) (i + 1) w12 (L3 ++ [⟨.slice po 0 0, G, 0, 0, 0⟩]) ys4 vb4 vw4) := by
          refine ⟨hK12, by rw [List.length_append, l10]; simp; omega, fun t ht => ?_, Rd.ke hE12 D11.out (K11.out.free hRb (by omega)) (K11.out.free hGb (by omega)), hE12.rw E11.out (K11.out.free (by omega) (by omega)), hE12.grown K11.out W11.out hwB⟩
          rcases List.mem_append.1 ht with h | h
          · rcases HP10.out t h with h | h
            · exact Or.inl h
            · exact Or.inr ⟨h.1, by omega⟩
          · obtain rfl := List.mem_singleton.1 h
            exact Or.inr ⟨rfl, by simp⟩
        clear hK12 hE12 K11 D11 E11 W11 Y11 B11
        go_wp2
        go_roundw
        case rel => exact ⟨i + 1, 0 + 0, by omega, HQ.out, by go_num, _, _, _, _, NEW.out⟩
        case measure => simp [intOf]; omega
      · obtain ⟨bb, off, rfl, _, _⟩ := B11.out.at (by omega)
        have hcq : cap ≠ q := by omega
        have i1 : (0 : Int) ≤ (q : Int) := by omega
        have i2 : (q : Int) + (m : Int) ≤ (cap : Int) := by omega
        have i3 : (q : Int) ≤ (q : Int) + (m : Int) := by omega
        go_wp2_with fail
        refine (same_yes po _ m m m (cap - q) ((zs.drop q).take m) ((zs.drop q).take m) w11 Y11.out (B11.out.part q m (cap - q) hqm) rfl).mono ?_
        rintro e w11b ⟨rfl, rfl⟩
        go_wp2_with fail
        refine (kb_keep ⟨.slice po m m, G, q, m, m⟩ po ((zs.drop q).take m) K11.out ⟨Nat.le_refl _, (show m ≤ 1099511627776 by omega), (show m ≤ 9223372036854775807 by omega), po, rfl, fun h => HPO.out h⟩ (fun j hj => by have hj' : j < m := hj; exact D11.out.there (q + j) (by rw [HL.out]; omega)) (show m ≤ 1099511620000 by omega) D11.out.lt.2 (show G ≠ B by omega) (K11.out.free hGb (by omega)).2.1 (K11.out.free hGb (by omega)).2.2 rfl (fun t ht => PAP.out t ht) Y11.out (by omega)).mono ?_
        rintro e w12 ⟨rfl, ys4, vb4, vw4, hK12, hE12⟩
        have NEW : Hid (Wo w B base R G E zs (q + m) (i + 1) w12 (L3 ++ [⟨.slice po m m, G, q, m, m⟩]) ys4 vb4 vw4) := by
          refine ⟨hK12, by rw [List.length_append, l10]; simp; omega, fun t ht => ?_, Rd.ke hE12 D11.out (K11.out.free hRb (by omega)) (K11.out.free hGb (by omega)), hE12.rw E11.out (K11.out.free (by omega) (by omega)), hE12.grown K11.out W11.out hwB⟩
          rcases List.mem_append.1 ht with h | h
          · rcases HP10.out t h with h | h
            · exact Or.inl h
            · exact Or.inr ⟨h.1, by omega⟩
          · obtain rfl := List.mem_singleton.1 h
            exact Or.inr ⟨rfl, by simp⟩
        clear hK12 hE12 K11 D11 E11 W11 Y11 B11
        go_wp2
        go_roundw
        case rel => exact ⟨i + 1, q + m, by omega, HQ.out, by go_num, _, _, _, _, NEW.out⟩
        case measure => simp [intOf]; omega
    · have hi : i = 6 := by omega
      have hq6 : q = 6 * m := by rw [hq, hi]
      have hqI : (m : Int) * 6 = (q : Int) := by omega
      have hqn : q ≤ n := by omega
      have hLm : L.length ≤ 30 := by omega
      have HPS := hid_intro OO.out.pos
      have K0 := hid_intro OO.out.kb
      have D0 := hid_intro OO.out.rd
      have E0 := hid_intro OO.out.row
      have W0 := hid_intro OO.out.gr
      clear OO hq hq6
      go_wp2_with fail
      refine (keep_rw E n zs K0.out E0.out HL.out (by omega) (K0.out.free (by omega) (by omega)) (fun t ht => by rcases HPS.out t ht with h | h <;> omega) (by omega)).mono ?_
      rintro e w5 ⟨rfl, ys1, vb1, vw1, hK5, hE5⟩
      have D5 := Rd.ke hE5 D0.out (K0.out.free hRb (by omega)) (K0.out.free hGb (by omega))
      have W5 := hE5.grown K0.out W0.out hwB
      have hsz5 := hK5.bB.2
      have FIN : Hid (Calls Tryz.prog 13 #[.pointer (some ⟨B, 0, none⟩)] w5 fun en w' => en = .returned (.bool true) ∧ (w.grownBy w' none ∧ Rd w' R G zs q 0)) := by
        refine kb_finish hK5 (by rw [List.length_append]; simp; omega) (Or.inl (by rw [List.length_append]; simp)) (fun v => w.grownBy v none ∧ Rd v R G zs q 0) ⟨W5, D5⟩ (fun v w' row h1 h2 h3 => ?_) (fun v s j u h1 h2 h3 => ?_)
        · cases row with
          | none => exact ⟨grown_trans h1.1 h2, h1.2.kept h2 (by simp) (by simp)⟩
          | some j =>
            have h4 := h3 j rfl
            refine ⟨grown_new h1.1 h2 (by rcases h4 with h4 | h4 <;> omega), h1.2.kept h2 (by simp; rcases h4 with h4 | h4 <;> omega) (by simp; rcases h4 with h4 | h4 <;> omega)⟩
        · have hg := grown_set v s.g (s.o + j) u
          rcases List.mem_append.1 h1 with h | h
          · rcases HPS.out s h with h4 | h4
            · exact ⟨grown_new h3.1 hg (by omega), h3.2.kept hg (by simp; omega) (by simp; omega)⟩
            · refine ⟨grown_new h3.1 hg (by omega), ?_⟩
              rw [h4.1]
              exact h3.2.setByteO (s.o + j) u (by omega)
          · obtain rfl := List.mem_singleton.1 h
            have hg' : v.grownBy (v.setCell ⟨(sl E n).g, (sl E n).o + j, none⟩ u) (some E) := hg
            exact ⟨grown_new h3.1 hg' (by omega), h3.2.kept hg' (by simp; omega) (by simp; omega)⟩
      clear hK5 hE5 D5 W5 hsz5 K0 D0 E0 W0
      go_wp2_with fail
      refine FIN.out.mono ?_
      rintro e w6 ⟨rfl, hg6, hr6⟩
      have D6 := hid_intro hr6
      have W6 := hid_intro hg6
      clear hg6 hr6 FIN HPS
      go_wp2_with fail
      refine (left_whole R G zs q w6 D6.out).mono ?_
      rintro e w7 ⟨rfl, hq7⟩
      have D7 := hid_intro (D6.out.qt hq7)
      have W7 := hid_intro (grown_trans W6.out (hq7.grown none))
      clear hq7 D6 W6
      rw [HL.out]
      go_wp2_with fail
      refine (bytes_ok R G zs q (n - q) w7 D7.out (by rw [HL.out]; omega)).mono ?_
      rintro e w8 ⟨po, rfl, hpo, hby8, hr8, hg8⟩
      have W8 := hid_intro (grown_new W7.out hg8 (by omega))
      have Y8 := hid_intro hby8
      have B8 := hid_intro (HB.out.keptN W8.out)
      clear hby8 hr8 hg8 hpo D7 W7
      have FIRST : Hid (∀ W, w.grownBy W none → Calls Tryz.prog 5 #[] W fun en w' => en = .returned (.bool true) ∧ w.grownBy w' none) := fun W hW => (first_any W).mono fun e w' h => ⟨h.1, grown_trans hW h.2⟩
      have i1 : (0 : Int) ≤ (q : Int) := by omega
      have i2 : (q : Int) ≤ (n : Int) := by omega
      rcases Nat.eq_or_lt_of_le hqn with hqe | hqe
      · have E8 : Hid (∀ (c8 : Nat) (bo : Option Addr), (bo = none → c8 = 0) → Calls Tryz.prog 10 #[.slice po 0 0, .slice bo 0 c8] w8 fun en w' => en = .returned (.bool true) ∧ w' = w8) := fun c8 bo h8 =>
          same_yes po bo 0 0 0 c8 [] [] w8 (Byt.none0 _ _ _ (fun _ => rfl)) (Byt.none0 _ _ _ h8) rfl
        subst hqe
        rw [Nat.sub_self]
        cases ao with
        | none =>
          have h0 := B8.out.nil rfl
          have hq0 : q = 0 := h0.1
          have hc0 : cap = 0 := h0.2
          subst hq0 hc0
          go_wp2_with fail
          refine (E8.out _ _ (fun _ => rfl)).mono ?_
          rintro e w9 ⟨rfl, rfl⟩
          go_wp2_with fail
          refine (FIRST.out _ W8.out).mono ?_
          rintro e w10 ⟨rfl, hg10⟩
          have W10 := hid_intro hg10
          clear hg10
          go_wp2
          go_ret
          exact ⟨rfl, W10.out⟩
        | some ad =>
          by_cases hcq : cap = q
          · go_wp2_with fail
            refine (E8.out _ _ (fun e => by cases e)).mono ?_
            rintro e w9 ⟨rfl, rfl⟩
            go_wp2_with fail
            refine (FIRST.out _ W8.out).mono ?_
            rintro e w10 ⟨rfl, hg10⟩
            have W10 := hid_intro hg10
            clear hg10
            go_wp2
            go_ret
            exact ⟨rfl, W10.out⟩
          · go_wp2_with fail
            refine (E8.out _ _ (fun e => by cases e)).mono ?_
            rintro e w9 ⟨rfl, rfl⟩
            go_wp2_with fail
            refine (FIRST.out _ W8.out).mono ?_
            rintro e w10 ⟨rfl, hg10⟩
            have W10 := hid_intro hg10
            clear hg10
            go_wp2
            go_ret
            exact ⟨rfl, W10.out⟩
      · obtain ⟨bb, off, rfl, _, _⟩ := B8.out.at (by omega)
        have hcq : cap ≠ q := by omega
        go_wp2_with fail
        refine (same_yes po _ (n - q) (n - q) (n - q) (cap - q) ((zs.drop q).take (n - q)) ((zs.drop q).take (n - q)) w8 Y8.out (B8.out.part q (n - q) (cap - q) (by omega)) rfl).mono ?_
        rintro e w9 ⟨rfl, rfl⟩
        go_wp2_with fail
        refine (FIRST.out _ W8.out).mono ?_
        rintro e w10 ⟨rfl, hg10⟩
        have W10 := hid_intro hg10
        clear hg10
        go_wp2
        go_ret
        exact ⟨rfl, W10.out⟩
end Go.Proofs.YtgipnfbojnllnaaGreatDoor
