import Derived.Test.YtioleabkbkmggaaDoorDuV
namespace Go.Proofs.YtioleabkbkmggaaDoor
open Go.RowKit

theorem tx_len20b {l : List Pq} (hn : l.length ≤ 2000) (hj : jdg [] l = 0) : (tx l).length ≤ 1900000000 := by
  rw [← txi_all]
  have := txi_len (by omega) (jdg_small hj) l.length (Nat.le_refl _)
  omega
set_option maxHeartbeats 4000000 in
set_option maxRecDepth 100000 in
theorem dumpParses_walk (s : ByteArray) (a b : Option Addr) (n m c d : Nat) (l : List Pq) (ed : List (Int × Int × ByteArray)) (w : World) (hl : Pm w a l) (hn : l.length = n) (he : Edm w b ed) (hm : ed.length = m) (ht : Tzd w) :
    Calls Tryd.prog 6 #[.string s, .slice a n c, .slice b m d] w fun en w' => en = .returned (.bool true) ∧ w.grownBy w' none := by
  have HF := hid_intro (first20 w ht)
  have HL := hid_intro hl
  have HN := hid_intro hn
  have HE := hid_intro he
  have HM := hid_intro hm
  have HPS : Hid (s.size ≤ 2000000000 → ∀ W, Calls Tryd.prog 23 #[.string s] W fun en w' => en = .returned (.bool true) ∧ W.grownBy w' none) := fun h W => by
    have := parses20 s.data.toList W (by rw [size_data]; exact h)
    rwa [tstr_mk] at this
  clear hl hn he hm ht
  go_enter Tryd.func6, Tryd.ntmps6
  go_wp2_with fail
  refine HF.out.mono ?_
  rintro en w1 ⟨rfl, hg1⟩
  have G1 := hid_intro hg1
  clear hg1 HF
  by_cases hbig : 1048576 < s.size
  · have g1 : (1048576 : Int) < (s.size : Int) := by omega
    go_wp2
    go_ret
    exact ⟨rfl, G1.out⟩
  · have g1 : ¬ (1048576 : Int) < (s.size : Int) := by omega
    go_wp2_with fail
    refine (few20 a n c l w1 (HL.out.keptN G1.out) HN.out).mono ?_
    rintro en w2 ⟨f1, rfl, hq2, hf1⟩
    have G2 := hid_intro (grown_trans G1.out (hq2.grown none))
    have F1 := hid_intro hf1
    clear hq2 hf1 G1
    cases f1 with
    | false =>
      go_wp2
      go_ret
      exact ⟨rfl, G2.out⟩
    | true =>
      have hn2 := (F1.out rfl).1
      clear F1
      go_wp2_with fail
      refine (HPS.out (by omega) _).mono ?_
      rintro en w3 ⟨rfl, hg3⟩
      have G3 := hid_intro (grown_trans G2.out hg3)
      clear hg3 G2
      go_wp2_with fail
      refine (refText_any a n c l w3 (HL.out.keptN G3.out) HN.out (by omega)).mono ?_
      rintro en w4 ⟨rfl, hg4⟩
      have G4 := hid_intro (grown_trans G3.out hg4)
      clear hg4 G3
      by_cases hj : jdg [] l = 0
      · rw [hj, txt_ok hj]
        have htl := tx_len20b (by have := HN.out; omega) hj
        have HPT := hid_intro (fun W => parses20 (tx l) W (by omega))
        have HED := hid_intro (fun W h => edited20 (tx l) b m d ed W h HM.out htl)
        have HTL := hid_intro htl
        clear hj htl
        generalize tx l = T at *
        generalize tstr T = t at *
        go_wp2_with fail
        refine (HPT.out _).mono ?_
        rintro en w5 ⟨rfl, hg5⟩
        have G5 := hid_intro (grown_trans G4.out hg5)
        clear hg5 G4
        go_wp2_with fail
        refine (HED.out _ (HE.out.keptN G5.out)).mono ?_
        rintro en w6 ⟨T', rfl, hl6, hg6⟩
        have G6 := hid_intro (grown_trans G5.out hg6)
        have HP6 := hid_intro (fun W => parses20 T' W (by have := HTL.out; omega))
        clear hg6 G5
        generalize tstr T' = t' at *
        go_wp2_with fail
        refine (HP6.out _).mono ?_
        rintro en w7 ⟨rfl, hg7⟩
        have G7 := hid_intro (grown_trans G6.out hg7)
        clear hg7 G6
        go_wp2
        go_ret
        exact ⟨rfl, G7.out⟩
      · have j1 : (jdg [] l == 0) = false := by rw [beq_eq_false_iff_ne]; exact hj
        have j2 : (jdg [] l != 0) = true := by simp only [bne, j1]; rfl
        clear hj
        generalize jdg [] l = e at *
        generalize tstr (txt l) = t at *
        go_wp2
        go_ret
        exact ⟨rfl, G4.out⟩
end Go.Proofs.YtioleabkbkmggaaDoor
