import Derived.Test.YtlfhonlifgpnhaaLeafS8
namespace Go.Proofs.Ytlfhonlifgpnhaa
open Go.RowKit

theorem Sm.sizes {L M : List It} (h : Sm L M) (hs : ∀ x ∈ L, x.key.length ≤ 5000 ∧ x.val.length ≤ 5000) : ∀ x ∈ M, x.key.length ≤ 5000 ∧ x.val.length ≤ 5000 := by
  intro x hx
  obtain ⟨j, hj, rfl⟩ := List.getElem_of_mem hx
  have hjl : j < L.length := by have := h.len; omega
  obtain ⟨a, b, _, _⟩ := h.el j hjl
  have e : M.getD j it0 = M[j] := by simp [List.getD, List.getElem?_eq_getElem hj]
  rw [e] at a b
  have := hs _ (getD_mem hjl)
  omega
theorem keys_short {L : List It} (hs : ∀ x ∈ L, x.key.length ≤ 5000 ∧ x.val.length ≤ 5000) : ∀ x ∈ L, x.key.length ≤ 1000000 := fun x hx => by have := (hs x hx).1; omega
theorem Ld.top {w : World} {base A c : Nat} {gk gv : Nat → Nat × Nat} {xs : List Value} {L : List It} (h : Ld w base A c gk gv xs L) : Lt4 w base w.heap.size A c gk gv xs L :=
  ⟨h, fun j hj => ⟨(h.lm.ko j hj).1.lt, (h.lm.ko j hj).2.lt⟩⟩

set_option maxHeartbeats 4000000 in
set_option maxRecDepth 100000 in
theorem leafSizes_walk (a : Option Addr) (n cap : Nat) (L : List It) (pi : Int) (w : World) (hl : Il w a L) (hib : Ib L) (hn : L.length = n) (_hnc : n ≤ cap) (_hcm : cap ≤ 9223372036854775807) (_hp : (Lit.int .i64 pi).wf = true) :
    Calls Try.prog 3 #[.slice a n cap, .int .i64 pi] w fun en w' => en = .returned (.bool true) ∧ w.grownBy w' none := by
  have HL := hid_intro hl
  clear hl
  go_enter Try.func3, Try.ntmps3
  go_wp2_with fail
  refine (first4_any _).mono ?_
  rintro en w1 ⟨rfl, hg1⟩
  have G1 := hid_intro hg1
  clear hg1
  go_wp2_with fail
  refine (short_any a n cap L _ (HL.out.keptN G1.out) hn).mono ?_
  rintro en w2 ⟨rfl, hq2⟩
  have G2 := hid_intro (grown_trans G1.out (hq2.grown none))
  clear hq2 G1
  cases hsh : sh L with
  | false =>
    clear hsh
    go_wp2
    go_ret
    exact ⟨rfl, G2.out⟩
  | true =>
    have hsp := sh_parts hsh
    have HS := hid_intro hsp.2
    have hn2 : n ≤ 2000 := by omega
    clear hsh hsp
    go_wp2_with fail
    refine (lend_any a n cap L _ (HL.out.keptN G2.out) hn (by omega) HS.out).mono ?_
    rintro en w3 ⟨⟨A, c, rfl, gk, gv, xs, hld, hc1, hc2⟩, hg3⟩
    have G3 := hid_intro (grown_trans G2.out hg3)
    have hb3 : w.heap.size ≤ w2.heap.size := G2.out.size
    have ga := World.grownBy_alloc w3 (.cells #[.slice (some ⟨A, 0, none⟩) (n + 1) c, .int .i64 (n : Int)] 26) none
    have B4 := hid_intro (Bl.new w3 (.slice (some ⟨A, 0, none⟩) (n + 1) c) (.int .i64 (n : Int)))
    have D4 := hid_intro (hld.top.keptN ga)
    have G4 := hid_intro (grown_trans G3.out ga)
    have ht4 : w3.heap.size ≤ (w3.alloc (.cells #[.slice (some ⟨A, 0, none⟩) (n + 1) c, .int .i64 (n : Int)] 26)).heap.size := ga.size
    clear hld hg3 ga G2 G3
    go_upto_region 5 with fail
    generalize w3.alloc (.cells #[.slice (some ⟨A, 0, none⟩) (n + 1) c, .int .i64 (n : Int)] 26) = w4 at *
    generalize w3.heap.size = top at *
    generalize w2.heap.size = base at *
    obtain ⟨y0, y1⟩ := B4.out.cells
    go_wp2_with fail
    refine (of_any A n c _ hc1 hc2 (by omega)).mono ?_
    rintro en w5 ⟨rfl, hg5⟩
    have D5 := hid_intro (D4.out.keptN hg5)
    have B5 := hid_intro (B4.out.keptN hg5)
    have G5 := hid_intro (grown_trans G4.out hg5)
    have hs5 := hg5.size
    clear hg5 D4 B4 G4 y0 y1
    go_wp2_with fail
    refine (size_any _ n (n + 1) L _ D5.out.ld.il hn (by omega) (keys_short HS.out)).mono ?_
    rintro en w6 ⟨rfl, hg6⟩
    have D6 := hid_intro (D5.out.keptN hg6)
    have B6 := hid_intro (B5.out.keptN hg6)
    have G6 := hid_intro (grown_trans G5.out hg6)
    have hs6 := hg6.size
    clear hg6 D5 B5 G5
    obtain ⟨y0, y1⟩ := B6.out.cells
    go_wp2_with fail
    refine (held_any base top A c n gk gv xs L a cap w _ D6.out HL.out G6.out hib hn (by omega) HS.out hc1).mono ?_
    rintro en w7 ⟨rfl, L7, hsm7, hd7, hf7⟩
    have D7 := hid_intro hd7
    have B7 := hid_intro (hf7.bl B6.out)
    have G7 := hid_intro (hf7.grown G6.out hb3)
    have S7 := hid_intro hsm7
    have hs7 := hf7.size
    clear hd7 hf7 hsm7 D6 B6 G6 y0 y1
    go_wp2_with fail
    refine (refSize_any a n cap L _ (HL.out.keptN G7.out) hn (by omega) (keys_short HS.out)).mono ?_
    rintro en w8 ⟨rfl, hdr8⟩
    have hg8 := (Dr.qt hdr8).grown none
    have D8 := hid_intro (D7.out.keptN hg8)
    have B8 := hid_intro (B7.out.keptN hg8)
    have G8 := hid_intro (grown_trans G7.out hg8)
    have hs8 := hg8.size
    clear hdr8 hg8 D7 B7 G7
    generalize size L = sz at *
    go_wp2_with fail
    refine (turned_any a n cap L pi _ (HL.out.keptN G8.out) hib hn (by omega) HS.out).mono ?_
    rintro en w9 ⟨⟨A2, c2', gk2, gv2, xs2, M, rfl, hlq, hsm, hibm, hnc2, hcm2⟩, hg9⟩
    have Q9 := hid_intro hlq
    have D9 := hid_intro (D8.out.keptN hg9)
    have B9 := hid_intro (B8.out.keptN hg9)
    have G9 := hid_intro (grown_trans G8.out hg9)
    have SM9 := hid_intro (hsm.symm.trans S7.out)
    have HSM := hid_intro (hsm.sizes HS.out)
    have hnm : M.length = n := by rw [hsm.len]; exact hn
    clear hlq hsm hg9 D8 B8 G8 S7
    obtain ⟨y0, y1⟩ := B9.out.cells
    go_wp2_with fail
    refine (again_any base top w8.heap.size A c n gk gv xs L7 A2 c2' gk2 gv2 xs2 M _ D9.out Q9.out (by omega) SM9.out hnm (by omega) HSM.out hc1).mono ?_
    rintro en w10 ⟨rfl, hd10, hf10⟩
    have D10 := hid_intro hd10
    have B10 := hid_intro (hf10.bl B9.out)
    have Q10 := hid_intro (hf10.lq Q9.out (by omega))
    have G10 := hid_intro (hf10.grown G9.out hb3)
    clear hd10 hf10 D9 B9 Q9 G9 y0 y1
    obtain ⟨y0, y1⟩ := B10.out.cells
    go_wp2_with fail
    refine (of_any A n c _ hc1 hc2 (by omega)).mono ?_
    rintro en w11 ⟨rfl, hg11⟩
    have D11 := hid_intro (D10.out.keptN hg11)
    have Q11 := hid_intro (Q10.out.keptN hg11)
    have G11 := hid_intro (grown_trans G10.out hg11)
    clear hg11 D10 B10 Q10 G10 y0 y1
    go_wp2_with fail
    refine (size_any _ n (n + 1) M _ D11.out.ld.il hnm (by omega) (keys_short HSM.out)).mono ?_
    rintro en w12 ⟨rfl, hg12⟩
    have Q12 := hid_intro (Q11.out.keptN hg12)
    have G12 := hid_intro (grown_trans G11.out hg12)
    clear hg12 D11 Q11 G11
    go_wp2_with fail
    refine (refSize_any _ n c2' M _ Q12.out.il hnm (by omega) (keys_short HSM.out)).mono ?_
    rintro en w13 ⟨rfl, hdr13⟩
    have G13 := hid_intro (grown_trans G12.out ((Dr.qt hdr13).grown none))
    clear hdr13 G12
    generalize size M = sz2 at *
    go_wp2
    go_ret
    exact ⟨by simp, G13.out⟩
end Go.Proofs.Ytlfhonlifgpnhaa
