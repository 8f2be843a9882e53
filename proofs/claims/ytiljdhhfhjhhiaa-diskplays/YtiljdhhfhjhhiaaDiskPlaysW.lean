import Derived.Test.YtiljdhhfhjhhiaaDpD
import Derived.Test.YtiljdhhfhjhhiaaDkIm
import Derived.Test.YtiljdhhfhjhhiaaRk7
namespace Go.Proofs.Ytiljdhhfhjhhiaa
open Go.RowKit Go.MuLone

theorem Pt.gr {w0 w : World} {P B R t : Nat} (h : Pt w0 w P B R t) : w0.grownBy w none := by
  obtain ⟨s, ⟨F1, F2, g, cap, zs, hp⟩, hl⟩ := h
  exact hp.gr
def opK (k : Int) : Opr := ⟨k, 0, 0, 0, 0, none, 0, 0, [], none, 0, 0, []⟩
theorem opK_m (w : World) (k : Int) : Opm w (opK k) :=
  ⟨Byt.empty w, Bt.nil, (fun ad e => by cases e), (by show (0 : Int) ≤ 0 ∧ (0 : Int) ≤ 255; omega), (by show (-9223372036854775808 : Int) ≤ 0 ∧ (0 : Int) ≤ 9223372036854775807; omega), ⟨fun i f h => by simp [opK] at h⟩, rfl, (by show 0 ≤ 8796093021952; omega), (by show 0 ≤ 9223372036854775807; omega)⟩

theorem owns_le12 {w : World} {base base' size n : Nat} {e : TypeId} {v : Value} {xs : List Value} (h : w.ownsRow base e size v n xs) (hb : base' ≤ base) : w.ownsRow base' e size v n xs := by
  refine ⟨h.1, ?_⟩
  rcases h.2 with h | ⟨g, cap, cur, a1, a2, a3⟩
  · exact .inl h
  · exact .inr ⟨g, cap, cur, a1, Nat.le_trans hb a2, a3⟩

theorem pt_new {w w1 w2 w3 w4 : World} {B R c : Nat} {L : List (List Int)} (g1 : w.grownBy w1 none) (g2 : w1.grownBy w2 none) (z2 : Dz w2 B (fun k => w1.heap.size ≤ k ∧ k < w2.heap.size) ⟨c, 0, false, 0, 0, L, []⟩) (g3 : w2.grownBy w3 none) (z3 : Rz w3 R (fun k => w2.heap.size ≤ k ∧ k < w3.heap.size) ⟨c, 0, false, 0, 0, L, []⟩)
    (g4 : w3.grownBy w4 none) (o4 : w4.ownsRow w3.heap.size 5 1 (.slice (some ⟨w3.heap.size, 0, none⟩) 0 4200) 0 []) :
    Pt w (w4.alloc (.cells #[.pointer (some ⟨B, 0, none⟩), .pointer (some ⟨R, 0, none⟩), .slice (some ⟨w3.heap.size, 0, none⟩) 0 4200] 37)) w4.heap.size B R 0 := by
  have s1 := g1.size
  have s2 := g2.size
  have s3 := g3.size
  have s4 := g4.size
  have hl : w3.heap.size < w4.heap.size := (o4.lt _ rfl).2
  have ga := World.grownBy_alloc w4 (.cells #[.pointer (some ⟨B, 0, none⟩), .pointer (some ⟨R, 0, none⟩), .slice (some ⟨w3.heap.size, 0, none⟩) 0 4200] 37) none
  refine ⟨_, ⟨_, _, w3.heap.size, 4200, [], ⟨heap_alloc_new w4 _, ((z2.keptN g3).keptN g4).keptN ga, (z3.keptN g4).keptN ga, ?_, grown_trans (grown_trans (grown_trans (grown_trans g1 g2) g3) g4) ga, fun k e => ?_, fun k e => ?_, by omega, fun e => ?_⟩⟩, ⟨Nat.le_refl _, Nat.le_refl _, by show 0 < 9223372036854775808; omega⟩⟩
  · exact owns_le12 (o4.alloc _) (by omega)
  · have := e.1
    have := e.2
    exact ⟨by omega, by omega, fun e' => by have : w3.heap.size = k := Option.some.inj e'; omega, fun e' => by have := e'.1; omega⟩
  · have := e.1
    have := e.2
    exact ⟨by omega, by omega, fun e' => by have : w3.heap.size = k := Option.some.inj e'; omega⟩
  · have : w3.heap.size = w4.heap.size := Option.some.inj e
    omega

set_option maxHeartbeats 16000000 in
set_option maxRecDepth 8000 in
theorem diskPlays_walk (c : Int) (a1 : Option Addr) (n1 c1 : Nat) (z1 : List Int) (a2 : Option Addr) (n2 c2 : Nat) (ops : List Opr) (w : World) (hb : Byt w a1 n1 c1 z1) (bt : Bt z1) (hcap : n1 ≤ c1) (hcm : c1 ≤ 140737488351232) (hO : Opl w a2 ops) (hlen : ops.length = n2) (hl63 : n2 ≤ 9223372036854775807) :
    Calls Try.prog 3 #[.int .i64 c, .slice a1 n1 c1, .slice a2 n2 c2] w fun e w' => e = .returned (.bool true) ∧ w.grownBy w' none := by
  have HB := hid_intro hb
  have HO := hid_intro hO
  have HT := hid_intro bt
  clear hb hO bt
  by_cases hbig : 524288 < n1
  · have hbig' : (524288 : Int) < (n1 : Int) := by omega
    go_enter Try.func3, Try.ntmps3
    go_wp2_with fail
    refine (first12_any w).mono ?_
    rintro e w1 ⟨rfl, hg1⟩
    go_wp2
    go_ret
    exact ⟨rfl, hg1⟩
  have hbig' : ¬ (524288 : Int) < (n1 : Int) := by omega
  by_cases hsm : mx12 ops (min n2 200) ≤ 10000
  · have SM := hid_intro (show ∀ W, w.grownBy W none → Calls Try.prog 9 #[.slice a2 n2 c2] W fun e w' => e = .returned (.bool true) ∧ w' = W from fun W hW => (small12_any a2 n2 c2 ops (HO.out.keptN hW) hlen hl63).mono (fun e w' hq => ⟨by rw [hq.1]; simp [hsm], hq.2⟩))
    by_cases hbad : (c < 2 ∨ 524287 < c) ∨ ¬ n1 % 4096 = 0 ∨ c < ((n1 / 4096 : Nat) : Int)
    · go_enter Try.func3, Try.ntmps3
      go_wp2_with fail
      refine (first12_any w).mono ?_
      rintro e w1 ⟨rfl, hg1⟩
      have G1 := hid_intro hg1
      clear hg1
      go_wp2_with fail
      refine (SM.out w1 G1.out).mono ?_
      rintro e w2 ⟨rfl, hw2⟩
      rw [hw2]
      clear hw2
      clear w2
      go_wp2_with fail
      refine (refBytes_any a1 n1 c1 z1 w1 (HB.out.keptN G1.out) (by omega)).mono ?_
      rintro e w2 ⟨rfl, _, hg2, _⟩
      have G2 := hid_intro (grown_trans G1.out hg2)
      clear hg2
      go_wp2_with fail
      refine (image_no c _ n1 n1 w2 (by omega) hbad).mono ?_
      rintro e w3 ⟨rfl, hg3⟩
      have G3 := hid_intro (grown_trans G2.out hg3)
      clear hg3
      go_wp2_with fail
      refine (rimage_no c a1 n1 c1 w3 (by omega) hbad).mono ?_
      rintro e w4 ⟨rfl, hg4⟩
      have G4 := hid_intro (grown_trans G3.out hg4)
      clear hg4
      go_wp2_with fail
      refine (num_12 _ _ (by omega)).mono ?_
      rintro e w5 ⟨rfl, rfl⟩
      go_wp2
      go_ret
      exact ⟨rfl, G4.out⟩
    · have h2 : 2 ≤ c := by omega
      have h3 : c ≤ 524287 := by omega
      obtain ⟨cn, rfl⟩ : ∃ cn : Nat, c = cn := ⟨c.toNat, by omega⟩
      obtain ⟨m, hm⟩ : ∃ m, n1 = 4096 * m := ⟨n1 / 4096, by omega⟩
      have hmc : m ≤ cn := by omega
      have HM1 := hid_intro hm
      clear hbad hm
      obtain ⟨i0, hi, hz0, hz1, hz2⟩ := info_parts info_u8
      go_enter Try.func3, Try.ntmps3
      go_wp2_with fail
      refine (first12_any w).mono ?_
      rintro e w1 ⟨rfl, hg1⟩
      have G1 := hid_intro hg1
      clear hg1
      go_wp2_with fail
      refine (SM.out w1 G1.out).mono ?_
      rintro e w2 ⟨rfl, hw2⟩
      rw [hw2]
      clear hw2
      clear w2
      go_wp2_with fail
      refine (refBytes_any a1 n1 c1 z1 w1 (HB.out.keptN G1.out) (by omega)).mono ?_
      rintro e w2 ⟨rfl, ho2, hg2, _⟩
      have B2 := hid_intro (Byt.of_owns ho2)
      have G2 := hid_intro (grown_trans G1.out hg2)
      clear hg2 ho2
      go_wp2_with fail
      refine (image_ok cn m _ n1 n1 z1 w2 B2.out HT.out HM1.out ⟨Nat.le_refl _, by omega⟩ (by omega) (by omega) hmc).mono ?_
      rintro e w3 ⟨B, rfl, hg3, hz3⟩
      have G3 := hid_intro hg3
      have Z3 := hid_intro hz3
      clear hg3 hz3
      go_wp2_with fail
      refine (rimage_ok cn m a1 n1 c1 z1 w3 (HB.out.keptN (grown_trans G2.out G3.out)) HT.out HM1.out ⟨hcap, by omega⟩ (by omega) (by omega) hmc).mono ?_
      rintro e w4 ⟨R, rfl, hg4, hz4⟩
      have G4 := hid_intro hg4
      have Z4 := hid_intro hz4
      clear hg4 hz4
      go_wp2_with fail
      refine (num_12 _ _ (by omega)).mono ?_
      rintro e w5 ⟨rfl, hw5⟩
      rw [hw5]
      clear hw5
      clear w5
      go_wp2_with (at_make; refine wpList_make_own _ rfl _ _ 22 rfl w4.heap.size 5 i0 (.int .u8 0) 1 Try.underlying22 hi hz0 hz1 _ _ _ 4200 rfl rfl rfl ?b2 ?b3 (Nat.le_refl _) ?_)
      case b2 => rw [hz2]; omega
      case b3 => unfold maxLen; omega
      intro w5 ho5 hg5
      have PT := hid_intro (pt_new G2.out G3.out Z3.out G4.out Z4.out hg5 ho5)
      clear ho5 hg5
      go_wp2_with fail
      generalize w5.alloc (.cells #[.pointer (some ⟨B, 0, none⟩), .pointer (some ⟨R, 0, none⟩), .slice (some ⟨w4.heap.size, 0, none⟩) 0 4200] 37) = W at PT ⊢
      generalize w5.heap.size = P at PT ⊢
      go_loopw [13] (fun si wr => ∃ k : Nat, k ≤ min n2 200 ∧ si = .int .i64 (k : Int) ∧ Pt w wr P B R k) (fun si _ => 200 - (intOf si).toNat)
      case atStart => exact ⟨0, Nat.zero_le _, rfl, PT.out⟩
      case round =>
        obtain ⟨k, hk, rfl, hpt⟩ := hrel
        by_cases hlt : k < min n2 200
        · have b1 : (k : Int) < (n2 : Int) := by omega
          have b2 : (k : Int) < 200 := by omega
          have hget : ops[k]? = some (ops[k]'(by omega)) := List.getElem?_eq_getElem _
          have hsn : (ops[k]'(by omega)).n ≤ 10000 := Nat.le_trans (mx12_le ops (min n2 200) k _ hlt hget) hsm
          obtain ⟨hom, _⟩ := HO.out.ats k _ hget
          obtain ⟨_, b, off, rfl, hbs, d0, d1, d2, d3, d4, d5, d6⟩ := (HO.out.keptN hpt.gr).ats k _ hget
          generalize (ops[k]'(by omega)) = o at *
          have HM := hid_intro hom
          have ST := hid_intro (step12_any hpt (by omega) o hom hsn)
          clear hpt hom hget
          go_wp2_with fail
          refine ST.out.mono ?_
          rintro e w6 ⟨rfl, hp6⟩
          have P6 := hid_intro hp6
          clear hp6
          go_wp2_with fail
          refine (stands12_any P6.out (by omega)).mono ?_
          rintro e w7 ⟨rfl, hp7⟩
          have P7 := hid_intro hp7
          clear hp7
          go_wp2
          go_roundw
          case rel => exact ⟨k + 1, by omega, by go_num, P7.out⟩
          case measure => simp [intOf]; omega
        · have P5 := hid_intro hpt
          clear hpt
          by_cases b1 : (k : Int) < (n2 : Int)
          · have b2 : ¬ (k : Int) < 200 := by omega
            go_wp2_with fail
            refine (step12_any P5.out (by omega) (opK 8) (opK_m w 8) (by show 0 ≤ 10000; omega)).mono ?_
            rintro e w6 ⟨rfl, hp6⟩
            have P6 := hid_intro hp6
            clear hp6
            go_wp2_with fail
            refine (step12_any P6.out (by omega) (opK 9) (opK_m w 9) (by show 0 ≤ 10000; omega)).mono ?_
            rintro e w7 ⟨rfl, hp7⟩
            have P7 := hid_intro hp7
            clear hp7
            go_wp2
            go_ret
            exact ⟨rfl, P7.out.gr⟩
          · go_wp2_with fail
            refine (step12_any P5.out (by omega) (opK 8) (opK_m w 8) (by show 0 ≤ 10000; omega)).mono ?_
            rintro e w6 ⟨rfl, hp6⟩
            have P6 := hid_intro hp6
            clear hp6
            go_wp2_with fail
            refine (step12_any P6.out (by omega) (opK 9) (opK_m w 9) (by show 0 ≤ 10000; omega)).mono ?_
            rintro e w7 ⟨rfl, hp7⟩
            have P7 := hid_intro hp7
            clear hp7
            go_wp2
            go_ret
            exact ⟨rfl, P7.out.gr⟩
  · have SM := hid_intro (show ∀ W, w.grownBy W none → Calls Try.prog 9 #[.slice a2 n2 c2] W fun e w' => e = .returned (.bool false) ∧ w' = W from fun W hW => (small12_any a2 n2 c2 ops (HO.out.keptN hW) hlen hl63).mono (fun e w' hq => ⟨by rw [hq.1]; simp [hsm], hq.2⟩))
    go_enter Try.func3, Try.ntmps3
    go_wp2_with fail
    refine (first12_any w).mono ?_
    rintro e w1 ⟨rfl, hg1⟩
    have G1 := hid_intro hg1
    clear hg1
    go_wp2_with fail
    refine (SM.out w1 G1.out).mono ?_
    rintro e w2 ⟨rfl, rfl⟩
    go_wp2
    go_ret
    exact ⟨rfl, G1.out⟩
end Go.Proofs.Ytiljdhhfhjhhiaa
