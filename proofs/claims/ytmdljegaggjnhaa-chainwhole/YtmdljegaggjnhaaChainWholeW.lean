import Derived.Test.YtmdljegaggjnhaaChF
import Derived.Test.YtmdljegaggjnhaaChP
namespace Go.Proofs.Ytmdljegaggjnhaa
open Go.RowKit

theorem eok_mid {zs : List Int} {n i : Nat} {y : Int} (hl : zs.length = n) (hy : inR y = true) (h : i + 1 < pg n) : eD y (pc zs i).length = 0 := by
  have h1 := pg_mid h
  have h2 : (pc zs i).length = 4085 := by rw [pc_len]; omega
  rw [h2]
  unfold eD
  rw [if_neg (by simp [nOk, hy]), if_neg (by simp [cnt])]
theorem eok_last {zs : List Int} {n i : Nat} (hl : zs.length = n) (h : i < pg n) : eD 0 (pc zs i).length = 0 := by
  have h1 := (pg_in h).2.2
  have h2 : 0 < (pc zs i).length ∧ (pc zs i).length ≤ 4085 := by rw [pc_len]; omega
  unfold eD
  rw [if_neg (by decide), if_neg]
  intro h
  simp only [cnt, Bool.or_eq_true, decide_eq_true_eq, Bool.and_eq_true] at h
  omega
/-- The row of pieces, to be read; all of it below Bs. -/
structure Wp (w : World) (G N Bs : Nat) (zs : List Int) : Prop where
  le : Bs ≤ w.heap.size
  lt : G < Bs
  ex : ∃ cur : Array Value, w.heap[G]? = some (.cells cur 22 (0, 0)) ∧ ∀ j, j < N → ∃ g, cur[j]? = some (.slice (some ⟨g, 0, none⟩) (pc zs j).length (pc zs j).length) ∧ g < Bs ∧ Rw w g (pc zs j)
theorem Wp.of_pr {w : World} {G N b : Nat} {zs : List Int} (h : Pr w G N N b zs) : Wp w G N w.heap.size zs := by
  have hl := h.lt
  obtain ⟨cur, h1, _, h3⟩ := h.ex
  exact ⟨Nat.le_refl _, hl, cur, h1, fun j hj => by obtain ⟨g, k1, _, _, k4⟩ := h3 j hj; exact ⟨g, k1, k4.lt, k4⟩⟩
theorem Wp.kept {w w' : World} {G N Bs : Nat} {zs : List Int} {row : Option Nat} (h : Wp w G N Bs zs) (hg : w.grownBy w' row) (hr : ∀ k, row = some k → Bs ≤ k) : Wp w' G N Bs zs := by
  have hl := h.le
  have hG := h.lt
  obtain ⟨cur, h1, h3⟩ := h.ex
  refine ⟨Nat.le_trans hl hg.size, hG, cur, (hg.block G (Nat.lt_of_lt_of_le hG hl) (fun e => by have := hr G e.symm; omega)).trans h1, fun j hj => ?_⟩
  obtain ⟨g, k1, k2, k4⟩ := h3 j hj
  exact ⟨g, k1, k2, k4.kept hg (fun e => by have := hr g e.symm; omega)⟩
theorem Wp.keptN {w w' : World} {G N Bs : Nat} {zs : List Int} (h : Wp w G N Bs zs) (hg : w.grownBy w' none) : Wp w' G N Bs zs := h.kept hg (fun k e => by cases e)
theorem Wp.keptO {w w' : World} {G N Bs n : Nat} {zs : List Int} {v : Value} {xs : List Value} (h : Wp w G N Bs zs) (hg : w.grownBy w' v.ownBlock) (ho : w.ownsRow Bs 5 1 v n xs) : Wp w' G N Bs zs := h.kept hg (fun k e => own_lt6 ho k e)
theorem Wp.at {w : World} {G N Bs : Nat} {zs : List Int} (h : Wp w G N Bs zs) (i : Nat) (hi : i < N) : ∃ g, w.cell? ⟨G, i, none⟩ = some (.slice (some ⟨g, 0, none⟩) (pc zs i).length (pc zs i).length) ∧ Rw w g (pc zs i) := by
  obtain ⟨cur, h1, h3⟩ := h.ex
  obtain ⟨g, k1, _, k2⟩ := h3 i hi
  exact ⟨g, by rw [cell_of_row w G i _ _ _ h1]; exact k1, k2⟩

set_option maxHeartbeats 4000000 in
set_option maxRecDepth 100000 in
theorem chainWhole_walk (ao : Option Addr) (n cap : Nat) (zs : List Int) (x : Int) (w : World) (hb : Byt w ao n cap zs) (hbt : Bt zs) (hc : n ≤ cap ∧ cap ≤ 9223372036854775807) :
    Calls Try.prog 8 #[.slice ao n cap, .int .i64 x] w fun en w' => en = .returned (.bool true) ∧ w.grownBy w' none := by
  have hl := hb.len
  have HB := hid_intro hb
  have HBT := hid_intro hbt
  clear hb hbt
  go_enter Try.func8, Try.ntmps8
  go_wp2_with fail
  refine (first6_any _).mono ?_
  rintro en w1 ⟨rfl, hg1⟩
  have B1 := hid_intro (HB.out.keptN hg1)
  have G1 := hid_intro hg1
  clear hg1
  by_cases hbig : 524288 < n
  · have hbig' : (524288 : Int) < (n : Int) := by omega
    go_wp2
    go_ret
    exact ⟨rfl, G1.out⟩
  · have hbig' : ¬ (524288 : Int) < (n : Int) := by omega
    by_cases h2 : x < 2
    · have HIY : Hid (inR 2 = true) := rfl
      go_wp2_with fail
      refine (pieces_any ao n cap zs _ B1.out hc).mono ?_
      rintro en w2 ⟨rfl, hp2, hg2⟩
      have P2 := hid_intro (Wp.of_pr hp2)
      obtain ⟨Bs, hBs⟩ : ∃ Bs, Bs = w2.heap.size := ⟨_, rfl⟩
      rw [← hBs] at P2
      have HBS : Hid (w.heap.size ≤ Bs) := by show _ ≤ _; rw [hBs]; exact (grown_trans G1.out hg2).size
      clear hBs
      have B2 := hid_intro (B1.out.keptN hg2)
      have G2 := hid_intro (grown_trans G1.out hg2)
      clear hp2 hg2 B1 G1
      obtain ⟨N, hN⟩ : ∃ N, N = pg n := ⟨_, rfl⟩
      rw [← hN] at P2 ⊢
      have HNP := hid_intro hN
      have HPI := hid_intro (pgI_nat n)
      rw [← hN] at HPI
      have hN65 : N ≤ 65 := by rw [hN]; exact pg_le n
      clear hN
      go_wp2_with fail
      refine (pages_any _ _).mono ?_
      rw [HPI.out]
      rintro en w2 ⟨rfl, rfl⟩
      by_cases h0 : N = 0
      · subst h0
        have hz : n ≤ 512 ∨ 262144 < n := by
          have := HNP.out
          unfold pg at this
          split at this
          · assumption
          · omega
        by_cases h5 : n ≤ 512
        · have h5' : (n : Int) ≤ 512 := by omega
          go_wp2
          go_ret
          exact ⟨by simp, G2.out⟩
        · have h5' : ¬ (n : Int) ≤ 512 := by omega
          have h6' : (262144 : Int) < (n : Int) := by omega
          go_wp2
          go_ret
          exact ⟨by simp, G2.out⟩
      · have h0' : ((N : Int) == 0) = false := by simp [h0]
        obtain ⟨G, hG⟩ : ∃ G, G = w1.heap.size := ⟨_, rfl⟩
        rw [← hG] at P2 ⊢
        have HG := hid_intro hG
        clear hG
        go_wp2
        go_loopw [7, 8, 9, 10, 11, 12, 13, 14] (fun out si _ _ _ _ _ _ wr => ∃ (i A : Nat), i ≤ N ∧ si = .int .i64 i ∧ wr.ownsRow Bs 5 1 out A ((zs.take (4085 * i)).map (Value.int .u8)) ∧ A ≤ 4085 * i ∧ Wp wr G N Bs zs ∧ w.grownBy wr none) (fun _ si _ _ _ _ _ _ _ => N - (intOf si).toNat)
        case atStart => exact ⟨0, 0, Nat.zero_le _, rfl, World.ownsRow_nil _ _ _ _, Nat.zero_le _, P2.out, G2.out⟩
        case round =>
          obtain ⟨i, A, hi, rfl, ho, hA, hp, hg⟩ := hrel
          have HA := hid_intro hA
          have OI := hid_intro ho
          have PI := hid_intro hp
          have GI := hid_intro hg
          obtain ⟨so, sc, hv0, hb0⟩ := owns_any ho
          subst hv0
          have AB := hid_intro hb0
          clear ho hp hg hb0
          by_cases hlt : i < N
          · clear AB
            have hAm : A ≤ 300000 := by omega
            by_cases hla : i + 1 < N
            · have hla' : ((i : Int) == (N : Int) - 1) = false := by simp; omega
              have hla2 : ¬ (i : Int) = (N : Int) - 1 := by omega
              have HTY : Hid ((((2 : Int).toNat : Nat) : Int) = 2) := by show _ = _; rfl
              have HE := hid_intro (eok_mid hl HIY.out (HNP.out ▸ hla))
              have HLN := hid_intro (pc_len zs i)
              have HPB := hid_intro (pc_bt HBT.out i)
              have HTK := hid_intro (pc_take zs i)
              obtain ⟨ao', hc', hz'⟩ : ∃ g, wr.cell? ⟨G, i, none⟩ = some (.slice (some ⟨g, 0, none⟩) (pc zs i).length (pc zs i).length) ∧ Rw wr g (pc zs i) := PI.out.at i hlt
              have c0 := hc'
              have R0 := hid_intro hz'
              clear hc' hz'
              have hpl : (pc zs i).length ≤ 4085 := by rw [HLN.out]; omega
              have hpp : 0 < (pc zs i).length := by rw [HLN.out, hl]; have := (pg_in (HNP.out ▸ hlt)).2.2; omega
              obtain ⟨L, hL⟩ : ∃ L, L = (pc zs i).length := ⟨_, rfl⟩
              have HL := hid_intro hL
              rw [← hL] at c0 hpl hpp HE
              clear hL
              go_wp2_with fail
              refine (encodeData_any 2 _ L L (pc zs i) _ (R0.out.all L L HL.out) (by omega)).mono ?_
              rw [HE.out]
              rintro en w2 ⟨bo, m, rfl, hb2, hx2, hg2⟩
              rw [oD_yes (by rw [← HL.out]; exact HE.out)] at hb2
              have P2 := hid_intro (PI.out.keptN hg2)
              have G2 := hid_intro (grown_trans GI.out hg2)
              have O2 := hid_intro (own_keptN OI.out hg2)
              have D2 := hid_intro hb2
              clear hx2 hb2 hg2 PI GI OI R0
              have BK := hid_intro (dD_dB (x := (2 : Int).toNat) (zs := pc zs i) (by rw [HTY.out, ← HL.out]; exact HE.out))
              go_wp2_with fail
              refine (decodeData_any bo m m _ _ D2.out (dB_bt HPB.out)).mono ?_
              rw [(v_yes BK.out.1).1, (v_yes BK.out.1).2.1, (v_yes BK.out.1).2.2, BK.out.2.1, BK.out.2.2, HTY.out]
              rintro en w3 ⟨do_, dm, rfl, hb3, hx3, hg3⟩
              obtain rfl : dm = L := by rw [← hb3.len]; exact HL.out.symm
              have P3 := hid_intro (P2.out.keptN hg3)
              have G3 := hid_intro (grown_trans G2.out hg3)
              have O3 := hid_intro (own_keptN O2.out hg3)
              have D3 := hid_intro hb3
              clear hx3 hb3 hg3 P2 G2 O2 D2 BK
              have hpp' : ((dm : Int) == 0) = false := by simp; omega
              go_wp2_with fail
              refine (num6_any _ _).mono ?_
              rintro en w3 ⟨rfl, rfl⟩
              go_wp2_with fail
              refine (num6_any _ _).mono ?_
              rintro en w3 ⟨rfl, rfl⟩
              go_wp2_with (at_builtin; refine wpList_append_byt rfl _ _ rfl Bs _ A (zs.take (4085 * i)) rfl O3.out do_ dm dm (pc zs i) rfl D3.out (by omega) P3.out.le ?_)
              intro v4 w4 h4 g4
              have P4 := hid_intro (P3.out.keptO g4 O3.out)
              have G4 := hid_intro (grown_own6 G3.out g4 O3.out HBS.out)
              have h4' : w4.ownsRow Bs 5 1 v4 (A + dm) ((zs.take (4085 * (i + 1))).map (Value.int .u8)) := by
                rw [← HTK.out, List.map_append, List.map_take]
                exact h4
              have O4 := hid_intro h4'
              obtain ⟨ao4, c4, hv4, _⟩ := owns_any h4'
              subst hv4
              clear h4 h4' g4 P3 G3 O3 D3
              go_wp2
              go_roundw
              case rel => exact ⟨i + 1, A + dm, by omega, by go_num, O4.out, by have := HA.out; omega, P4.out, G4.out⟩
              case measure => simp [intOf]; omega
            · have hla' : ((i : Int) == (N : Int) - 1) = true := by simp; omega
              have HTY : Hid ((((0 : Int).toNat : Nat) : Int) = 0) := rfl
              have HE := hid_intro (eok_last hl (HNP.out ▸ hlt))
              have HLN := hid_intro (pc_len zs i)
              have HPB := hid_intro (pc_bt HBT.out i)
              have HTK := hid_intro (pc_take zs i)
              obtain ⟨ao', hc', hz'⟩ : ∃ g, wr.cell? ⟨G, i, none⟩ = some (.slice (some ⟨g, 0, none⟩) (pc zs i).length (pc zs i).length) ∧ Rw wr g (pc zs i) := PI.out.at i hlt
              have c0 := hc'
              have R0 := hid_intro hz'
              clear hc' hz'
              have hpl : (pc zs i).length ≤ 4085 := by rw [HLN.out]; omega
              have hpp : 0 < (pc zs i).length := by rw [HLN.out, hl]; have := (pg_in (HNP.out ▸ hlt)).2.2; omega
              obtain ⟨L, hL⟩ : ∃ L, L = (pc zs i).length := ⟨_, rfl⟩
              have HL := hid_intro hL
              rw [← hL] at c0 hpl hpp HE
              clear hL
              go_wp2_with fail
              refine (encodeData_any 0 _ L L (pc zs i) _ (R0.out.all L L HL.out) (by omega)).mono ?_
              rw [HE.out]
              rintro en w2 ⟨bo, m, rfl, hb2, hx2, hg2⟩
              rw [oD_yes (by rw [← HL.out]; exact HE.out)] at hb2
              have P2 := hid_intro (PI.out.keptN hg2)
              have G2 := hid_intro (grown_trans GI.out hg2)
              have O2 := hid_intro (own_keptN OI.out hg2)
              have D2 := hid_intro hb2
              clear hx2 hb2 hg2 PI GI OI R0
              have BK := hid_intro (dD_dB (x := (0 : Int).toNat) (zs := pc zs i) (by rw [HTY.out, ← HL.out]; exact HE.out))
              go_wp2_with fail
              refine (decodeData_any bo m m _ _ D2.out (dB_bt HPB.out)).mono ?_
              rw [(v_yes BK.out.1).1, (v_yes BK.out.1).2.1, (v_yes BK.out.1).2.2, BK.out.2.1, BK.out.2.2, HTY.out]
              rintro en w3 ⟨do_, dm, rfl, hb3, hx3, hg3⟩
              obtain rfl : dm = L := by rw [← hb3.len]; exact HL.out.symm
              have P3 := hid_intro (P2.out.keptN hg3)
              have G3 := hid_intro (grown_trans G2.out hg3)
              have O3 := hid_intro (own_keptN O2.out hg3)
              have D3 := hid_intro hb3
              clear hx3 hb3 hg3 P2 G2 O2 D2 BK
              have hpp' : ((dm : Int) == 0) = false := by simp; omega
              go_wp2_with fail
              refine (num6_any _ _).mono ?_
              rintro en w3 ⟨rfl, rfl⟩
              go_wp2_with fail
              refine (num6_any _ _).mono ?_
              rintro en w3 ⟨rfl, rfl⟩
              go_wp2_with (at_builtin; refine wpList_append_byt rfl _ _ rfl Bs _ A (zs.take (4085 * i)) rfl O3.out do_ dm dm (pc zs i) rfl D3.out (by omega) P3.out.le ?_)
              intro v4 w4 h4 g4
              have P4 := hid_intro (P3.out.keptO g4 O3.out)
              have G4 := hid_intro (grown_own6 G3.out g4 O3.out HBS.out)
              have h4' : w4.ownsRow Bs 5 1 v4 (A + dm) ((zs.take (4085 * (i + 1))).map (Value.int .u8)) := by
                rw [← HTK.out, List.map_append, List.map_take]
                exact h4
              have O4 := hid_intro h4'
              obtain ⟨ao4, c4, hv4, _⟩ := owns_any h4'
              subst hv4
              clear h4 h4' g4 P3 G3 O3 D3
              go_wp2
              go_roundw
              case rel => exact ⟨i + 1, A + dm, by omega, by go_num, O4.out, by have := HA.out; omega, P4.out, G4.out⟩
              case measure => simp [intOf]; omega
          · have hin : i = N := by omega
            subst hin
            have HBB := hid_intro (HB.out.keptN GI.out)
            have HALL : Hid (zs.take (4085 * i) = zs) := List.take_of_length_le (by rw [hl]; have := pg_last (n := n) (by rw [← HNP.out]; exact h0); rw [← HNP.out] at this; exact this)
            go_wp2_with fail
            refine (same_yes _ _ _ _ _ _ _ _ _ AB.out HBB.out HALL.out).mono ?_
            rintro en w5 ⟨rfl, rfl⟩
            go_wp2
            go_ret
            exact ⟨rfl, GI.out⟩
    · by_cases h3 : 524286 < x
      · have HIY : Hid (inR 2 = true) := rfl
        go_wp2_with fail
        refine (pieces_any ao n cap zs _ B1.out hc).mono ?_
        rintro en w2 ⟨rfl, hp2, hg2⟩
        have P2 := hid_intro (Wp.of_pr hp2)
        obtain ⟨Bs, hBs⟩ : ∃ Bs, Bs = w2.heap.size := ⟨_, rfl⟩
        rw [← hBs] at P2
        have HBS : Hid (w.heap.size ≤ Bs) := by show _ ≤ _; rw [hBs]; exact (grown_trans G1.out hg2).size
        clear hBs
        have B2 := hid_intro (B1.out.keptN hg2)
        have G2 := hid_intro (grown_trans G1.out hg2)
        clear hp2 hg2 B1 G1
        obtain ⟨N, hN⟩ : ∃ N, N = pg n := ⟨_, rfl⟩
        rw [← hN] at P2 ⊢
        have HNP := hid_intro hN
        have HPI := hid_intro (pgI_nat n)
        rw [← hN] at HPI
        have hN65 : N ≤ 65 := by rw [hN]; exact pg_le n
        clear hN
        go_wp2_with fail
        refine (pages_any _ _).mono ?_
        rw [HPI.out]
        rintro en w2 ⟨rfl, rfl⟩
        by_cases h0 : N = 0
        · subst h0
          have hz : n ≤ 512 ∨ 262144 < n := by
            have := HNP.out
            unfold pg at this
            split at this
            · assumption
            · omega
          by_cases h5 : n ≤ 512
          · have h5' : (n : Int) ≤ 512 := by omega
            go_wp2
            go_ret
            exact ⟨by simp, G2.out⟩
          · have h5' : ¬ (n : Int) ≤ 512 := by omega
            have h6' : (262144 : Int) < (n : Int) := by omega
            go_wp2
            go_ret
            exact ⟨by simp, G2.out⟩
        · have h0' : ((N : Int) == 0) = false := by simp [h0]
          obtain ⟨G, hG⟩ : ∃ G, G = w1.heap.size := ⟨_, rfl⟩
          rw [← hG] at P2 ⊢
          have HG := hid_intro hG
          clear hG
          go_wp2
          go_loopw [7, 8, 9, 10, 11, 12, 13, 14] (fun out si _ _ _ _ _ _ wr => ∃ (i A : Nat), i ≤ N ∧ si = .int .i64 i ∧ wr.ownsRow Bs 5 1 out A ((zs.take (4085 * i)).map (Value.int .u8)) ∧ A ≤ 4085 * i ∧ Wp wr G N Bs zs ∧ w.grownBy wr none) (fun _ si _ _ _ _ _ _ _ => N - (intOf si).toNat)
          case atStart => exact ⟨0, 0, Nat.zero_le _, rfl, World.ownsRow_nil _ _ _ _, Nat.zero_le _, P2.out, G2.out⟩
          case round =>
            obtain ⟨i, A, hi, rfl, ho, hA, hp, hg⟩ := hrel
            have HA := hid_intro hA
            have OI := hid_intro ho
            have PI := hid_intro hp
            have GI := hid_intro hg
            obtain ⟨so, sc, hv0, hb0⟩ := owns_any ho
            subst hv0
            have AB := hid_intro hb0
            clear ho hp hg hb0
            by_cases hlt : i < N
            · clear AB
              have hAm : A ≤ 300000 := by omega
              by_cases hla : i + 1 < N
              · have hla' : ((i : Int) == (N : Int) - 1) = false := by simp; omega
                have hla2 : ¬ (i : Int) = (N : Int) - 1 := by omega
                have HTY : Hid ((((2 : Int).toNat : Nat) : Int) = 2) := by show _ = _; rfl
                have HE := hid_intro (eok_mid hl HIY.out (HNP.out ▸ hla))
                have HLN := hid_intro (pc_len zs i)
                have HPB := hid_intro (pc_bt HBT.out i)
                have HTK := hid_intro (pc_take zs i)
                obtain ⟨ao', hc', hz'⟩ : ∃ g, wr.cell? ⟨G, i, none⟩ = some (.slice (some ⟨g, 0, none⟩) (pc zs i).length (pc zs i).length) ∧ Rw wr g (pc zs i) := PI.out.at i hlt
                have c0 := hc'
                have R0 := hid_intro hz'
                clear hc' hz'
                have hpl : (pc zs i).length ≤ 4085 := by rw [HLN.out]; omega
                have hpp : 0 < (pc zs i).length := by rw [HLN.out, hl]; have := (pg_in (HNP.out ▸ hlt)).2.2; omega
                obtain ⟨L, hL⟩ : ∃ L, L = (pc zs i).length := ⟨_, rfl⟩
                have HL := hid_intro hL
                rw [← hL] at c0 hpl hpp HE
                clear hL
                go_wp2_with fail
                refine (encodeData_any 2 _ L L (pc zs i) _ (R0.out.all L L HL.out) (by omega)).mono ?_
                rw [HE.out]
                rintro en w2 ⟨bo, m, rfl, hb2, hx2, hg2⟩
                rw [oD_yes (by rw [← HL.out]; exact HE.out)] at hb2
                have P2 := hid_intro (PI.out.keptN hg2)
                have G2 := hid_intro (grown_trans GI.out hg2)
                have O2 := hid_intro (own_keptN OI.out hg2)
                have D2 := hid_intro hb2
                clear hx2 hb2 hg2 PI GI OI R0
                have BK := hid_intro (dD_dB (x := (2 : Int).toNat) (zs := pc zs i) (by rw [HTY.out, ← HL.out]; exact HE.out))
                go_wp2_with fail
                refine (decodeData_any bo m m _ _ D2.out (dB_bt HPB.out)).mono ?_
                rw [(v_yes BK.out.1).1, (v_yes BK.out.1).2.1, (v_yes BK.out.1).2.2, BK.out.2.1, BK.out.2.2, HTY.out]
                rintro en w3 ⟨do_, dm, rfl, hb3, hx3, hg3⟩
                obtain rfl : dm = L := by rw [← hb3.len]; exact HL.out.symm
                have P3 := hid_intro (P2.out.keptN hg3)
                have G3 := hid_intro (grown_trans G2.out hg3)
                have O3 := hid_intro (own_keptN O2.out hg3)
                have D3 := hid_intro hb3
                clear hx3 hb3 hg3 P2 G2 O2 D2 BK
                have hpp' : ((dm : Int) == 0) = false := by simp; omega
                go_wp2_with fail
                refine (num6_any _ _).mono ?_
                rintro en w3 ⟨rfl, rfl⟩
                go_wp2_with fail
                refine (num6_any _ _).mono ?_
                rintro en w3 ⟨rfl, rfl⟩
                go_wp2_with (at_builtin; refine wpList_append_byt rfl _ _ rfl Bs _ A (zs.take (4085 * i)) rfl O3.out do_ dm dm (pc zs i) rfl D3.out (by omega) P3.out.le ?_)
                intro v4 w4 h4 g4
                have P4 := hid_intro (P3.out.keptO g4 O3.out)
                have G4 := hid_intro (grown_own6 G3.out g4 O3.out HBS.out)
                have h4' : w4.ownsRow Bs 5 1 v4 (A + dm) ((zs.take (4085 * (i + 1))).map (Value.int .u8)) := by
                  rw [← HTK.out, List.map_append, List.map_take]
                  exact h4
                have O4 := hid_intro h4'
                obtain ⟨ao4, c4, hv4, _⟩ := owns_any h4'
                subst hv4
                clear h4 h4' g4 P3 G3 O3 D3
                go_wp2
                go_roundw
                case rel => exact ⟨i + 1, A + dm, by omega, by go_num, O4.out, by have := HA.out; omega, P4.out, G4.out⟩
                case measure => simp [intOf]; omega
              · have hla' : ((i : Int) == (N : Int) - 1) = true := by simp; omega
                have HTY : Hid ((((0 : Int).toNat : Nat) : Int) = 0) := rfl
                have HE := hid_intro (eok_last hl (HNP.out ▸ hlt))
                have HLN := hid_intro (pc_len zs i)
                have HPB := hid_intro (pc_bt HBT.out i)
                have HTK := hid_intro (pc_take zs i)
                obtain ⟨ao', hc', hz'⟩ : ∃ g, wr.cell? ⟨G, i, none⟩ = some (.slice (some ⟨g, 0, none⟩) (pc zs i).length (pc zs i).length) ∧ Rw wr g (pc zs i) := PI.out.at i hlt
                have c0 := hc'
                have R0 := hid_intro hz'
                clear hc' hz'
                have hpl : (pc zs i).length ≤ 4085 := by rw [HLN.out]; omega
                have hpp : 0 < (pc zs i).length := by rw [HLN.out, hl]; have := (pg_in (HNP.out ▸ hlt)).2.2; omega
                obtain ⟨L, hL⟩ : ∃ L, L = (pc zs i).length := ⟨_, rfl⟩
                have HL := hid_intro hL
                rw [← hL] at c0 hpl hpp HE
                clear hL
                go_wp2_with fail
                refine (encodeData_any 0 _ L L (pc zs i) _ (R0.out.all L L HL.out) (by omega)).mono ?_
                rw [HE.out]
                rintro en w2 ⟨bo, m, rfl, hb2, hx2, hg2⟩
                rw [oD_yes (by rw [← HL.out]; exact HE.out)] at hb2
                have P2 := hid_intro (PI.out.keptN hg2)
                have G2 := hid_intro (grown_trans GI.out hg2)
                have O2 := hid_intro (own_keptN OI.out hg2)
                have D2 := hid_intro hb2
                clear hx2 hb2 hg2 PI GI OI R0
                have BK := hid_intro (dD_dB (x := (0 : Int).toNat) (zs := pc zs i) (by rw [HTY.out, ← HL.out]; exact HE.out))
                go_wp2_with fail
                refine (decodeData_any bo m m _ _ D2.out (dB_bt HPB.out)).mono ?_
                rw [(v_yes BK.out.1).1, (v_yes BK.out.1).2.1, (v_yes BK.out.1).2.2, BK.out.2.1, BK.out.2.2, HTY.out]
                rintro en w3 ⟨do_, dm, rfl, hb3, hx3, hg3⟩
                obtain rfl : dm = L := by rw [← hb3.len]; exact HL.out.symm
                have P3 := hid_intro (P2.out.keptN hg3)
                have G3 := hid_intro (grown_trans G2.out hg3)
                have O3 := hid_intro (own_keptN O2.out hg3)
                have D3 := hid_intro hb3
                clear hx3 hb3 hg3 P2 G2 O2 D2 BK
                have hpp' : ((dm : Int) == 0) = false := by simp; omega
                go_wp2_with fail
                refine (num6_any _ _).mono ?_
                rintro en w3 ⟨rfl, rfl⟩
                go_wp2_with fail
                refine (num6_any _ _).mono ?_
                rintro en w3 ⟨rfl, rfl⟩
                go_wp2_with (at_builtin; refine wpList_append_byt rfl _ _ rfl Bs _ A (zs.take (4085 * i)) rfl O3.out do_ dm dm (pc zs i) rfl D3.out (by omega) P3.out.le ?_)
                intro v4 w4 h4 g4
                have P4 := hid_intro (P3.out.keptO g4 O3.out)
                have G4 := hid_intro (grown_own6 G3.out g4 O3.out HBS.out)
                have h4' : w4.ownsRow Bs 5 1 v4 (A + dm) ((zs.take (4085 * (i + 1))).map (Value.int .u8)) := by
                  rw [← HTK.out, List.map_append, List.map_take]
                  exact h4
                have O4 := hid_intro h4'
                obtain ⟨ao4, c4, hv4, _⟩ := owns_any h4'
                subst hv4
                clear h4 h4' g4 P3 G3 O3 D3
                go_wp2
                go_roundw
                case rel => exact ⟨i + 1, A + dm, by omega, by go_num, O4.out, by have := HA.out; omega, P4.out, G4.out⟩
                case measure => simp [intOf]; omega
            · have hin : i = N := by omega
              subst hin
              have HBB := hid_intro (HB.out.keptN GI.out)
              have HALL : Hid (zs.take (4085 * i) = zs) := List.take_of_length_le (by rw [hl]; have := pg_last (n := n) (by rw [← HNP.out]; exact h0); rw [← HNP.out] at this; exact this)
              go_wp2_with fail
              refine (same_yes _ _ _ _ _ _ _ _ _ AB.out HBB.out HALL.out).mono ?_
              rintro en w5 ⟨rfl, rfl⟩
              go_wp2
              go_ret
              exact ⟨rfl, GI.out⟩
      · have HIY : Hid (inR x = true) := inR_iff.2 ⟨by omega, by omega⟩
        go_wp2_with fail
        refine (pieces_any ao n cap zs _ B1.out hc).mono ?_
        rintro en w2 ⟨rfl, hp2, hg2⟩
        have P2 := hid_intro (Wp.of_pr hp2)
        obtain ⟨Bs, hBs⟩ : ∃ Bs, Bs = w2.heap.size := ⟨_, rfl⟩
        rw [← hBs] at P2
        have HBS : Hid (w.heap.size ≤ Bs) := by show _ ≤ _; rw [hBs]; exact (grown_trans G1.out hg2).size
        clear hBs
        have B2 := hid_intro (B1.out.keptN hg2)
        have G2 := hid_intro (grown_trans G1.out hg2)
        clear hp2 hg2 B1 G1
        obtain ⟨N, hN⟩ : ∃ N, N = pg n := ⟨_, rfl⟩
        rw [← hN] at P2 ⊢
        have HNP := hid_intro hN
        have HPI := hid_intro (pgI_nat n)
        rw [← hN] at HPI
        have hN65 : N ≤ 65 := by rw [hN]; exact pg_le n
        clear hN
        go_wp2_with fail
        refine (pages_any _ _).mono ?_
        rw [HPI.out]
        rintro en w2 ⟨rfl, rfl⟩
        by_cases h0 : N = 0
        · subst h0
          have hz : n ≤ 512 ∨ 262144 < n := by
            have := HNP.out
            unfold pg at this
            split at this
            · assumption
            · omega
          by_cases h5 : n ≤ 512
          · have h5' : (n : Int) ≤ 512 := by omega
            go_wp2
            go_ret
            exact ⟨by simp, G2.out⟩
          · have h5' : ¬ (n : Int) ≤ 512 := by omega
            have h6' : (262144 : Int) < (n : Int) := by omega
            go_wp2
            go_ret
            exact ⟨by simp, G2.out⟩
        · have h0' : ((N : Int) == 0) = false := by simp [h0]
          obtain ⟨G, hG⟩ : ∃ G, G = w1.heap.size := ⟨_, rfl⟩
          rw [← hG] at P2 ⊢
          have HG := hid_intro hG
          clear hG
          go_wp2
          go_loopw [7, 8, 9, 10, 11, 12, 13, 14] (fun out si _ _ _ _ _ _ wr => ∃ (i A : Nat), i ≤ N ∧ si = .int .i64 i ∧ wr.ownsRow Bs 5 1 out A ((zs.take (4085 * i)).map (Value.int .u8)) ∧ A ≤ 4085 * i ∧ Wp wr G N Bs zs ∧ w.grownBy wr none) (fun _ si _ _ _ _ _ _ _ => N - (intOf si).toNat)
          case atStart => exact ⟨0, 0, Nat.zero_le _, rfl, World.ownsRow_nil _ _ _ _, Nat.zero_le _, P2.out, G2.out⟩
          case round =>
            obtain ⟨i, A, hi, rfl, ho, hA, hp, hg⟩ := hrel
            have HA := hid_intro hA
            have OI := hid_intro ho
            have PI := hid_intro hp
            have GI := hid_intro hg
            obtain ⟨so, sc, hv0, hb0⟩ := owns_any ho
            subst hv0
            have AB := hid_intro hb0
            clear ho hp hg hb0
            by_cases hlt : i < N
            · clear AB
              have hAm : A ≤ 300000 := by omega
              by_cases hla : i + 1 < N
              · have hla' : ((i : Int) == (N : Int) - 1) = false := by simp; omega
                have hla2 : ¬ (i : Int) = (N : Int) - 1 := by omega
                have HTY : Hid ((((x : Int).toNat : Nat) : Int) = x) := by show _ = _; omega
                have HE := hid_intro (eok_mid hl HIY.out (HNP.out ▸ hla))
                have HLN := hid_intro (pc_len zs i)
                have HPB := hid_intro (pc_bt HBT.out i)
                have HTK := hid_intro (pc_take zs i)
                obtain ⟨ao', hc', hz'⟩ : ∃ g, wr.cell? ⟨G, i, none⟩ = some (.slice (some ⟨g, 0, none⟩) (pc zs i).length (pc zs i).length) ∧ Rw wr g (pc zs i) := PI.out.at i hlt
                have c0 := hc'
                have R0 := hid_intro hz'
                clear hc' hz'
                have hpl : (pc zs i).length ≤ 4085 := by rw [HLN.out]; omega
                have hpp : 0 < (pc zs i).length := by rw [HLN.out, hl]; have := (pg_in (HNP.out ▸ hlt)).2.2; omega
                obtain ⟨L, hL⟩ : ∃ L, L = (pc zs i).length := ⟨_, rfl⟩
                have HL := hid_intro hL
                rw [← hL] at c0 hpl hpp HE
                clear hL
                go_wp2_with fail
                refine (encodeData_any x _ L L (pc zs i) _ (R0.out.all L L HL.out) (by omega)).mono ?_
                rw [HE.out]
                rintro en w2 ⟨bo, m, rfl, hb2, hx2, hg2⟩
                rw [oD_yes (by rw [← HL.out]; exact HE.out)] at hb2
                have P2 := hid_intro (PI.out.keptN hg2)
                have G2 := hid_intro (grown_trans GI.out hg2)
                have O2 := hid_intro (own_keptN OI.out hg2)
                have D2 := hid_intro hb2
                clear hx2 hb2 hg2 PI GI OI R0
                have BK := hid_intro (dD_dB (x := (x : Int).toNat) (zs := pc zs i) (by rw [HTY.out, ← HL.out]; exact HE.out))
                go_wp2_with fail
                refine (decodeData_any bo m m _ _ D2.out (dB_bt HPB.out)).mono ?_
                rw [(v_yes BK.out.1).1, (v_yes BK.out.1).2.1, (v_yes BK.out.1).2.2, BK.out.2.1, BK.out.2.2, HTY.out]
                rintro en w3 ⟨do_, dm, rfl, hb3, hx3, hg3⟩
                obtain rfl : dm = L := by rw [← hb3.len]; exact HL.out.symm
                have P3 := hid_intro (P2.out.keptN hg3)
                have G3 := hid_intro (grown_trans G2.out hg3)
                have O3 := hid_intro (own_keptN O2.out hg3)
                have D3 := hid_intro hb3
                clear hx3 hb3 hg3 P2 G2 O2 D2 BK
                have hpp' : ((dm : Int) == 0) = false := by simp; omega
                go_wp2_with fail
                refine (num6_any _ _).mono ?_
                rintro en w3 ⟨rfl, rfl⟩
                go_wp2_with fail
                refine (num6_any _ _).mono ?_
                rintro en w3 ⟨rfl, rfl⟩
                go_wp2_with (at_builtin; refine wpList_append_byt rfl _ _ rfl Bs _ A (zs.take (4085 * i)) rfl O3.out do_ dm dm (pc zs i) rfl D3.out (by omega) P3.out.le ?_)
                intro v4 w4 h4 g4
                have P4 := hid_intro (P3.out.keptO g4 O3.out)
                have G4 := hid_intro (grown_own6 G3.out g4 O3.out HBS.out)
                have h4' : w4.ownsRow Bs 5 1 v4 (A + dm) ((zs.take (4085 * (i + 1))).map (Value.int .u8)) := by
                  rw [← HTK.out, List.map_append, List.map_take]
                  exact h4
                have O4 := hid_intro h4'
                obtain ⟨ao4, c4, hv4, _⟩ := owns_any h4'
                subst hv4
                clear h4 h4' g4 P3 G3 O3 D3
                go_wp2
                go_roundw
                case rel => exact ⟨i + 1, A + dm, by omega, by go_num, O4.out, by have := HA.out; omega, P4.out, G4.out⟩
                case measure => simp [intOf]; omega
              · have hla' : ((i : Int) == (N : Int) - 1) = true := by simp; omega
                have HTY : Hid ((((0 : Int).toNat : Nat) : Int) = 0) := rfl
                have HE := hid_intro (eok_last hl (HNP.out ▸ hlt))
                have HLN := hid_intro (pc_len zs i)
                have HPB := hid_intro (pc_bt HBT.out i)
                have HTK := hid_intro (pc_take zs i)
                obtain ⟨ao', hc', hz'⟩ : ∃ g, wr.cell? ⟨G, i, none⟩ = some (.slice (some ⟨g, 0, none⟩) (pc zs i).length (pc zs i).length) ∧ Rw wr g (pc zs i) := PI.out.at i hlt
                have c0 := hc'
                have R0 := hid_intro hz'
                clear hc' hz'
                have hpl : (pc zs i).length ≤ 4085 := by rw [HLN.out]; omega
                have hpp : 0 < (pc zs i).length := by rw [HLN.out, hl]; have := (pg_in (HNP.out ▸ hlt)).2.2; omega
                obtain ⟨L, hL⟩ : ∃ L, L = (pc zs i).length := ⟨_, rfl⟩
                have HL := hid_intro hL
                rw [← hL] at c0 hpl hpp HE
                clear hL
                go_wp2_with fail
                refine (encodeData_any 0 _ L L (pc zs i) _ (R0.out.all L L HL.out) (by omega)).mono ?_
                rw [HE.out]
                rintro en w2 ⟨bo, m, rfl, hb2, hx2, hg2⟩
                rw [oD_yes (by rw [← HL.out]; exact HE.out)] at hb2
                have P2 := hid_intro (PI.out.keptN hg2)
                have G2 := hid_intro (grown_trans GI.out hg2)
                have O2 := hid_intro (own_keptN OI.out hg2)
                have D2 := hid_intro hb2
                clear hx2 hb2 hg2 PI GI OI R0
                have BK := hid_intro (dD_dB (x := (0 : Int).toNat) (zs := pc zs i) (by rw [HTY.out, ← HL.out]; exact HE.out))
                go_wp2_with fail
                refine (decodeData_any bo m m _ _ D2.out (dB_bt HPB.out)).mono ?_
                rw [(v_yes BK.out.1).1, (v_yes BK.out.1).2.1, (v_yes BK.out.1).2.2, BK.out.2.1, BK.out.2.2, HTY.out]
                rintro en w3 ⟨do_, dm, rfl, hb3, hx3, hg3⟩
                obtain rfl : dm = L := by rw [← hb3.len]; exact HL.out.symm
                have P3 := hid_intro (P2.out.keptN hg3)
                have G3 := hid_intro (grown_trans G2.out hg3)
                have O3 := hid_intro (own_keptN O2.out hg3)
                have D3 := hid_intro hb3
                clear hx3 hb3 hg3 P2 G2 O2 D2 BK
                have hpp' : ((dm : Int) == 0) = false := by simp; omega
                go_wp2_with fail
                refine (num6_any _ _).mono ?_
                rintro en w3 ⟨rfl, rfl⟩
                go_wp2_with fail
                refine (num6_any _ _).mono ?_
                rintro en w3 ⟨rfl, rfl⟩
                go_wp2_with (at_builtin; refine wpList_append_byt rfl _ _ rfl Bs _ A (zs.take (4085 * i)) rfl O3.out do_ dm dm (pc zs i) rfl D3.out (by omega) P3.out.le ?_)
                intro v4 w4 h4 g4
                have P4 := hid_intro (P3.out.keptO g4 O3.out)
                have G4 := hid_intro (grown_own6 G3.out g4 O3.out HBS.out)
                have h4' : w4.ownsRow Bs 5 1 v4 (A + dm) ((zs.take (4085 * (i + 1))).map (Value.int .u8)) := by
                  rw [← HTK.out, List.map_append, List.map_take]
                  exact h4
                have O4 := hid_intro h4'
                obtain ⟨ao4, c4, hv4, _⟩ := owns_any h4'
                subst hv4
                clear h4 h4' g4 P3 G3 O3 D3
                go_wp2
                go_roundw
                case rel => exact ⟨i + 1, A + dm, by omega, by go_num, O4.out, by have := HA.out; omega, P4.out, G4.out⟩
                case measure => simp [intOf]; omega
            · have hin : i = N := by omega
              subst hin
              have HBB := hid_intro (HB.out.keptN GI.out)
              have HALL : Hid (zs.take (4085 * i) = zs) := List.take_of_length_le (by rw [hl]; have := pg_last (n := n) (by rw [← HNP.out]; exact h0); rw [← HNP.out] at this; exact this)
              go_wp2_with fail
              refine (same_yes _ _ _ _ _ _ _ _ _ AB.out HBB.out HALL.out).mono ?_
              rintro en w5 ⟨rfl, rfl⟩
              go_wp2
              go_ret
              exact ⟨rfl, GI.out⟩
end Go.Proofs.Ytmdljegaggjnhaa
