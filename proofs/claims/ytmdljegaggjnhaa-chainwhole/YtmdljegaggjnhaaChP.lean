import Derived.Test.YtmdljegaggjnhaaChT
import Derived.Test.YtmdljegaggjnhaaChR4
namespace Go.Proofs.Ytmdljegaggjnhaa
open Go.RowKit

theorem info_bytes6 : (Try.prog.info? 22).map (fun i => (i.zero, i.size, i.bytes)) = some (some (.slice none 0 0), 1, 24) := by kernel_rfl

/-- The row G of n strings: the first i are the pieces, each in a block of its own. -/
structure Pr (w : World) (G n i base : Nat) (zs : List Int) : Prop where
  ex : ∃ cur : Array Value, w.heap[G]? = some (.cells cur 22 (0, 0)) ∧ cur.size = n ∧ ∀ j, j < i → ∃ g, cur[j]? = some (.slice (some ⟨g, 0, none⟩) (pc zs j).length (pc zs j).length) ∧ base ≤ g ∧ g ≠ G ∧ Rw w g (pc zs j)
theorem Pr.lt {w : World} {G n i base : Nat} {zs : List Int} (h : Pr w G n i base zs) : G < w.heap.size := by
  obtain ⟨cur, h1, _⟩ := h.ex
  exact (Array.getElem?_eq_some_iff.1 h1).1
theorem Pr.keptN {w w' : World} {G n i base : Nat} {zs : List Int} (h : Pr w G n i base zs) (hg : w.grownBy w' none) : Pr w' G n i base zs := by
  have hl := h.lt
  obtain ⟨cur, h1, h2, h3⟩ := h.ex
  refine ⟨cur, (hg.block G hl (by simp)).trans h1, h2, fun j hj => ?_⟩
  obtain ⟨g, k1, k2, k3, k4⟩ := h3 j hj
  exact ⟨g, k1, k2, k3, k4.keptN hg⟩
theorem Pr.frozen {w : World} {G n i base : Nat} {zs : List Int} (h : Pr w G n i base zs) (j : Nat) : w.frozen? ⟨G, j, none⟩ = false := by
  obtain ⟨cur, h1, _⟩ := h.ex
  exact frozen_of_row w G j _ _ h1
theorem Pr.cell {w : World} {G n i base : Nat} {zs : List Int} (h : Pr w G n i base zs) (j : Nat) (hj : j < n) : ∃ v, w.cell? ⟨G, j, none⟩ = some v := by
  obtain ⟨cur, h1, h2, _⟩ := h.ex
  exact ⟨cur[j]'(by omega), by rw [cell_of_row w G j _ _ _ h1]; exact Array.getElem?_eq_getElem (by omega)⟩
theorem Pr.set {w : World} {G n i base g k : Nat} {zs : List Int} (h : Pr w G n i base zs) (hi : i < n) (hk : (pc zs i).length = k) (hr : Rw w g (pc zs i)) (hg : g ≠ G) (hb : base ≤ g) :
    Pr (w.setCell ⟨G, i, none⟩ (.slice (some ⟨g, 0, none⟩) k k)) G n (i + 1) base zs := by
  subst hk
  obtain ⟨cur, h1, h2, h3⟩ := h.ex
  refine ⟨cur.setIfInBounds i _, heap_setCell_same w G i cur _ _ h1, by simpa using h2, fun j hj => ?_⟩
  by_cases e : i = j
  · subst e
    exact ⟨g, by simp [h2, hi], hb, hg, hr.kept (grown_cell w G i _) (fun e => hg (Option.some.inj e))⟩
  · obtain ⟨g', k1, k2, k3, k4⟩ := h3 j (by omega)
    exact ⟨g', by rw [Array.getElem?_setIfInBounds_ne e]; exact k1, k2, k3, k4.kept (grown_cell w G i _) (fun e => k3 (Option.some.inj e))⟩
theorem Pr.start {w : World} {base b G n : Nat} {xs : List Value} {zs : List Int} (h : w.ownsRow base 22 1 (.slice (some ⟨G, 0, none⟩) n n) n xs) : Pr w G n 0 b zs := by
  rcases h.2 with ⟨e, _⟩ | ⟨g', cap', cur, hv, hb, hg, hc, hm, hs, ht⟩
  · cases e
  · injection hv with e1 _ e3
    simp only [Option.some.injEq, Addr.mk.injEq] at e1
    obtain ⟨rfl, _⟩ := e1
    subst e3
    exact ⟨cur, hg, by simpa using hs, fun j hj => by omega⟩
theorem Pr.lz {w : World} {G n base : Nat} {zs : List Int} (h : Pr w G n n base zs) : Lz w (some ⟨G, 0, none⟩) (pcs zs n) := by
  obtain ⟨cur, h1, h2, h3⟩ := h.ex
  refine ⟨fun i hi => ?_⟩
  rw [pcs_len] at hi
  obtain ⟨g, k1, k2, k3, k4⟩ := h3 i hi
  refine ⟨G, 0, _, _, _, rfl, by rw [Nat.zero_add, cell_of_row w G i _ _ _ h1]; exact k1, ?_, Nat.le_refl _, ?_⟩
  · rw [pcs_get zs n i hi]; exact k4.all _ _ rfl
  · rw [pc_len]; omega
theorem byt_part {w : World} {ao : Option Addr} {n c : Nat} {zs : List Int} (h : Byt w ao n c zs) {b off : Nat} (e : ao = some ⟨b, off, none⟩) (p k c' : Nat) (hk : p + k ≤ n) : Byt w (some ⟨b, off + p, none⟩) k c' ((zs.drop p).take k) := by
  subst e
  have := (h.drop p c' (by omega)).take k c' (by omega) (fun e => by cases e)
  exact this

set_option maxHeartbeats 2000000 in
set_option maxRecDepth 100000 in
theorem pieces_any (ao : Option Addr) (n cap : Nat) (zs : List Int) (w : World) (hb : Byt w ao n cap zs) (hc : n ≤ cap ∧ cap ≤ 9223372036854775807) :
    Calls Try.prog 12 #[.slice ao n cap] w fun en w' => en = .returned (.slice (some ⟨w.heap.size, 0, none⟩) (pg n) (pg n)) ∧ Pr w' w.heap.size (pg n) (pg n) w.heap.size zs ∧ w.grownBy w' none := by
  obtain ⟨i0, hi, hz0, hz1, hz2⟩ := info_parts info_bytes6
  have hl := hb.len
  have HB := hid_intro hb
  clear hb
  have HPG := hid_intro (pgI_nat n)
  obtain ⟨N, hN⟩ : ∃ N, N = pg n := ⟨_, rfl⟩
  rw [← hN] at HPG ⊢
  have hN65 : N ≤ 65 := by rw [hN]; exact pg_le n
  have HIN : Hid (∀ i, i < N → 4085 * i < n ∧ n ≤ 262144) := fun i h => by rw [hN] at h; exact ⟨(pg_in h).2.2, (pg_in h).2.1⟩
  clear hN
  go_enter Try.func12, Try.ntmps12
  go_wp2_with fail
  refine (pages_any _ _).mono ?_
  rw [HPG.out]
  rintro en w ⟨rfl, rfl⟩
  go_wp2_with (at_make; refine wpList_make_full _ rfl _ _ 25 rfl w.heap.size 22 i0 (.slice none 0 0) 1 Try.underlying25 hi hz0 hz1 _ _ _ _ N rfl rfl rfl rfl ?b2 ?b3 (Nat.le_refl _) ?_)
  case b2 => rw [hz2]; omega
  case b3 => unfold maxLen; omega
  intro w1 hown hg1
  have P1 := hid_intro (Pr.start (b := w.heap.size) (zs := zs) hown)
  have G1 := hid_intro hg1
  clear hown hg1
  go_wp2
  go_loopw [4, 5, 12] (fun _ _ si wr => ∃ i : Nat, i ≤ N ∧ si = .int .i64 i ∧ Pr wr w.heap.size N i w.heap.size zs ∧ w.grownBy wr none) (fun _ _ si _ => N - (intOf si).toNat)
  case atStart => exact ⟨0, Nat.zero_le _, rfl, P1.out, G1.out⟩
  case round =>
    obtain ⟨i, hi', rfl, hp, hg⟩ := hrel
    have PI := hid_intro hp
    have GI := hid_intro hg
    clear hp hg P1 G1
    by_cases hlt : i < N
    · obtain ⟨hin, hbig⟩ := HIN.out i hlt
      obtain ⟨b, off, hao, _, _⟩ := HB.out.at (by omega)
      subst hao
      obtain ⟨k, hk⟩ : ∃ k, k = min 4085 (n - 4085 * i) := ⟨_, rfl⟩
      have HK : Hid ((pc zs i).length = k) := by show _ = _; rw [pc_len, hl, hk]
      have hk2 : k ≤ 4085 := by omega
      have hk3 : 4085 * i + k ≤ n := by omega
      have hk0 : 0 < k := by omega
      have HPC : Hid ((zs.drop (4085 * i)).take k = pc zs i) := by
        show _ = _
        unfold pc
        by_cases h : k = 4085
        · rw [h]
        · rw [List.take_of_length_le (by rw [List.length_drop]; omega), List.take_of_length_le (by rw [List.length_drop]; omega)]
      have hmin : ∀ (ts : Array TypeId) (ty : TypeId) (W : World), (Builtin.min_ ts ty #[.int .i64 4085, .int .i64 ((n : Int) - (i : Int) * 4085)]).run Try.prog W = .ok (.int .i64 (k : Int)) W := by
        intro ts ty W
        rw [run_min_int2, hk]
        congr 2
        split <;> omega
      clear hk
      have BI := hid_intro (HB.out.keptN GI.out)
      go_wp2_with fail
      refine (cut_at b off n cap (4085 * i) k _ _ (by omega) (by omega) (by omega)).mono ?_
      rintro en wr ⟨⟨q, rfl, hq⟩, rfl⟩
      have hq := hq hk0
      rw [hq]
      clear hq
      have CI : Hid (Byt wr (some ⟨b, off + 4085 * i, none⟩) k k (pc zs i)) := by
        have := byt_part BI.out rfl (4085 * i) k k (by omega)
        rw [HPC.out] at this
        exact this
      go_wp2_with fail
      refine (copyOf_any _ k k (pc zs i) _ CI.out (by omega)).mono ?_
      rintro en w3 ⟨rfl, hr3, hg3⟩
      have P3 := hid_intro (PI.out.keptN hg3)
      have G3 := hid_intro (grown_trans GI.out hg3)
      have R3 := hid_intro hr3
      have HPL := hid_intro PI.out.lt
      have HSZ := hid_intro GI.out.size
      clear hr3 hg3 PI GI BI CI
      have f2 := P3.out.frozen i
      obtain ⟨v2, e2⟩ := P3.out.cell i hlt
      go_wp2
      go_roundw
      case rel => exact ⟨i + 1, by omega, by go_num, P3.out.set hlt HK.out R3.out (by have := HPL.out; omega) HSZ.out, grown_new G3.out (grown_cell _ _ _ _) (Nat.le_refl _)⟩
      case measure => simp [intOf]; omega
    · have hin : i = N := by omega
      subst hin
      go_wp2
      go_ret
      exact ⟨rfl, PI.out, GI.out⟩

set_option maxHeartbeats 2000000 in
set_option maxRecDepth 100000 in
theorem refPieces_any (ao : Option Addr) (n cap : Nat) (zs : List Int) (w : World) (hb : Byt w ao n cap zs) (hc : n ≤ cap ∧ cap ≤ 9223372036854775807) :
    Calls Try.prog 13 #[.slice ao n cap] w fun en w' => ∃ a c, en = .returned (.slice a (pg n) c) ∧ Lz w' a (pcs zs (pg n)) ∧ w.grownBy w' none := by
  obtain ⟨i0, hi, hz0, hz1, hz2⟩ := info_parts info_bytes6
  have hl := hb.len
  have HB := hid_intro hb
  clear hb
  have HPG := hid_intro (pgI_nat n)
  obtain ⟨N, hN⟩ : ∃ N, N = pg n := ⟨_, rfl⟩
  rw [← hN] at HPG ⊢
  have hN65 : N ≤ 65 := by rw [hN]; exact pg_le n
  have HIN : Hid (∀ i, i < N → 4085 * i < n ∧ n ≤ 262144) := fun i h => by rw [hN] at h; exact ⟨(pg_in h).2.2, (pg_in h).2.1⟩
  clear hN
  go_enter Try.func13, Try.ntmps13
  go_wp2_with fail
  refine (refPages_any _ _).mono ?_
  rw [HPG.out]
  rintro en w ⟨rfl, rfl⟩
  go_wp2
  go_loopw [3, 5, 6, 7, 8] (fun out si _ _ _ wr => ∃ (i : Nat) (ys : List Value), i ≤ N ∧ si = .int .i64 i ∧ wr.ownsRow w.heap.size 22 1 out i ys ∧ Sx wr ys (pcs zs i) ∧ w.grownBy wr none) (fun _ si _ _ _ _ => N - (intOf si).toNat)
  case atStart => exact ⟨0, [], Nat.zero_le _, rfl, World.ownsRow_nil _ _ _ _, Sx.nil _, World.grownBy.refl _ _⟩
  case round =>
    obtain ⟨i, ys, hi', rfl, ho, hs, hg⟩ := hrel
    have OI := hid_intro ho
    have SI := hid_intro hs
    have GI := hid_intro hg
    obtain ⟨ro, rc, hv0, hlz, hln, _, _⟩ := hs.lz ho
    subst hv0
    clear ho hs hg
    by_cases hlt : i < N
    · clear hlz hln
      obtain ⟨hin, hbig⟩ := HIN.out i hlt
      obtain ⟨b, off, hao, _, _⟩ := HB.out.at (by omega)
      subst hao
      obtain ⟨k, hk⟩ : ∃ k, k = min 4085 (n - 4085 * i) := ⟨_, rfl⟩
      have HK : Hid ((pc zs i).length = k) := by show _ = _; rw [pc_len, hl, hk]
      have hk2 : k ≤ 4085 := by omega
      have hk3 : 4085 * i + k ≤ n := by omega
      have hk0 : 0 < k := by omega
      have HPC : Hid ((zs.drop (4085 * i)).take k = pc zs i) := by
        show _ = _
        unfold pc
        by_cases h : k = 4085
        · rw [h]
        · rw [List.take_of_length_le (by rw [List.length_drop]; omega), List.take_of_length_le (by rw [List.length_drop]; omega)]
      obtain ⟨T, hT⟩ : ∃ T, T = 4085 * i + k := ⟨_, rfl⟩
      have hmin : ∀ (ts : Array TypeId) (ty : TypeId) (W : World), (Builtin.min_ ts ty #[.int .i64 ((i : Int) * 4085 + 4085), .int .i64 (n : Int)]).run Try.prog W = .ok (.int .i64 (T : Int)) W := by
        intro ts ty W
        rw [run_min_int2, hT, hk]
        congr 2
        split <;> omega
      obtain ⟨F, hF⟩ : ∃ F : Nat, F = 4085 * i := ⟨_, rfl⟩
      rw [← hF] at hT HPC hin hk3
      have hF2 : (i : Int) * 4085 = (F : Int) := by omega
      rw [hF2] at hmin
      clear hk
      have BI := hid_intro (HB.out.keptN GI.out)
      have CI : Hid (Byt wr (some ⟨b, off + F, none⟩) k (cap - F) (pc zs i)) := by
        have := byt_part BI.out rfl F k (cap - F) (by omega)
        rw [HPC.out] at this
        exact this
      have hTF : F + k = T := by omega
      have HTF : Hid (T - F = k) := by show _ = _; omega
      have hTn : T ≤ n := by omega
      clear hT hF
      have HF2 := hid_intro hF2
      go_wp2_with fail
      rw [HTF.out]
      refine (refBytes_any _ k (cap - F) (pc zs i) _ CI.out (by omega)).mono ?_
      rintro en w3 ⟨rfl, ho3, hg3, _⟩
      have O3 := hid_intro (own_keptN OI.out hg3)
      have S3 := hid_intro (SI.out.keptN hg3)
      have G3 := hid_intro (grown_trans GI.out hg3)
      have X3 := hid_intro ho3
      have HPS := hid_intro (pcs_snoc zs i)
      clear ho3 hg3 OI SI GI BI CI
      go_wp2_with (at_builtin; refine wpList_append_own _ rfl _ _ 25 rfl w.heap.size 22 i0 (.slice none 0 0) 1 24 Try.underlying25 hi hz0 hz1 hz2 rfl (by decide) _ i ys rfl (O3.out.alloc _) ⟨w3.heap.size, 0, none⟩ 1 1 [.slice (some ⟨wr.heap.size, 0, none⟩) k k] rfl rfl (cell_one6 _ _ _) (by intro u hu; simp at hu; subst hu; rfl) (by unfold maxLen; omega) (by omega) (by have := G3.out.size; simp; omega) ?_)
      intro v4 w4 h4 g4 _
      have ga := World.grownBy_alloc w3 (.cells #[.slice (some ⟨wr.heap.size, 0, none⟩) k k] 22) none
      have O3' := own_keptN O3.out ga
      have S4 := hid_intro ((Sx.snoc (S3.out.keptN ga) (own_keptN X3.out ga) HK.out).kept g4 O3')
      have O4 := hid_intro h4
      have G4 := hid_intro (grown_ownN (grown_trans G3.out ga) g4 (fun g hg => own_lt6 O3.out g hg))
      clear h4 g4 ga O3' O3 S3 G3 X3
      go_wp2
      go_roundw
      case rel => exact ⟨i + 1, _, by omega, by go_num, O4.out, by rw [HPS.out]; exact S4.out, G4.out⟩
      case measure => simp [intOf]; omega
    · have hin : i = N := by omega
      subst hin
      have LZ := hid_intro hlz
      clear hlz OI SI
      go_wp2
      go_ret
      exact ⟨_, _, rfl, LZ.out, GI.out⟩
end Go.Proofs.Ytmdljegaggjnhaa
