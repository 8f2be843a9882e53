import Derived.Test.YtmdljegaggjnhaaCh6
import Derived.Deep.CutBlock
namespace Go.Proofs.Ytmdljegaggjnhaa
open Go.RowKit

set_option maxHeartbeats 1000000 in
set_option maxRecDepth 100000 in
theorem number_any (x d : Nat) (w : World) (hd : d ≤ 4) :
    Calls Try.prog 38 #[.int .i64 x, .int .i64 d] w fun e w' => ∃ ao c, e = .returned (.slice ao d c) ∧ Byt w' ao d c (lb d x) ∧ w.grownBy w' none := by
  go_enter Try.func38, Try.ntmps38
  go_wp2
  go_loopw [5, 6] (fun out si wr => ∃ (k : Nat), k ≤ d ∧ si = .int .i64 k ∧ wr.ownsRow w.heap.size 5 1 out k ((lb k x).map (Value.int .u8)) ∧ w.grownBy wr none) (fun _ si _ => d - (intOf si).toNat)
  case atStart => exact ⟨0, by omega, rfl, World.ownsRow_nil _ _ _ _, World.grownBy.refl _ _⟩
  case round =>
    obtain ⟨k, hk, rfl, hown, hg⟩ := hrel
    by_cases hlt : k < d
    · go_wp2_with (at_builtin; refine wpList_append_byt rfl _ _ rfl w.heap.size _ k (lb k x) rfl (hown.alloc _) (some ⟨wr.heap.size, 0, none⟩) 1 1 [(x : Int) / 2 ^ (8 * k) % 256] rfl (Byt.lit wr 5 _ [(x : Int) / 2 ^ (8 * k) % 256] 1 rfl rfl) (by omega) (by have := hg.size; simp; omega) ?_)
      intro v' w1 h1 h2
      have hg2 := grown_own hg hown (Nat.le_refl _) h2
      have hown2 : w1.ownsRow w.heap.size 5 1 v' (k + 1) ((lb (k + 1) x).map (Value.int .u8)) := by
        rw [lb_snoc, List.map_append, ← shift_byte]
        simpa using h1
      clear h1 h2 hown
      go_wp2
      go_roundw
      case rel => exact ⟨k + 1, by omega, by go_num, hown2, hg2⟩
      case measure => simp [intOf]; omega
    · have hkd : k = d := by omega
      subst hkd
      obtain ⟨ao', cap', hv, hB⟩ := owns_any hown
      subst hv
      have HB := hid_intro hB
      have HG := hid_intro hg
      clear hB hown hg
      go_wp2
      go_ret
      exact ⟨_, _, rfl, HB.out, HG.out⟩

theorem number_at (X : Int) (x d : Nat) (w : World) (hX : X = (x : Int)) (hd : d ≤ 4) :
    Calls Try.prog 38 #[.int .i64 X, .int .i64 d] w fun e w' => ∃ ao c, e = .returned (.slice ao d c) ∧ Byt w' ao d c (lb d x) ∧ w.grownBy w' none := by
  subst hX
  exact number_any x d w hd

theorem le_zero (zs : List Int) : le 0 zs = 0 := by simp [le]
theorem le_rev {zs : List Int} {p k : Nat} (h : p < zs.length) : le (k + 1) (zs.drop p) = (zs.getD p 0).toNat + 256 * le k (zs.drop (p + 1)) := by
  rw [List.drop_eq_getElem_cons h]
  simp [le, List.getD, List.getElem?_eq_getElem h]

set_option maxHeartbeats 1000000 in
set_option maxRecDepth 100000 in
theorem read_any (ao : Option Addr) (n cap at_ k : Nat) (P : Int) (zs : List Int) (w : World) (hb : Byt w ao n cap zs) (hbt : Bt zs) (hk : at_ + k ≤ n) (hk4 : k ≤ 4) (hn : n ≤ 1000000) (hP : P = (at_ : Int)) :
    Calls Try.prog 43 #[.slice ao n cap, .int .i64 P, .int .i64 k] w fun e w' => e = .returned (.int .i64 (le k (zs.drop at_) : Nat)) ∧ w' = w := by
  subst hP
  have hl := hb.len
  have HB := hid_intro hb
  clear hb
  go_enter Try.func43, Try.ntmps43
  go_wp2
  go_loopw [7, 8] (fun sx si wr => ∃ j y : Nat, j ≤ k ∧ si = .int .i64 ((k : Int) - 1 - j) ∧ sx = .int .i64 y ∧ y = le j (zs.drop (at_ + (k - j))) ∧ wr = w) (fun _ si _ => (intOf si + 1).toNat)
  case atStart => exact ⟨0, 0, Nat.zero_le _, by simp, rfl, by rw [le_zero], rfl⟩
  case round =>
    obtain ⟨j, y, hj, rfl, rfl, hy, rfl⟩ := hrel
    have hy4 : y < 256 ^ j := by rw [hy]; exact le_lt j _ (hbt.drop _)
    have HY := hid_intro hy
    clear hy
    by_cases hlt : j < k
    · obtain ⟨b, off, rfl, _, hc⟩ := HB.out.at (by omega)
      have c0 := hc (at_ + (k - (j + 1))) (by omega)
      have hz := hbt.getD (at_ + (k - (j + 1)))
      have HX : Hid (le (j + 1) (zs.drop (at_ + (k - (j + 1)))) = (zs.getD (at_ + (k - (j + 1))) 0).toNat + 256 * y) := by
        show _ = _
        rw [le_rev (by omega), HY.out]
        have : at_ + (k - (j + 1)) + 1 = at_ + (k - j) := by omega
        rw [this]
      generalize zs.getD (at_ + (k - (j + 1))) 0 = z at *
      clear hc
      have hpow : 256 ^ j ≤ 16777216 := by
        have : j ≤ 3 := by omega
        exact Nat.le_trans (Nat.pow_le_pow_right (by omega) this) (by decide)
      obtain ⟨q, hq⟩ : ∃ q : Nat, at_ + (k - (j + 1)) = q := ⟨_, rfl⟩
      have HX0 := hid_intro hq
      rw [hq] at c0 HX
      have e1 : (at_ : Int) + ((k : Int) - 1 - (j : Int)) = (q : Int) := by omega
      have e2 : (0 : Int) ≤ (k : Int) - 1 - (j : Int) := by omega
      go_wp2
      go_roundw
      case rel =>
        refine ⟨j + 1, z.toNat + 256 * y, by omega, by congr 1; omega, by congr 1; omega, ?_, by trivial⟩
        rw [HX0.out]
        exact HX.out.symm
      case measure => simp [intOf]; omega
    · have hjk : j = k := by omega
      subst hjk
      rw [Nat.sub_self, Nat.add_zero] at HY
      go_wp2
      go_ret
      exact ⟨by rw [← HY.out]; rfl, rfl⟩

theorem own_keptN {w w' : World} {base n sz : Nat} {e : TypeId} {v : Value} {xs : List Value} (h : w.ownsRow base e sz v n xs) (hg : w.grownBy w' none) : w'.ownsRow base e sz v n xs :=
  h.kept hg (by cases v.ownBlock with | none => exact .inl rfl | some g => exact .inr (by simp))
theorem own_lt6 {w : World} {base n sz : Nat} {e : TypeId} {v : Value} {xs : List Value} (h : w.ownsRow base e sz v n xs) (g : Nat) (hv : v.ownBlock = some g) : base ≤ g := (h.lt g hv).1
theorem Byt.kept_own {w w' : World} {ao : Option Addr} {n c base m sz : Nat} {zs : List Int} {v : Value} {e : TypeId} {xs : List Value} (h : Byt w ao n c zs) (hg : w.grownBy w' v.ownBlock) (ho : w.ownsRow base e sz v m xs) (hlt : ∀ ad, ao = some ad → 0 < n → ad.block < base) : Byt w' ao n c zs :=
  h.kept hg (fun ad h1 h2 e1 => by have := hlt ad h1 h2; have := own_lt6 ho ad.block e1.symm; omega)
theorem grown_own6 {a b c : World} {base n sz : Nat} {e : TypeId} {v : Value} {xs : List Value} (h : a.grownBy b none) (k : b.grownBy c v.ownBlock) (ho : b.ownsRow base e sz v n xs) (hb : a.heap.size ≤ base) : a.grownBy c none :=
  grown_ownN h k (fun g hg => Nat.le_trans hb (own_lt6 ho g hg))

set_option maxHeartbeats 1000000 in
set_option maxRecDepth 100000 in
theorem body_any (kd x n : Nat) (ro : Option Addr) (m rc : Nat) (zs : List Int) (w : World) (hb : Byt w ro m rc zs) (hm : m ≤ 4085) (hk : kd < 256) :
    Calls Try.prog 33 #[.int .i64 kd, .int .i64 x, .int .i64 n, .slice ro m rc] w fun e w' => ∃ ao c, e = .returned (.slice ao 4092 c) ∧ Byt w' ao 4092 c (hd kd x n ++ (zs ++ List.replicate (4085 - m) 0)) ∧ w.grownBy w' none := by
  have HB := hid_intro hb
  have hl := hb.len
  clear hb
  have hwk : IntKind.u8.wrap (kd : Int) = (kd : Int) := by simp [IntKind.wrap, IntKind.bits, IntKind.signed]; omega
  have HO : Hid ((w.alloc (.cells #[.int .u8 (kd : Int)] 5)).ownsRow w.heap.size 5 1 (.slice (some ⟨w.heap.size, 0, none⟩) 1 1) 1 ([(kd : Int)].map (Value.int .u8))) :=
    ⟨rfl, .inr ⟨w.heap.size, 1, #[.int .u8 (kd : Int)], rfl, Nat.le_refl _, heap_alloc_new w _, Nat.le_refl _, by decide, rfl, rfl⟩⟩
  have G1 := hid_intro (World.grownBy_alloc w (.cells #[.int .u8 (kd : Int)] 5) none)
  go_enter Try.func33, Try.ntmps33
  go_wp2_with fail
  generalize w.alloc (.cells #[.int .u8 (kd : Int)] 5) = w1 at *
  refine (number_any x 4 w1 (by omega)).mono ?_
  rintro en w2 ⟨a2, c2, rfl, hb2, hg2⟩
  have O2 := hid_intro (own_keptN HO.out hg2)
  have G2 := hid_intro (grown_trans G1.out hg2)
  have B2 := hid_intro hb2
  clear hg2 hb2 HO G1
  go_wp2_with (at_builtin; refine wpList_append_byt rfl _ _ rfl w.heap.size _ 1 [(kd : Int)] rfl O2.out a2 4 c2 (lb 4 x) rfl B2.out (by omega) G2.out.size ?_)
  intro v3 w3 h3 g3
  have G3 := hid_intro (grown_own6 G2.out g3 O2.out (Nat.le_refl _))
  have O3 := hid_intro h3
  clear h3 g3 O2 G2 B2
  go_wp2_with fail
  refine (number_any n 2 w3 (by omega)).mono ?_
  rintro en w4 ⟨a4, c4, rfl, hb4, hg4⟩
  have O4 := hid_intro (own_keptN O3.out hg4)
  have G4 := hid_intro (grown_trans G3.out hg4)
  have B4 := hid_intro hb4
  clear hg4 hb4 O3 G3
  go_wp2_with (at_builtin; refine wpList_append_byt rfl _ _ rfl w.heap.size _ 5 ([(kd : Int)] ++ lb 4 x) rfl O4.out a4 2 c4 (lb 2 n) rfl B4.out (by omega) G4.out.size ?_)
  intro v5 w5 h5 g5
  have G5 := hid_intro (grown_own6 G4.out g5 O4.out (Nat.le_refl _))
  have h5' : w5.ownsRow w.heap.size 5 1 v5 7 ((hd kd x n).map (Value.int .u8)) := by
    have e : hd kd x n = [(kd : Int)] ++ lb 4 x ++ lb 2 n := by simp [hd]
    rw [e]
    exact h5
  have O5 := hid_intro h5'
  have B5 := hid_intro (HB.out.keptN G5.out)
  clear h5 h5' g5 O4 G4 B4 HB
  go_wp2_with (at_builtin; refine wpList_append_byt rfl _ _ rfl w.heap.size _ 7 (hd kd x n) rfl O5.out ro m rc zs rfl B5.out (by omega) G5.out.size ?_)
  intro v6 w6 h6 g6
  have G6 := hid_intro (grown_own6 G5.out g6 O5.out (Nat.le_refl _))
  have h6' : w6.ownsRow w.heap.size 5 1 v6 (7 + m + 0) ((hd kd x n ++ (zs ++ List.replicate 0 0)).map (Value.int .u8)) := by
    rw [List.replicate_zero, List.append_nil]
    exact h6
  have O6 := hid_intro h6'
  clear h6 h6' g6 O5 G5 B5
  go_wp2
  go_loopw [9] (fun out wr => ∃ k : Nat, 7 + m + k ≤ 4092 ∧ wr.ownsRow w.heap.size 5 1 out (7 + m + k) ((hd kd x n ++ (zs ++ List.replicate k 0)).map (Value.int .u8)) ∧ w.grownBy wr none) (fun out _ => 4092 - (match out with | .slice _ l _ => l | _ => 0))
  case atStart => exact ⟨0, by omega, O6.out, G6.out⟩
  case round =>
    obtain ⟨k, hk', ho, hg⟩ := hrel
    obtain ⟨ao, c, hv, hB⟩ := owns_any ho
    subst hv
    by_cases hlt : 7 + m + k < 4092
    · have hg1 := World.grownBy_alloc wr (.cells #[.int .u8 0] 5) none
      have HBL := hid_intro (Byt.lit wr 5 _ [0] 1 rfl rfl)
      have O7 := hid_intro (ho.alloc (.cells #[.int .u8 0] 5))
      have G7 := hid_intro (grown_trans hg hg1)
      have HOO := hid_intro ho
      have HGG := hid_intro hg
      obtain ⟨N, hN⟩ : ∃ N, N = 7 + m + k := ⟨_, rfl⟩
      rw [← hN] at O7 hlt hB hk' HOO ⊢
      have HNN := hid_intro hN
      clear hg1 ho hg hB hN
      have hlt2 : (N : Int) < 4092 := by omega
      go_wp2_with (at_builtin; refine wpList_append_byt rfl _ _ rfl w.heap.size _ N (hd kd x n ++ (zs ++ List.replicate k 0)) rfl O7.out (some ⟨wr.heap.size, 0, none⟩) 1 1 [0] rfl HBL.out (by omega) G7.out.size ?_)
      intro v8 w8 h8 g8
      have hg8 := grown_own HGG.out HOO.out (Nat.le_refl _) g8
      have h8' : w8.ownsRow w.heap.size 5 1 v8 (N + 1) ((hd kd x n ++ (zs ++ List.replicate (k + 1) 0)).map (Value.int .u8)) := by
        rw [List.replicate_succ', List.map_append, List.map_append, List.map_append, List.map_replicate]
        exact h8
      have O8 := hid_intro h8'
      have G8 := hid_intro hg8
      obtain ⟨ao8, c8, hv8, _⟩ := owns_any h8'
      subst hv8
      clear h8 h8' g8 hg8 O7 G7 HBL
      go_wp2
      go_roundw
      case rel =>
        refine ⟨k + 1, by have := HNN.out; omega, ?_, G8.out⟩
        rw [← Nat.add_assoc, ← HNN.out]
        exact O8.out
      case measure => simp; omega
    · have hkk : k = 4085 - m := by omega
      have hN : 7 + m + k = 4092 := by omega
      rw [hN] at hB
      rw [hN]
      subst hkk
      have HBB := hid_intro hB
      have HGG := hid_intro hg
      clear hB ho hg hk' hN hlt
      go_wp2
      go_ret
      exact ⟨_, _, rfl, HBB.out, HGG.out⟩
theorem body_at (X : Int) (kd x n : Nat) (ro : Option Addr) (m rc : Nat) (zs : List Int) (w : World) (hX : X = (x : Int)) (hb : Byt w ro m rc zs) (hm : m ≤ 4085) (hk : kd < 256) :
    Calls Try.prog 33 #[.int .i64 kd, .int .i64 X, .int .i64 n, .slice ro m rc] w fun e w' => ∃ ao c, e = .returned (.slice ao 4092 c) ∧ Byt w' ao 4092 c (hd kd x n ++ (zs ++ List.replicate (4085 - m) 0)) ∧ w.grownBy w' none := by
  subst hX
  exact body_any kd x n ro m rc zs w hb hm hk
end Go.Proofs.Ytmdljegaggjnhaa
