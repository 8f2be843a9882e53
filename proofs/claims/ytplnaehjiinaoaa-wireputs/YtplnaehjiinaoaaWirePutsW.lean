import Derived.Test.YtplnaehjiinaoaaPuts
namespace Go.Proofs.Ytplnaehjiinaoaa
open Go.RowKit

set_option maxHeartbeats 400000 in
theorem wputs_long (ao : Option Addr) (n cap : Nat) (x : Nat) (w : World) (hn : (65536 : Int) < (n : Int)) :
    Calls Try.prog 3 #[.slice ao n cap, .int .u64 x] w fun e w' => e = .returned (.bool true) ∧ Below w.heap.size w w' := by
  go_enter Try.func3, Try.ntmps3
  go_wp2_with fail
  refine (first_any _).mono ?_
  rintro en w1 ⟨rfl, hg⟩
  have HG : Hid (w.grownBy w1 none) := hg
  clear hg
  go_wp2
  go_ret
  exact ⟨rfl, Below_of HG.out⟩

/-- Some bytes are owned at block g. -/
def SomeBytes (w : World) (base g n c : Nat) : Prop := ∃ ys : List Int, Bt ys ∧ w.ownsRow base 5 1 (.slice (some ⟨g, 0, none⟩) n c) n (ys.map (Value.int .u8))

theorem SomeBytes.stored {w : World} {base g n c : Nat} (h : SomeBytes w base g n c) (k : Nat) (v : Int) (hv : 0 ≤ v ∧ v ≤ 255) : SomeBytes (w.setCell ⟨g, k, none⟩ (.int .u8 v)) base g n c ∧ w.grownBy (w.setCell ⟨g, k, none⟩ (.int .u8 v)) (some g) := by
  obtain ⟨ys, hb, ho⟩ := h
  obtain ⟨h1, h2⟩ := ho.stored k (.int .u8 v)
  refine ⟨⟨ys.set k v, ?_, by rw [List.map_set]; exact h1⟩, h2⟩
  intro z hz
  rcases List.mem_or_eq_of_mem_set hz with h | h
  · exact hb z h
  · rw [h]; exact hv

theorem SomeBytes.at {w : World} {base g n c : Nat} (h : SomeBytes w base g n c) (k : Nat) (hk : k < n) : ∃ z, 0 ≤ z ∧ z ≤ 255 ∧ w.cell? ⟨g, k, none⟩ = some (.int .u8 z) ∧ w.frozen? ⟨g, k, none⟩ = false := by
  obtain ⟨ys, hb, ho⟩ := h
  have hl : ys.length = n := by have := ho.1; simpa using this
  refine ⟨ys.getD k 0, (hb.getD k).1, (hb.getD k).2, ?_, ho.frozenAt k⟩
  rw [ho.cellAt k (by omega)]
  have : k < ys.length := by omega
  simp [List.getD, List.getElem?_eq_getElem this]

theorem xor_byte (z : Int) (h0 : 0 ≤ z) (h1 : z ≤ 255) : 0 ≤ bits BinOp.xor IntKind.u8 z 85 ∧ bits BinOp.xor IntKind.u8 z 85 ≤ 255 := by
  have e := u8_xor z 85 h0 (by omega) (by omega) (by omega)
  have : z.toNat ^^^ (85 : Int).toNat < 2 ^ 8 := Nat.xor_lt_two_pow (by omega) (by decide)
  rw [e]; omega

set_option maxHeartbeats 2000000 in
set_option maxRecDepth 100000 in
theorem wputs_short (ao : Option Addr) (n cap : Nat) (zs : List Int) (x : Nat) (w : World) (hb : Byt w ao n cap zs) (hbt : Bt zs) (hn : n ≤ 65536) (hx : x < 18446744073709551616) :
    Calls Try.prog 3 #[.slice ao n cap, .int .u64 x] w fun e w' => e = .returned (.bool true) ∧ Below w.heap.size w w' := by
  have HB : Hid (Byt w ao n cap zs) := hb
  have HL : Hid (zs.length = n) := hb.len
  clear hb
  go_enter Try.func3, Try.ntmps3
  go_wp2_with fail
  refine (first_any _).mono ?_
  rintro en w1 ⟨rfl, hg⟩
  have G1 : Hid (w.grownBy w1 none) := hg
  have B1 : Hid (Byt w1 ao n cap zs) := HB.out.keptN hg
  clear hg HB
  go_wp2_with fail
  refine (room_any ao n cap zs _ B1.out (by omega)).mono ?_
  rintro en w2 ⟨g, c2, rfl, hgb, hown, hg⟩
  have G2 : Hid (w.grownBy w2 none) := grown_trans G1.out hg
  have B2 : Hid (Byt w2 ao n cap zs) := B1.out.keptN hg
  have O2 : Hid (w2.ownsRow w1.heap.size 5 1 (.slice (some ⟨g, 0, none⟩) (n + 3) c2) (n + 3) ((zs ++ [161, 162, 163]).map (Value.int .u8))) := hown
  have HWG : Hid (w.heap.size ≤ g) := by show _ ≤ _; have := G1.out.size; omega
  have hc2 : n + 3 ≤ c2 := by
    rcases hown.2 with ⟨h', _⟩ | ⟨g', cap', cur, h', _, _, hnc, _⟩
    · simp at h'
    · simp only [Value.slice.injEq, Option.some.injEq, Addr.mk.injEq, and_true, true_and] at h'
      obtain ⟨_, rfl⟩ := h'
      exact hnc
  have hcm : c2 ≤ 9223372036854775807 := by
    rcases hown.2 with ⟨h', _⟩ | ⟨g', cap', cur, h', _, _, _, hm, _⟩
    · simp at h'
    · simp only [Value.slice.injEq, Option.some.injEq, Addr.mk.injEq, and_true, true_and] at h'
      obtain ⟨_, rfl⟩ := h'
      unfold maxLen at hm
      omega
  clear hg hown B1
  go_wp2_with fail
  have hbz : Byt w2 (some ⟨g, 0, none⟩) n (n + 3) zs := by
    have := (Byt.of_owns O2.out).take n (n + 3) (by omega) (fun e => by cases e)
    rwa [List.take_left' HL.out] at this
  refine (puts_any _ n (n + 3) zs x _ hbz (by omega) hx).mono ?_
  rintro en w3 ⟨rfl, hg⟩
  have G3 : Hid (w.grownBy w3 none) := grown_trans G2.out hg
  have B3 : Hid (Byt w3 ao n cap zs) := B2.out.keptN hg
  have O3 : Hid (w3.ownsRow w1.heap.size 5 1 (.slice (some ⟨g, 0, none⟩) (n + 3) c2) (n + 3) ((zs ++ [161, 162, 163]).map (Value.int .u8))) := O2.out.kept hg (Or.inr (by simp [Value.ownBlock]))
  clear hg hbz B2 O2
  go_wp2_with fail
  refine (room_any ao n cap zs _ B3.out (by omega)).mono ?_
  rintro en w4 ⟨g4, c4, rfl, hgb4, hown, hg⟩
  have G4 : Hid (w.grownBy w4 none) := grown_trans G3.out hg
  have O4 : Hid (w4.ownsRow w1.heap.size 5 1 (.slice (some ⟨g, 0, none⟩) (n + 3) c2) (n + 3) ((zs ++ [161, 162, 163]).map (Value.int .u8))) := O3.out.kept hg (Or.inr (by simp [Value.ownBlock]))
  have E4 : Hid (Byt w4 (some ⟨g4, 0, none⟩) (n + 3) c4 (zs ++ [161, 162, 163])) := Byt.of_owns hown
  clear hg hown B3 O3
  go_wp2_with fail
  refine (same_yes _ _ _ _ _ _ (zs ++ [161, 162, 163]) (zs ++ [161, 162, 163]) _ (Byt.of_owns O4.out) E4.out rfl).mono ?_
  rintro en w5 ⟨rfl, hw5⟩
  subst hw5
  have SB : Hid (SomeBytes w5 w1.heap.size g (n + 3) c2) := ⟨zs ++ [161, 162, 163], hbt.app (by intro z hz; simp at hz; omega), O4.out⟩
  clear O4 E4
  go_wp2
  go_loopw [9] (fun si wr => ∃ k : Nat, k ≤ n ∧ si = .int .i64 k ∧ SomeBytes wr w1.heap.size g (n + 3) c2 ∧ w.grownBy wr none) (fun si _ => n - (intOf si).toNat)
  case atStart => exact ⟨0, Nat.zero_le _, rfl, SB.out, G4.out⟩
  case round =>
    obtain ⟨k, hk, rfl, hsb, hg⟩ := hrel
    have HSB : Hid (SomeBytes wr w1.heap.size g (n + 3) c2) := hsb
    have HG : Hid (w.grownBy wr none) := hg
    clear hsb hg
    by_cases hlt : k < n
    · obtain ⟨z, hz0, hz1, hcell, hfz⟩ := HSB.out.at k (by omega)
      obtain ⟨h1, h2⟩ := HSB.out.stored k (bits BinOp.xor IntKind.u8 z 85) (xor_byte z hz0 hz1)
      have H1 : Hid _ := h1
      have H2 : Hid _ := grown_new HG.out h2 HWG.out
      clear h1 h2
      go_wp2
      go_roundw
      case rel => exact ⟨k + 1, by omega, by go_num, H1.out, H2.out⟩
      case measure => simp [intOf]; omega
    · obtain ⟨ys, hyb, hyo⟩ := HSB.out
      have hby : Byt wr (some ⟨g, 0, none⟩) n (n + 3) (ys.take n) := (Byt.of_owns hyo).take n (n + 3) (by omega) (fun e => by cases e)
      have HBY : Hid (Byt wr (some ⟨g, 0, none⟩) n (n + 3) (ys.take n)) := hby
      clear hby hyo
      go_wp2_with fail
      refine (puts_any _ n (n + 3) (ys.take n) x _ HBY.out (by omega) hx).mono ?_
      rintro en w6 ⟨rfl, hg⟩
      have G6 : Hid (w.grownBy w6 none) := grown_trans HG.out hg
      clear hg
      go_wp2
      go_ret
      exact ⟨rfl, Below_of G6.out⟩

theorem wputs_walk (ao : Option Addr) (n cap : Nat) (zs : List Int) (x : Nat) (w : World) (hb : Byt w ao n cap zs) (hbt : Bt zs) (hx : x < 18446744073709551616) :
    Calls Try.prog 3 #[.slice ao n cap, .int .u64 x] w fun e w' => e = .returned (.bool true) ∧ Below w.heap.size w w' := by
  by_cases hn : n ≤ 65536
  · exact wputs_short ao n cap zs x w hb hbt hn hx
  · exact wputs_long ao n cap x w (by omega)
end Go.Proofs.Ytplnaehjiinaoaa
