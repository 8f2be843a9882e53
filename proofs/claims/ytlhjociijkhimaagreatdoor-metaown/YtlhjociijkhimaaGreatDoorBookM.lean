import Derived.Test.YtlhjociijkhimaaGreatDoorBase
import Derived.Test.YtlhjociijkhimaaGreatDoorBookE
import Derived.ArgAppend
namespace Go.Proofs.YtlhjociijkhimaaGreatDoor
open Go.RowKit

/-- A list that was handed out: its value, its block, where it begins in it, its length, its room. -/
structure Sl where
  v : Value
  g : Nat
  o : Nat
  n : Nat
  c : Nat

structure Sl.Ok (s : Sl) : Prop where
  le : s.n ≤ s.c
  max : s.n ≤ 1099511627776
  cmax : s.c ≤ 9223372036854775807
  val : ∃ ao, s.v = .slice ao s.n s.c ∧ (0 < s.c → ao = some ⟨s.g, s.o, none⟩)

/-- All its places are there, and may be written. -/
def Sl.There (s : Sl) (w : World) : Prop := ∀ j, j < s.c → (∃ u, w.cell? ⟨s.g, s.o + j, none⟩ = some u) ∧ w.frozen? ⟨s.g, s.o + j, none⟩ = false

/-- What it shows. -/
def Sl.Shows (s : Sl) (w : World) (f : Nat → Int) : Prop := ∀ j, j < s.n → w.cell? ⟨s.g, s.o + j, none⟩ = some (.int .u8 (f j))

/-- Two that share no place. -/
def Sl.Apart (s t : Sl) : Prop := ∀ i j, i < s.c → j < t.c → (⟨s.g, s.o + i, none⟩ : Addr) ≠ ⟨t.g, t.o + j, none⟩

theorem Sl.Apart.symm {s t : Sl} (h : s.Apart t) : t.Apart s := fun i j hi hj e => h j i hj hi e.symm

theorem Sl.There.kept {s : Sl} {w w' : World} {row : Option Nat} (h : s.There w) (hg : w.grownBy w' row) (hne : some s.g ≠ row) : s.There w' := by
  intro j hj
  obtain ⟨⟨u, hu⟩, hf⟩ := h j hj
  have hl : s.g < w.heap.size := World.block_lt_of_cell? w _ hu
  exact ⟨⟨u, hg.cell hu hne⟩, (World.frozen?_of_block (hg.block s.g hl hne)).trans hf⟩

theorem Sl.Shows.kept {s : Sl} {w w' : World} {f : Nat → Int} {row : Option Nat} (h : s.Shows w f) (hg : w.grownBy w' row) (hne : some s.g ≠ row) : s.Shows w' f :=
  fun j hj => hg.cell (h j hj) hne

theorem Sl.There.set {s : Sl} {w : World} (h : s.There w) (a : Addr) (v : Value) : s.There (w.setCell a v) := by
  intro j hj
  obtain ⟨⟨u, hu⟩, hf⟩ := h j hj
  refine ⟨?_, by simpa using hf⟩
  by_cases e : a = ⟨s.g, s.o + j, none⟩
  · subst e; exact ⟨v, World.cell?_setCell_same _ _ _ hu⟩
  · exact ⟨u, by rw [World.cell?_setCell_other _ _ _ _ e]; exact hu⟩

theorem Sl.Shows.far {s : Sl} {w : World} {f : Nat → Int} (h : s.Shows w f) (a : Addr) (v : Value) (ha : ∀ j, j < s.n → a ≠ ⟨s.g, s.o + j, none⟩) : s.Shows (w.setCell a v) f := by
  intro j hj
  rw [World.cell?_setCell_other _ _ _ _ (ha j hj)]; exact h j hj

/-- The mark of a place. -/
def mark (ps : Int) (id j : Nat) : Int := if ps = 1 then ((id * 97 + j * 31 : Nat) : Int) % 256 else ((id / 256 * 59 + j * 13 + id % 256 * 3 + 1 : Nat) : Int) % 256

theorem mark_range (ps : Int) (id j : Nat) : 0 ≤ mark ps id j ∧ mark ps id j ≤ 255 := by
  unfold mark; split <;> omega

set_option maxHeartbeats 400000 in
theorem mark_any (B : Nat) (ps : Int) (id j : Nat) (w : World) (h : w.cell? ⟨B, 1, none⟩ = some (.int .i64 ps)) (hi : id ≤ 1099511627776) (hj : j ≤ 1099511627776) :
    Calls Tryz.prog 106 #[.pointer (some ⟨B, 0, none⟩), .int .i64 id, .int .i64 j] w fun en w' => en = .returned (.int .u8 (mark ps id j)) ∧ w' = w := by
  by_cases hp : ps = 1
  · subst hp
    go_enter Tryz.func106, Tryz.ntmps106
    go_wp2
    go_ret
    refine ⟨?_, rfl⟩
    unfold mark
    simp
  · have hpb : (ps == 1) = false := by simpa using hp
    go_enter Tryz.func106, Tryz.ntmps106
    go_wp2
    go_ret
    refine ⟨?_, rfl⟩
    unfold mark
    rw [if_neg hp]
    simp

set_option maxHeartbeats 1000000 in
theorem show_any (B : Nat) (ps : Int) (id : Nat) (s : Sl) (w : World) (h : w.cell? ⟨B, 1, none⟩ = some (.int .i64 ps)) (hi : id ≤ 1099511627776) (hs : s.Ok) (hsh : s.Shows w (mark ps id)) :
    Calls Tryz.prog 119 #[.pointer (some ⟨B, 0, none⟩), s.v, .int .i64 id] w fun en w' => en = .returned (.bool true) ∧ w' = w := by
  obtain ⟨ao, hv, hao⟩ := hs.val
  have HC := hid_intro h
  have HS := hid_intro hsh
  have h1 := hs.le
  have h2 := hs.max
  have HAO := hid_intro hao
  clear h hsh hao hs
  rw [hv]
  clear hv
  go_enter Tryz.func119, Tryz.ntmps119
  go_wp2
  go_loopw [7] (fun sj wr => ∃ j : Nat, j ≤ s.n ∧ sj = .int .i64 j ∧ wr = w) (fun sj _ => s.n - (intOf sj).toNat)
  case atStart => exact ⟨0, Nat.zero_le _, rfl, rfl⟩
  case round =>
    obtain ⟨j, hj, rfl, rfl⟩ := hrel
    by_cases hlt : j < s.n
    · obtain rfl := HAO.out (by omega)
      go_wp2_with fail
      refine (mark_any B ps id j _ HC.out hi (by omega)).mono ?_
      rintro en w1 ⟨rfl, rfl⟩
      have hcell := HS.out j hlt
      have hb : (mark ps id j == mark ps id j) = true := by simp
      go_wp2
      go_roundw
      case rel => exact ⟨j + 1, by omega, by go_num, trivial⟩
      case measure => simp [intOf]; omega
    · have hjn : j = s.n := by omega
      subst hjn
      go_wp2
      go_ret
      exact ⟨rfl, rfl⟩

theorem mark_at (B : Nat) (ps : Int) (id j : Nat) (idI jI : Int) (w : World) (h : w.cell? ⟨B, 1, none⟩ = some (.int .i64 ps)) (hi : id ≤ 1099511627776) (hj : j ≤ 1099511627776) (e1 : idI = (id : Int)) (e2 : jI = (j : Int)) :
    Calls Tryz.prog 106 #[.pointer (some ⟨B, 0, none⟩), .int .i64 idI, .int .i64 jI] w fun en w' => en = .returned (.int .u8 (mark ps id j)) ∧ w' = w := by
  rw [e1, e2]; exact mark_any B ps id j w h hi hj

theorem show_at (B : Nat) (ps : Int) (id : Nat) (idI : Int) (s : Sl) (v : Value) (w : World) (h : w.cell? ⟨B, 1, none⟩ = some (.int .i64 ps)) (hi : id ≤ 1099511627776) (hs : s.Ok) (hsh : s.Shows w (mark ps id)) (e1 : idI = (id : Int)) (e2 : v = s.v) :
    Calls Tryz.prog 119 #[.pointer (some ⟨B, 0, none⟩), v, .int .i64 idI] w fun en w' => en = .returned (.bool true) ∧ w' = w := by
  rw [e1, e2]; exact show_any B ps id s w h hi hs hsh
end Go.Proofs.YtlhjociijkhimaaGreatDoor
