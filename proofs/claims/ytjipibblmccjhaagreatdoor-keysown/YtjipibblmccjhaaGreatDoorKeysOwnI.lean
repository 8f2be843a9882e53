import Derived.Test.YtjipibblmccjhaaGreatDoorKeysOw
import Derived.Laws.BitsAllLaws
namespace Go.Proofs.YtjipibblmccjhaaGreatDoor
open Go.RowKit

/-- A list of pairs, as it came in. -/
structure Pl (w : World) (lo : Option Addr) (ln : Nat) : Prop where
  el : ∀ i, i < ln → ∃ b off ao n c za bo m d zb, lo = some ⟨b, off, none⟩ ∧ w.cell? ⟨b, off + i * 2, none⟩ = some (.slice ao n c) ∧ w.cell? ⟨b, off + i * 2 + 1, none⟩ = some (.slice bo m d) ∧ Byt w ao n c za ∧ Bt za ∧ Byt w bo m d zb ∧ Bt zb
theorem Pl.kept {w w' : World} {lo : Option Addr} {ln : Nat} (h : Pl w lo ln) (hg : w.grownBy w' none) : Pl w' lo ln :=
  ⟨fun i hi => by
    obtain ⟨b, off, ao, n, c, za, bo, m, d, zb, h1, h2, h3, h4, h5, h6, h7⟩ := h.el i hi
    exact ⟨b, off, ao, n, c, za, bo, m, d, zb, h1, hg.cell h2 (by simp), hg.cell h3 (by simp), h4.keptN hg, h5, h6.keptN hg, h7⟩⟩

/-- What holds at each round's head. -/
structure Orl (w : World) (B base N : Nat) (wr : World) (L : List Sl) (ys : List Value) (vb vw : Value) : Prop where
  kb : Kb wr B base L ys vb vw
  len : L.length ≤ N
  new : ∀ t ∈ L, base ≤ t.g
  gr : w.grownBy wr none

/-- What holds within a round, the two roomy strings lying at gx and gy. -/
structure Irl (w : World) (B base N gx cx gy cy m : Nat) (za zb : List Int) (wr : World) (L : List Sl) (ys : List Value) (vb vw : Value) : Prop where
  kb : Kb wr B base L ys vb vw
  len : L.length ≤ N
  new : ∀ t ∈ L, base ≤ t.g
  far : ∀ t ∈ L, 0 < t.c → t.g ≠ gx ∧ t.g ≠ gy
  cop : ∀ y ∈ ys, ∀ g n c, y = .slice (some ⟨g, 0, none⟩) n c → 0 < n → g ≠ gy
  fx : Free B vb vw gx
  fy : Free B vb vw gy
  ox : Ow wr gx cx (za ++ marks)
  oy : Ow wr gy cy (zb ++ marks)
  bt : Bt zb
  lb : zb.length = m
  gr : w.grownBy wr none

theorem Irl.start {w w0 w1 w2 : World} {B base N gx cx gy cy m : Nat} {za zb : List Int} {L : List Sl} {ys : List Value} {vb vw : Value} (h : Orl w B base N w0 L ys vb vw)
    (hx : Ow w1 gx cx (za ++ marks)) (hgx : w0.heap.size ≤ gx) (h1 : w0.grownBy w1 none) (hy : Ow w2 gy cy (zb ++ marks)) (hgy : w1.heap.size ≤ gy) (h2 : w1.grownBy w2 none) (bt : Bt zb) (lb : zb.length = m) :
    Irl w B base N gx cx gy cy m za zb w2 L ys vb vw := by
  have hs1 := h1.size
  have h12 := grown_trans h1 h2
  refine ⟨h.kb.kept h12 (by simp), h.len, h.new, fun t ht _ => ?_, fun y hy g n c e hp => ?_, h.kb.freeN hgx, h.kb.freeN (by omega), hx.keptN h2, hy, bt, lb, grown_trans h.gr h12⟩
  · have := (h.kb.ok t ht).2.2.2.1
    omega
  · have := h.kb.copies y hy g n c e hp
    omega

theorem Irl.keptN {w wr wr' : World} {B base N gx cx gy cy m : Nat} {za zb : List Int} {L : List Sl} {ys : List Value} {vb vw : Value} (h : Irl w B base N gx cx gy cy m za zb wr L ys vb vw) (hg : wr.grownBy wr' none) : Irl w B base N gx cx gy cy m za zb wr' L ys vb vw :=
  ⟨h.kb.kept hg (by simp), h.len, h.new, h.far, h.cop, h.fx, h.fy, h.ox.keptN hg, h.oy.keptN hg, h.bt, h.lb, grown_trans h.gr hg⟩

theorem Irl.after {w wr w' : World} {B base N gx cx gy cy m : Nat} {za zb : List Int} {L : List Sl} {ys : List Value} {vb vw vb' vw' : Value} {s : Sl} {k n : Nat} (h : Irl w B base N gx cx gy cy m za zb wr L ys vb vw)
    (hk : Kb w' B base (L ++ [s]) (ys ++ [.slice (some ⟨k, 0, none⟩) n n]) vb' vw') (he : Ke wr w' B vb vw vb' vw') (hg : wr.heap.size ≤ k) (hb : base ≤ s.g) (hs : 0 < s.c → s.g ≠ gx ∧ s.g ≠ gy) (hwB : w.heap.size ≤ B) :
    Irl w B base (N + 1) gx cx gy cy m za zb w' (L ++ [s]) (ys ++ [.slice (some ⟨k, 0, none⟩) n n]) vb' vw' := by
  refine ⟨hk, by have := h.len; simp; omega, fun t ht => ?_, fun t ht hc => ?_, fun y hy g n' c e hp => ?_, (he.block gx h.ox.lt h.fx).2, (he.block gy h.oy.lt h.fy).2, he.ow h.ox h.fx, he.ow h.oy h.fy, h.bt, h.lb, he.grown h.kb h.gr hwB⟩
  · rcases List.mem_append.1 ht with h1 | h1
    · exact h.new t h1
    · obtain rfl := List.mem_singleton.1 h1; exact hb
  · rcases List.mem_append.1 ht with h1 | h1
    · exact h.far t h1 hc
    · obtain rfl := List.mem_singleton.1 h1; exact hs hc
  · rcases List.mem_append.1 hy with h1 | h1
    · exact h.cop y h1 g n' c e hp
    · obtain rfl := List.mem_singleton.1 h1
      injection e with e1
      simp only [Option.some.injEq, Addr.mk.injEq] at e1
      have := h.oy.lt
      omega

theorem Irl.keepO {w wr : World} {B base N gx cx gy cy m : Nat} {za zb : List Int} {L : List Sl} {ys : List Value} {vb vw : Value} (h : Irl w B base N gx cx gy cy m za zb wr L ys vb vw) (g n cap : Nat) (zs : List Int)
    (ho : Ow wr g cap zs) (hn : zs.length = n) (hm : n ≤ 5000) (hf : Free B vb vw g) (hap : ∀ t ∈ L, 0 < t.c → t.g ≠ g) (hx : g ≠ gx) (hy : g ≠ gy) (hb : base ≤ g) (hwB : w.heap.size ≤ B) (hN : N ≤ 1000) :
    Calls Tryz.prog 15 #[.pointer (some ⟨B, 0, none⟩), .slice (some ⟨g, 0, none⟩) n cap] wr fun en w' => en = .returned (.tuple #[]) ∧ ∃ ys' vb' vw', Irl w B base (N + 1) gx cx gy cy m za zb w' (L ++ [slK g n cap]) ys' vb' vw' ∧ Ke wr w' B vb vw vb' vw' := by
  refine (keep_ow g n cap zs h.kb ho hn hm hf hap (by have := h.len; omega)).mono ?_
  rintro en w' ⟨rfl, k, vb', vw', h1, h2, h3⟩
  exact ⟨rfl, _, vb', vw', h.after h1 h2 h3 hb (fun _ => ⟨hx, hy⟩) hwB, h2⟩

theorem Irl.keepN {w wr : World} {B base N gx cx gy cy m : Nat} {za zb : List Int} {L : List Sl} {ys : List Value} {vb vw : Value} (h : Irl w B base N gx cx gy cy m za zb wr L ys vb vw) (hb : base ≤ gx) (hwB : w.heap.size ≤ B) (hN : N ≤ 1000) :
    Calls Tryz.prog 15 #[.pointer (some ⟨B, 0, none⟩), .slice none 0 0] wr fun en w' => en = .returned (.tuple #[]) ∧ ∃ ys' vb' vw', Irl w B base (N + 1) gx cx gy cy m za zb w' (L ++ [slN gx]) ys' vb' vw' := by
  refine (keep_nil gx h.kb h.ox.lt h.fx (by have := h.len; omega)).mono ?_
  rintro en w' ⟨rfl, k, vb', vw', h1, h2, h3⟩
  exact ⟨rfl, _, vb', vw', h.after h1 h2 h3 hb (fun hc => absurd hc (by show ¬ 0 < 0; omega)) hwB⟩

theorem Bt.set {zs : List Int} (h : Bt zs) (i : Nat) {v : Int} (hv : 0 ≤ v ∧ v ≤ 255) : Bt (zs.set i v) := by
  intro z hz
  rcases List.mem_or_eq_of_mem_set hz with h1 | rfl
  · exact h z h1
  · exact hv

theorem Irl.write {w wr : World} {B base N gx cx gy cy m : Nat} {za zb : List Int} {L : List Sl} {ys : List Value} {vb vw : Value} (h : Irl w B base N gx cx gy cy m za zb wr L ys vb vw) (i : Nat) (v : Int) (hi : i < m) (hv : 0 ≤ v ∧ v ≤ 255) (hxy : gx ≠ gy) (hw : w.heap.size ≤ gy) :
    Irl w B base N gx cx gy cy m za (zb.set i v) (wr.setCell ⟨gy, i, none⟩ (.int .u8 v)) L ys vb vw := by
  have hl := h.lb
  have hg := grown_cell wr gy i (.int .u8 v)
  refine ⟨h.kb.kept2 hg h.fy (fun s hs hc => (h.far s hs hc).2) h.cop, h.len, h.new, h.far, h.cop, h.fx, h.fy, h.ox.kept hg (fun e => hxy (Option.some.inj e)), ?_, h.bt.set i hv, by simpa using hl, grown_new h.gr hg hw⟩
  have := h.oy.set i v (by simp; omega)
  rwa [List.set_append_left _ _ (by omega)] at this

theorem xor_one {z : Int} (h : 0 ≤ z ∧ z ≤ 255) : 0 ≤ bits .xor .u8 z 1 ∧ bits .xor .u8 z 1 ≤ 255 := by
  have e := u8_xor z 1 h.1 (by omega) (by omega) (by omega)
  have := Nat.xor_lt_two_pow (x := z.toNat) (y := (1 : Int).toNat) (n := 8) (by omega) (by decide)
  rw [e]
  omega

theorem comList_two (a b : List Int) : comList [a, b] = com a b := by
  show min a.length (com a b) = com a b
  have := com_le1 a b
  omega
end Go.Proofs.YtjipibblmccjhaaGreatDoor
