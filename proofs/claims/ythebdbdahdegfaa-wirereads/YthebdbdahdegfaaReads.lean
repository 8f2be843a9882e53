import Derived.Test.YthebdbdahdegfaaStep2
import Derived.Test.YthebdbdahdegfaaStep3
import Derived.Test.YthebdbdahdegfaaStep5
import Derived.Test.YthebdbdahdegfaaRoom
import Derived.Test.YthebdbdahdegfaaOpsIn
namespace Go.Proofs.Ythebdbdahdegfaa
open Go.RowKit

/-- Any call at both: they answer alike, and stand alike behind it. -/
theorem step_any (R G Q H : Nat) (zs : List Int) (K N : Int) (S : Bool) (w : World) (h : ∃ p e, Two w R G Q H zs p e) (hbt : Bt zs) :
    Calls Try.prog 14 #[.agg #[.int .i64 K, .int .i64 N, .bool S], .pointer (some ⟨R, 0, none⟩), .pointer (some ⟨Q, 0, none⟩)] w fun en w' => en = .returned (.bool true) ∧ (∃ p e, Two w' R G Q H zs p e) ∧ Fr w w' R G Q H := by
  obtain ⟨p, e, h⟩ := h
  have weak : ∀ p' e', (Calls Try.prog 14 #[.agg #[.int .i64 K, .int .i64 N, .bool S], .pointer (some ⟨R, 0, none⟩), .pointer (some ⟨Q, 0, none⟩)] w fun en w' => en = .returned (.bool true) ∧ Two w' R G Q H zs p' e' ∧ Fr w w' R G Q H) →
      Calls Try.prog 14 #[.agg #[.int .i64 K, .int .i64 N, .bool S], .pointer (some ⟨R, 0, none⟩), .pointer (some ⟨Q, 0, none⟩)] w fun en w' => en = .returned (.bool true) ∧ (∃ p e, Two w' R G Q H zs p e) ∧ Fr w w' R G Q H :=
    fun p' e' hc => hc.mono fun en w' ⟨h1, h2, h3⟩ => ⟨h1, ⟨p', e', h2⟩, h3⟩
  by_cases hK : K < 1 ∨ 9 < K
  · exact weak _ _ (step_none R G Q H zs p e K N S w h hK)
  have hle := h.a.le
  have hcs : K = 1 ∨ K = 2 ∨ K = 3 ∨ K = 4 ∨ K = 5 ∨ K = 6 ∨ K = 7 ∨ K = 8 ∨ K = 9 := by omega
  by_cases he : e = 0
  · subst he
    rcases hcs with rfl | rfl | rfl | rfl | rfl | rfl | rfl | rfl | rfl
    · by_cases hp : p + 1 ≤ zs.length
      · exact weak _ _ (step1_ok R G Q H zs p N S w h hbt hp)
      · exact weak _ _ (step1_short R G Q H zs p N S w h (by omega))
    · by_cases hp : p + 2 ≤ zs.length
      · exact weak _ _ (step2_ok R G Q H zs p N S w h hbt hp)
      · exact weak _ _ (step2_short R G Q H zs p N S w h (by omega))
    · by_cases hp : p + 4 ≤ zs.length
      · exact weak _ _ (step3_ok R G Q H zs p N S w h hbt hp)
      · exact weak _ _ (step3_short R G Q H zs p N S w h (by omega))
    · by_cases hp : p + 8 ≤ zs.length
      · exact weak _ _ (step4_ok R G Q H zs p N S w h hbt hp)
      · exact weak _ _ (step4_short R G Q H zs p N S w h (by omega))
    · by_cases hn : N < 0
      · exact weak _ _ (step5_neg R G Q H zs p N S w h hn)
      · by_cases hs : (zs.length : Int) - p < N
        · exact weak _ _ (step5_short R G Q H zs p N S w h hs)
        · obtain ⟨m, rfl⟩ : ∃ m : Nat, N = (m : Int) := ⟨N.toNat, by omega⟩
          exact weak _ _ (step5_ok R G Q H zs p m S w h (by omega))
    · rcases scan_err 10 0 0 (zs.drop p) with hv | hv | hv | hv
      · exact weak _ _ (step6_ok R G Q H zs p (rv (zs.drop p)).1 (rv (zs.drop p)).2.1 N S w h hbt (by
          unfold rv at *
          rw [← hv]))
      · exact weak _ _ (step6_bad R G Q H zs p 10 N S w h hbt hv (by decide))
      · exact weak _ _ (step6_bad R G Q H zs p 11 N S w h hbt hv (by decide))
      · exact weak _ _ (step6_bad R G Q H zs p 12 N S w h hbt hv (by decide))
    · exact weak _ _ (step7_ok R G Q H zs p N S w h)
    · exact weak _ _ (step8_any R G Q H zs p 0 N S w h)
    · by_cases hp : p + 2 ≤ zs.length
      · exact weak _ _ (step9_ok R G Q H zs p N S w h hbt hp)
      · exact weak _ _ (step9_short R G Q H zs p N S w h (by omega))
  · have he' : (e == 0) = false := by simpa using he
    rcases hcs with rfl | rfl | rfl | rfl | rfl | rfl | rfl | rfl | rfl
    · exact weak _ _ (step1_broken R G Q H zs p e N S w h he')
    · exact weak _ _ (step2_broken R G Q H zs p e N S w h he')
    · exact weak _ _ (step3_broken R G Q H zs p e N S w h he')
    · exact weak _ _ (step4_broken R G Q H zs p e N S w h he')
    · exact weak _ _ (step5_broken R G Q H zs p e N S w h he')
    · exact weak _ _ (step6_broken R G Q H zs p e N S w h he')
    · exact weak _ _ (step7_broken R G Q H zs p e N S w h he')
    · exact weak _ _ (step8_any R G Q H zs p e N S w h)
    · exact weak _ _ (step9_broken R G Q H zs p e N S w h he')

theorem owns_lt {w : World} {base g n c : Nat} {xs : List Value} (h : w.ownsRow base 5 1 (.slice (some ⟨g, 0, none⟩) n c) n xs) : g < w.heap.size := by
  rcases h.2 with ⟨h', _⟩ | ⟨g', cap', cur, h', _, hgg, _⟩
  · simp at h'
  · simp only [Value.slice.injEq, Option.some.injEq, Addr.mk.injEq, and_true, true_and] at h'
    obtain ⟨rfl, _⟩ := h'
    exact (Array.getElem?_eq_some_iff.1 hgg).1

theorem SomeBytes.kept {w w' : World} {base g n c : Nat} {row : Option Nat} (h : SomeBytes w base g n c) (hg : w.grownBy w' row) (hne : some g ≠ row) : SomeBytes w' base g n c := by
  obtain ⟨ys, hb, ho⟩ := h
  refine ⟨ys, hb, ho.kept hg ?_⟩
  cases row with
  | none => exact Or.inr (by simp [Value.ownBlock])
  | some r => exact Or.inr (by simpa [Value.ownBlock] using hne)

/-- Behind the making of the readers. -/
structure Pre (w wr : World) (bx bz gx gy nx ny cx cy R G R2 G2 : Nat) (za zb : List Int) : Prop where
  x : SomeBytes wr bx gx nx cx
  y : SomeBytes wr bz gy ny cy
  r : Rd wr R G za 0 0
  s : Rd wr R2 G2 zb 0 0
  g : w.grownBy wr none
  o1 : w.heap.size ≤ gx
  o2 : gx < gy
  o3 : gy < G
  o4 : G < R
  o5 : R < G2
  o6 : G2 < R2

theorem Pre.storeX {w wr : World} {bx bz gx gy nx ny cx cy R G R2 G2 : Nat} {za zb : List Int} (h : Pre w wr bx bz gx gy nx ny cx cy R G R2 G2 za zb) (k : Nat) (v : Int) (hv : 0 ≤ v ∧ v ≤ 255) :
    Pre w (wr.setCell ⟨gx, k, none⟩ (.int .u8 v)) bx bz gx gy nx ny cx cy R G R2 G2 za zb := by
  obtain ⟨h1, h2⟩ := h.x.stored k v hv
  have := h.o2; have := h.o3; have := h.o4; have := h.o5; have := h.o6
  exact ⟨h1, h.y.kept h2 (by simp; omega), h.r.kept h2 (by simp; omega) (by simp; omega), h.s.kept h2 (by simp; omega) (by simp; omega), grown_new h.g h2 h.o1, h.o1, h.o2, h.o3, h.o4, h.o5, h.o6⟩

theorem Pre.storeY {w wr : World} {bx bz gx gy nx ny cx cy R G R2 G2 : Nat} {za zb : List Int} (h : Pre w wr bx bz gx gy nx ny cx cy R G R2 G2 za zb) (k : Nat) (v : Int) (hv : 0 ≤ v ∧ v ≤ 255) :
    Pre w (wr.setCell ⟨gy, k, none⟩ (.int .u8 v)) bx bz gx gy nx ny cx cy R G R2 G2 za zb := by
  obtain ⟨h1, h2⟩ := h.y.stored k v hv
  have := h.o1; have := h.o2; have := h.o3; have := h.o4; have := h.o5; have := h.o6
  exact ⟨h.x.kept h2 (by simp; omega), h1, h.r.kept h2 (by simp; omega) (by simp; omega), h.s.kept h2 (by simp; omega) (by simp; omega), grown_new h.g h2 (by omega), h.o1, h.o2, h.o3, h.o4, h.o5, h.o6⟩

/-- At each call. -/
structure Main (w wr : World) (R G Q H R2 G2 Q2 H2 : Nat) (za zb : List Int) : Prop where
  a : ∃ p e, Two wr R G Q H za p e
  b : ∃ p e, Two wr R2 G2 Q2 H2 zb p e
  g : w.grownBy wr none
  o3 : w.heap.size ≤ G
  o4 : G < R
  o5 : R < G2
  o6 : G2 < R2
  o7 : R2 < H
  o8 : H < Q
  o9 : Q < H2
  o10 : H2 < Q2

theorem Fr.two {w w' : World} {R G Q H R2 G2 Q2 H2 : Nat} {zs : List Int} {p : Nat} {e : Int} (h : Two w R G Q H zs p e) (hf : Fr w w' R2 G2 Q2 H2)
    (h1 : R ≠ R2 ∧ R ≠ G2 ∧ R ≠ Q2 ∧ R ≠ H2) (h2 : G ≠ R2 ∧ G ≠ G2 ∧ G ≠ Q2 ∧ G ≠ H2) (h3 : Q ≠ R2 ∧ Q ≠ G2 ∧ Q ≠ Q2 ∧ Q ≠ H2) (h4 : H ≠ R2 ∧ H ≠ G2 ∧ H ≠ Q2 ∧ H ≠ H2) : Two w' R G Q H zs p e := by
  obtain ⟨cur, hc, hr⟩ := h.a.row
  obtain ⟨cur', hc', hr'⟩ := h.b.row
  have l1 := h.a.lt
  have l2 := h.b.lt
  refine ⟨⟨h.a.ne, h.a.le, h.a.max, (hf.block R l1.1 h1.1 h1.2.1 h1.2.2.1 h1.2.2.2).trans h.a.box, cur, (hf.block G l1.2 h2.1 h2.2.1 h2.2.2.1 h2.2.2.2).trans hc, hr⟩,
    ⟨h.b.ne, h.b.le, h.b.max, (hf.block Q l2.1 h3.1 h3.2.1 h3.2.2.1 h3.2.2.2).trans h.b.box, cur', (hf.block H l2.2 h4.1 h4.2.1 h4.2.2.1 h4.2.2.2).trans hc', hr'⟩, h.rq, h.rh, h.gq, h.gh⟩

theorem Fr.grown {w wr w' : World} {R G Q H : Nat} (hg : w.grownBy wr none) (hf : Fr wr w' R G Q H) (h1 : w.heap.size ≤ R) (h2 : w.heap.size ≤ G) (h3 : w.heap.size ≤ Q) (h4 : w.heap.size ≤ H) : w.grownBy w' none :=
  ⟨hf.os.trans hg.os, hf.tape.trans hg.tape, hf.output.trans hg.output, Nat.le_trans hg.size hf.size, fun i hi hne => (hf.block i (Nat.lt_of_lt_of_le hi hg.size) (by omega) (by omega) (by omega) (by omega)).trans (hg.block i hi hne)⟩

theorem Main.nextA {w wr w' : World} {R G Q H R2 G2 Q2 H2 : Nat} {za zb : List Int} (h : Main w wr R G Q H R2 G2 Q2 H2 za zb) (ha : ∃ p e, Two w' R G Q H za p e) (hf : Fr wr w' R G Q H) : Main w w' R G Q H R2 G2 Q2 H2 za zb := by
  obtain ⟨p, e, hb⟩ := h.b
  have := h.o3; have := h.o4; have := h.o5; have := h.o6; have := h.o7; have := h.o8; have := h.o9; have := h.o10
  exact ⟨ha, ⟨p, e, hf.two hb (by omega) (by omega) (by omega) (by omega)⟩, hf.grown h.g (by omega) (by omega) (by omega) (by omega), h.o3, h.o4, h.o5, h.o6, h.o7, h.o8, h.o9, h.o10⟩

theorem Main.nextB {w wr w' : World} {R G Q H R2 G2 Q2 H2 : Nat} {za zb : List Int} (h : Main w wr R G Q H R2 G2 Q2 H2 za zb) (hb : ∃ p e, Two w' R2 G2 Q2 H2 zb p e) (hf : Fr wr w' R2 G2 Q2 H2) : Main w w' R G Q H R2 G2 Q2 H2 za zb := by
  obtain ⟨p, e, ha⟩ := h.a
  have := h.o3; have := h.o4; have := h.o5; have := h.o6; have := h.o7; have := h.o8; have := h.o9; have := h.o10
  exact ⟨⟨p, e, hf.two ha (by omega) (by omega) (by omega) (by omega)⟩, hb, hf.grown h.g (by omega) (by omega) (by omega) (by omega), h.o3, h.o4, h.o5, h.o6, h.o7, h.o8, h.o9, h.o10⟩
end Go.Proofs.Ythebdbdahdegfaa
