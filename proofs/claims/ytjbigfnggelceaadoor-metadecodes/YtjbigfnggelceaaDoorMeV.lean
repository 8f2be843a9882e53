import Derived.Test.YtjbigfnggelceaaDoorMeS
import Derived.Test.YtjbigfnggelceaaDoorMeF
namespace Go.Proofs.YtjbigfnggelceaaDoor
open Go.RowKit

theorem refEncode_any (v c r t k f n : Int) (w : World) :
    Calls Tryd.prog 11 #[.agg #[.int .i64 v, .int .i64 c, .int .i64 r, .int .i64 t, .int .i64 k, .int .i64 f, .int .i64 n]] w fun en w' => ∃ bo m cp, en = .returned (.tuple #[.slice bo m cp, .int .i64 (eM ⟨v, c, r, t, k, f, n⟩)]) ∧ Byt w' bo m cp (oM ⟨v, c, r, t, k, f, n⟩) ∧ w.grownBy w' none := by
  cases hm : may ⟨v, c, r, t, k, f, n⟩ with
  | true =>
    have b := may_bounds hm
    simp only at b
    obtain ⟨v, rfl⟩ : ∃ x : Nat, v = (x : Int) := ⟨v.toNat, by omega⟩
    obtain ⟨c, rfl⟩ : ∃ x : Nat, c = (x : Int) := ⟨c.toNat, by omega⟩
    obtain ⟨r, rfl⟩ : ∃ x : Nat, r = (x : Int) := ⟨r.toNat, by omega⟩
    obtain ⟨t, rfl⟩ : ∃ x : Nat, t = (x : Int) := ⟨t.toNat, by omega⟩
    obtain ⟨k, rfl⟩ : ∃ x : Nat, k = (x : Int) := ⟨k.toNat, by omega⟩
    obtain ⟨f, rfl⟩ : ∃ x : Nat, f = (x : Int) := ⟨f.toNat, by omega⟩
    obtain ⟨n, rfl⟩ : ∃ x : Nat, n = (x : Int) := ⟨n.toNat, by omega⟩
    refine (refEncode_yes v c r t k f n w hm).mono ?_
    rintro en w' ⟨ao, cp, rfl, h1, h3⟩
    rw [(o_yes hm).1, (o_yes hm).2]
    exact ⟨_, 4092, _, rfl, h1, h3⟩
  | false =>
    refine (refEncode_no v c r t k f n w hm).mono ?_
    rintro en w' ⟨rfl, h3⟩
    rw [(o_no hm).1, (o_no hm).2]
    exact ⟨none, 0, 0, rfl, Byt.empty _, h3⟩
theorem refDecode_any (ao : Option Addr) (n cap : Nat) (zs : List Int) (w : World) (hb : Byt w ao n cap zs) (hbt : Bt zs) :
    Calls Tryd.prog 25 #[.slice ao n cap] w fun en w' => en = .returned (.tuple #[.agg #[.int .i64 (aH zs).v, .int .i64 (aH zs).c, .int .i64 (aH zs).r, .int .i64 (aH zs).h, .int .i64 (aH zs).k, .int .i64 (aH zs).f, .int .i64 (aH zs).n], .int .i64 (aE zs)]) ∧ w.grownBy w' none := by
  by_cases h : n = 4092
  · subst h
    exact refDecode_full ao cap zs w hb hbt
  · refine (refDecode_short ao n cap w h).mono ?_
    rintro en w' ⟨rfl, h3⟩
    have hd : dM zs = false := by simp [dM, hb.len, h]
    rw [(a_no hd).1, (a_no hd).2]
    exact ⟨rfl, h3⟩
end Go.Proofs.YtjbigfnggelceaaDoor
