import Derived.Test.YtiljdhhfhjhhiaaDiskLastsW
namespace Go.Proofs.Ytiljdhhfhjhhiaa
open Go.RowKit Go.MuLone

theorem lasts_walk (c0 : Int) (ao : Option Addr) (n cap : Nat) (bo : Option Addr) (m bcap : Nat) (w : World) (hp : Pus w ao n) (hb : Bls w bo m) :
    Calls Try.prog 5 #[.int .i64 c0, .slice ao n cap, .slice bo m bcap] w fun e w' => e = .returned (.bool true) ∧ w.grownBy w' none := by
  by_cases h : 2 ≤ c0 ∧ c0 ≤ 40
  · exact lasts_body c0 c0.toNat (by omega) (.inl (by omega)) ao n cap bo m bcap w hp hb
  · exact lasts_body c0 9 (by omega) (.inr (by omega)) ao n cap bo m bcap w hp hb
end Go.Proofs.Ytiljdhhfhjhhiaa
