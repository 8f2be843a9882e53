import Derived.Test.YtjbigfnggelceaaDoorBase
namespace Go.Proofs.YtjbigfnggelceaaDoor
open Go.RowKit

set_option maxHeartbeats 1000000 in
set_option maxRecDepth 100000 in
/-- coppiceref1.Put. -/
theorem refPut_any (ao : Option Addr) (n cap : Nat) (zs : List Int) (x d : Nat) (w : World) (hb : Byt w ao n cap zs) (hn : n ≤ 1099511627776) (_hx : x < 18446744073709551616) (hd : d ≤ 8) :
    Calls Tryd.prog 24 #[.slice ao n cap, .int .u64 x, .int .i64 d] w fun e w' => ∃ ao' cap', e = .returned (.slice ao' (n + d) cap') ∧ Byt w' ao' (n + d) cap' (zs ++ lb d x) ∧ w.grownBy w' none := by
  go_enter Tryd.func24, Tryd.ntmps24
  go_wp2_with fail
  refine (refBytes_any ao n cap zs _ hb (by omega)).mono ?_
  rintro en w0 ⟨rfl, hown0, hg0, hs0⟩
  clear hb
  go_wp2
  go_loopw [7, 8] (fun out si wr => ∃ (k : Nat), k ≤ d ∧ si = .int .i64 k ∧ wr.ownsRow w.heap.size 5 1 out (n + k) ((zs ++ lb k x).map (Value.int .u8)) ∧ w.grownBy wr none) (fun _ si _ => d - (intOf si).toNat)
  case atStart => exact ⟨0, by omega, rfl, by simpa [lb] using hown0, hg0⟩
  case round =>
    obtain ⟨k, hk, rfl, hown, hg⟩ := hrel
    by_cases hlt : k < d
    · go_wp2_with (at_builtin; refine wpList_append_byt rfl _ _ rfl w.heap.size _ (n + k) (zs ++ lb k x) rfl (hown.alloc _) (some ⟨wr.heap.size, 0, none⟩) 1 1 [(x : Int) / 2 ^ (8 * k) % 256] rfl (Byt.lit wr 5 _ [(x : Int) / 2 ^ (8 * k) % 256] 1 rfl rfl) (by omega) (by have := hg.size; simp; omega) ?_)
      intro v' w1 h1 h2
      have hg2 := grown_own hg hown (Nat.le_refl _) h2
      have hown2 : w1.ownsRow w.heap.size 5 1 v' (n + (k + 1)) ((zs ++ lb (k + 1) x).map (Value.int .u8)) := by
        rw [lb_snoc, List.map_append, List.map_append, ← Nat.add_assoc, ← shift_byte]
        simpa using h1
      clear h1 h2 hown
      go_wp2
      go_roundw
      case rel => exact ⟨k + 1, by omega, by go_num, hown2, hg2⟩
      case measure => simp [intOf]; omega
    · have hkd : k = d := by omega
      subst hkd
      obtain ⟨ao', cap', hv, hB⟩ := owns_any hown
      subst hv
      have HB : Hid (Byt wr ao' (n + k) cap' (zs ++ lb k x)) := hB
      have HG : Hid (w.grownBy wr none) := hg
      clear hB hown hg
      go_wp2
      go_ret
      exact ⟨_, _, rfl, HB.out, HG.out⟩

end Go.Proofs.YtjbigfnggelceaaDoor
