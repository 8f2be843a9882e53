import Derived.Test.YthebdbdahdegfaaApp
namespace Go.Proofs.Ythebdbdahdegfaa
open Go.RowKit

set_option maxHeartbeats 400000 in
/-- room: the bytes, and three marks behind them. -/
theorem room_any (ao : Option Addr) (n cap : Nat) (zs : List Int) (w : World) (hb : Byt w ao n cap zs) (hn : n ≤ 1099511627776) :
    Calls Try.prog 10 #[.slice ao n cap] w fun e w' => ∃ g cap', e = .returned (.slice (some ⟨g, 0, none⟩) (n + 3) cap') ∧ w.heap.size ≤ g ∧
      w'.ownsRow w.heap.size 5 1 (.slice (some ⟨g, 0, none⟩) (n + 3) cap') (n + 3) ((zs ++ [161, 162, 163]).map (Value.int .u8)) ∧ w.grownBy w' none := by
  go_enter Try.func10, Try.ntmps10
  go_wp2_with fail
  refine (refBytes_any ao n cap zs _ hb (by omega)).mono ?_
  rintro en w0 ⟨rfl, hown0, hg0, hs0⟩
  clear hb
  go_wp2_with (at_builtin; refine wpList_append_byt rfl _ _ rfl w.heap.size _ n zs rfl (hown0.alloc _) (some ⟨w0.heap.size, 0, none⟩) 3 3 [161, 162, 163] rfl (Byt.lit w0 5 _ [161, 162, 163] 3 rfl rfl) (by omega) (by have := hg0.size; simp; omega) ?_)
  intro v' w1 h1 h2
  have hg2 := grown_own hg0 hown0 (Nat.le_refl _) h2
  have h3 : w1.ownsRow w.heap.size 5 1 v' (n + 3) ((zs ++ [161, 162, 163]).map (Value.int .u8)) := by rw [List.map_append]; simpa using h1
  obtain ⟨g, cap', hv, hbg, _, _⟩ := owns_shape h3 (by omega)
  subst hv
  have H3 : Hid _ := h3
  have HG : Hid (w.grownBy w1 none) := hg2
  clear h1 h2 h3 hg2 hown0
  go_wp2
  go_ret
  exact ⟨_, _, rfl, hbg, H3.out, HG.out⟩

/-- Some bytes are owned at block g. -/
def SomeBytes (w : World) (base g n c : Nat) : Prop := ∃ ys : List Int, Bt ys ∧ w.ownsRow base 5 1 (.slice (some ⟨g, 0, none⟩) n c) n (ys.map (Value.int .u8))

theorem SomeBytes.stored {w : World} {base g n c : Nat} (h : SomeBytes w base g n c) (k : Nat) (v : Int) (hv : 0 ≤ v ∧ v ≤ 255) : SomeBytes (w.setCell ⟨g, k, none⟩ (.int .u8 v)) base g n c ∧ w.grownBy (w.setCell ⟨g, k, none⟩ (.int .u8 v)) (some g) := by
  obtain ⟨ys, hb, ho⟩ := h
  obtain ⟨h1, h2⟩ := ho.stored k (.int .u8 v)
  refine ⟨⟨ys.set k v, ?_, by rw [List.map_set]; exact h1⟩, h2⟩
  intro z hz
  rcases List.mem_or_eq_of_mem_set hz with h | h
  · exact hb z h
  · rw [h]; exact hv

theorem SomeBytes.at {w : World} {base g n c : Nat} (h : SomeBytes w base g n c) (k : Nat) (hk : k < n) : ∃ z, 0 ≤ z ∧ z ≤ 255 ∧ w.cell? ⟨g, k, none⟩ = some (.int .u8 z) ∧ w.frozen? ⟨g, k, none⟩ = false := by
  obtain ⟨ys, hb, ho⟩ := h
  have hl : ys.length = n := by have := ho.1; simpa using this
  refine ⟨ys.getD k 0, (hb.getD k).1, (hb.getD k).2, ?_, ho.frozenAt k⟩
  rw [ho.cellAt k (by omega)]
  have : k < ys.length := by omega
  simp [List.getD, List.getElem?_eq_getElem this]

end Go.Proofs.Ythebdbdahdegfaa
