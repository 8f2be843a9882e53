import Derived.Test.YtlfhonlifgpnhaaLeafS1
namespace Go.Proofs.Ytlfhonlifgpnhaa
open Go.RowKit
attribute [local go_sem ↓] Go.wp_at_zero Go.wp_at_succ

theorem ow_of_new {w : World} {base g n : Nat} {zs : List Int} (h : w.ownsRow base 5 1 (.slice (some ⟨g, 0, none⟩) n n) n (zs.map (Value.int .u8))) : Ow w g n zs := (Ow.of_owns h).1

theorem gr4 (w : World) (U : Nat) (v0 v1 v2 v3 : Value) : w.grownBy ((((w.setCell ⟨U, 0, none⟩ v0).setCell ⟨U, 1, none⟩ v1).setCell ⟨U, 2, none⟩ v2).setCell ⟨U, 3, none⟩ v3) (some U) :=
  grown_trans (grown_trans (grown_trans (grown_cell w U 0 v0) (grown_cell _ U 1 v1)) (grown_cell _ U 2 v2)) (grown_cell _ U 3 v3)
theorem gc4 {w : World} {U b o : Nat} {v0 v1 v2 v3 v : Value} (hne : b ≠ U) (h : w.cell? ⟨b, o, none⟩ = some v) : ((((w.setCell ⟨U, 0, none⟩ v0).setCell ⟨U, 1, none⟩ v1).setCell ⟨U, 2, none⟩ v2).setCell ⟨U, 3, none⟩ v3).cell? ⟨b, o, none⟩ = some v :=
  (gr4 w U v0 v1 v2 v3).cell h (fun e => hne (Option.some.inj e))

set_option maxHeartbeats 2000000 in
set_option maxRecDepth 100000 in
/-- coppiceref.Item. -/
theorem refItem_any (ao : Option Addr) (n c : Nat) (bo : Option Addr) (m d : Nat) (s f : Int) (x : It) (w : World) (hk : Byt w ao n c x.key) (hv : Byt w bo m d x.val) (hn : n ≤ 100000) (hm : m ≤ 100000) :
    Calls Try.prog 46 #[.agg #[.slice ao n c, .slice bo m d, .int .i64 s, .int .i64 f]] w fun en w' => ∃ g1 g2, en = .returned (.agg #[.slice (some ⟨g1, 0, none⟩) n n, .slice (some ⟨g2, 0, none⟩) m m, .int .i64 s, .int .i64 f]) ∧ Ow w' g1 n x.key ∧ Ow w' g2 m x.val ∧ w.heap.size ≤ g1 ∧ w.heap.size ≤ g2 ∧ g1 ≠ g2 ∧ w.grownBy w' none := by
  have ga := World.grownBy_alloc w (.cells #[.slice ao n c, .slice bo m d, .int .i64 s, .int .i64 f] 48) none
  have gb := World.grownBy_alloc (w.alloc (.cells #[.slice ao n c, .slice bo m d, .int .i64 s, .int .i64 f] 48)) (.cells #[.slice none 0 0, .slice none 0 0, .int .i64 0, .int .i64 0] 48) none
  have HG := hid_intro (grown_trans ga gb)
  have hs1 : (w.alloc (.cells #[.slice ao n c, .slice bo m d, .int .i64 s, .int .i64 f] 48)).heap.size = w.heap.size + 1 := by simp
  have X1 := hid_intro ((Bx.new w (.slice ao n c) (.slice bo m d) (.int .i64 s) (.int .i64 f)).kept gb (by simp))
  have Y1 := hid_intro (Bx.new (w.alloc (.cells #[.slice ao n c, .slice bo m d, .int .i64 s, .int .i64 f] 48)) (.slice none 0 0) (.slice none 0 0) (.int .i64 0) (.int .i64 0))
  rw [hs1] at Y1
  have K1 := hid_intro (hk.keptN (grown_trans ga gb))
  have V1 := hid_intro (hv.keptN (grown_trans ga gb))
  have hsz : ((w.alloc (.cells #[.slice ao n c, .slice bo m d, .int .i64 s, .int .i64 f] 48)).alloc (.cells #[.slice none 0 0, .slice none 0 0, .int .i64 0, .int .i64 0] 48)).heap.size = w.heap.size + 2 := by simp
  clear ga gb hs1 hk hv
  go_enter Try.func46, Try.ntmps46
  go_upto_region 1 with fail
  generalize (w.alloc (.cells #[.slice ao n c, .slice bo m d, .int .i64 s, .int .i64 f] 48)).alloc (.cells #[.slice none 0 0, .slice none 0 0, .int .i64 0, .int .i64 0] 48) = w1 at *
  obtain ⟨B, hB⟩ : ∃ B, w.heap.size = B := ⟨_, rfl⟩
  rw [hB] at X1 Y1 hsz ⊢
  obtain ⟨U, hU⟩ : ∃ U, B + 1 = U := ⟨_, rfl⟩
  rw [hU] at Y1 ⊢
  have hBU : B ≠ U := by omega
  have hBU2 : ¬ B = U := by omega
  have hUs : U < w1.heap.size := by omega
  have HS1 : Hid (w1.heap.size = B + 2) := hsz
  clear hsz
  obtain ⟨x0, x1, x2, x3⟩ := X1.out.cells
  go_region_held3 (fun w' => w'.cell? ⟨B, 0, none⟩ = some (.slice ao n c) ∧ w'.cell? ⟨B, 1, none⟩ = some (.slice bo m d) ∧ w'.cell? ⟨B, 2, none⟩ = some (.int .i64 s) ∧ w'.cell? ⟨B, 3, none⟩ = some (.int .i64 f)) (first | go_keep | exact ⟨gc4 hBU y0, gc4 hBU y1, gc4 hBU y2, gc4 hBU y3⟩)
    ((first
      | (go_simp; go_at_call 19; refine (refBytes_any bo m d x.val _ (by exact (V1.out.keptN ((Qt.refl _).drew.grown none)).keptN hg2) (by omega)).mono ?_; rintro en w3 ⟨rfl, hown3, hg3, hs3⟩; obtain ⟨y0, y1, y2, y3⟩ := (X1.out.kept (grown_trans (grown_trans ((Qt.refl _).drew.grown none) hg2) hg3) (by simp)).cells; obtain ⟨z0, z1, z2, z3⟩ := (Y1.out.kept (grown_trans (grown_trans ((Qt.refl _).drew.grown none) hg2) hg3) (by simp)).cells; have f0 := (Y1.out.kept (grown_trans (grown_trans ((Qt.refl _).drew.grown none) hg2) hg3) (by simp)).frozen 0; have f1 := (Y1.out.kept (grown_trans (grown_trans ((Qt.refl _).drew.grown none) hg2) hg3) (by simp)).frozen 1; have f2 := (Y1.out.kept (grown_trans (grown_trans ((Qt.refl _).drew.grown none) hg2) hg3) (by simp)).frozen 2; have f3 := (Y1.out.kept (grown_trans (grown_trans ((Qt.refl _).drew.grown none) hg2) hg3) (by simp)).frozen 3)
      | (go_simp; go_at_call 19; refine (refBytes_any ao n c x.key _ (by exact K1.out.keptN ((Qt.refl _).drew.grown none)) (by omega)).mono ?_; rintro en w2 ⟨rfl, hown2, hg2, hs2⟩; obtain ⟨y0, y1, y2, y3⟩ := (X1.out.kept (grown_trans ((Qt.refl _).drew.grown none) hg2) (by simp)).cells)))
  have hY3 := Y1.out.kept (grown_trans (grown_trans ((Qt.refl _).drew.grown none) hg2) hg3) (by simp)
  have hG3 := gr4 w3 U (.slice (some ⟨w1.heap.size, 0, none⟩) n n) (.slice (some ⟨w2.heap.size, 0, none⟩) m m) (.int .i64 s) (.int .i64 f)
  have hd := (((hY3.set0 (.slice (some ⟨w1.heap.size, 0, none⟩) n n)).set1 (.slice (some ⟨w2.heap.size, 0, none⟩) m m)).set2 (.int .i64 s)).set3 (.int .i64 f)
  have hk2 : Ow w2 w1.heap.size n x.key := ow_of_new hown2
  have hv3 : Ow w3 w2.heap.size m x.val := ow_of_new hown3
  have hs2' : w1.heap.size < w2.heap.size := hs2
  have hGW : w.grownBy w3 none := grown_trans HG.out (grown_trans (grown_trans ((Qt.refl _).drew.grown none) hg2) hg3)
  have hB9 := HS1.out
  have hk3 := (hk2.keptN hg3).kept hG3 (fun e => by have := Option.some.inj e; omega)
  have hv4 := hv3.kept hG3 (fun e => by have := Option.some.inj e; omega)
  have hGF := grown_new hGW hG3 (by omega)
  go_wp2
  refine bodyPost_ret (ret_item rfl _ _ U _ _ _ _ rfl hd) rfl ?_
  exact ⟨_, _, rfl, hk3, hv4, by omega, by omega, by omega, hGF⟩
end Go.Proofs.Ytlfhonlifgpnhaa
