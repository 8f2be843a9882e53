import Derived.Test.YtiljdhhfhjhhiaaDp2
namespace Go.Proofs.Ytiljdhhfhjhhiaa
open Go.RowKit Go.MuLone

theorem info_fate : (Try.prog.info? 63).map (fun i => (i.zero, i.size, i.bytes)) = some (some (.agg #[.int .i64 0, .int .i64 0]), 2, 16) := by kernel_rfl
def fcells (l : List (Int × Int)) : List Value := l.flatMap fun f => [.int .i64 f.1, .int .i64 f.2]
theorem fcells_app (a b : List (Int × Int)) : fcells (a ++ b) = fcells a ++ fcells b := by simp [fcells]
theorem fcells_at (l : List (Int × Int)) (j : Nat) (p : Int × Int) (h : l[j]? = some p) : (fcells l)[2 * j]? = some (.int .i64 p.1) ∧ (fcells l)[2 * j + 1]? = some (.int .i64 p.2) := by
  induction l generalizing j with
  | nil => simp at h
  | cons q l ih =>
    cases j with
    | zero => simp at h; subst h; simp [fcells]
    | succ j =>
      have := ih j (by simpa using h)
      rw [show 2 * (j + 1) = 2 * j + 2 by omega, show (2 * j + 2 + 1) = 2 * j + 1 + 2 by omega]
      simpa [fcells] using this
theorem Fl.kp {w w' : World} {ao : Option Addr} {fs : List (Int × Int)} {F : Nat → Prop} (h : Fl w ao fs) (hg : Kp w w' F) (hn : ∀ b off, ao = some ⟨b, off, none⟩ → ¬ F b) : Fl w' ao fs := by
  refine ⟨fun i f hf => ?_⟩
  obtain ⟨b, off, e, hb, h1, h2⟩ := h.ats i f hf
  have hk := hg.block b hb (hn b off e)
  exact ⟨b, off, e, Nat.lt_of_lt_of_le hb hg.size, by rw [World.cell?_of_block hk]; exact h1, by rw [World.cell?_of_block hk]; exact h2⟩
theorem Fl.keptN {w w' : World} {ao : Option Addr} {fs : List (Int × Int)} (h : Fl w ao fs) (hg : w.grownBy w' none) : Fl w' ao fs :=
  h.kp (F := fun _ => False) (Kp.of hg (fun k e => by cases e)) (fun _ _ _ e => e)
theorem Fl.of_owns {w : World} {base g n : Nat} {fs : List (Int × Int)} (h : w.ownsRow base 63 2 (.slice (some ⟨g, 0, none⟩) n n) n (fcells fs)) (hn : fs.length = n) : Fl w (some ⟨g, 0, none⟩) fs := by
  refine ⟨fun i f hf => ?_⟩
  have hi := (List.getElem?_eq_some_iff.1 hf).1
  refine ⟨g, 0, rfl, (h.lt g rfl).2, ?_, ?_⟩
  · rw [Nat.zero_add, h.cellAt (i * 2) (by omega), Nat.mul_comm]; exact (fcells_at _ _ _ hf).1
  · rw [Nat.zero_add, h.cellAt (i * 2 + 1) (by omega), Nat.mul_comm]; exact (fcells_at _ _ _ hf).2

theorem cell_twoF (w : World) (a b : Value) (t : TypeId) : ∀ j u, [a, b][j]? = some u → (w.alloc (.cells #[a, b] t)).cell? ((⟨w.heap.size, 0, none⟩ : Addr).add j) = some u := cell_two12 w a b t

set_option maxHeartbeats 4000000 in
set_option maxRecDepth 4000 in
theorem refFates_any (ao : Option Addr) (n cap : Nat) (fs : List (Int × Int)) (w : World) (hF : Fl w ao fs) (hfl : fs.length = n) (hn : n ≤ 8796093021952) : Calls Try.prog 29 #[.slice ao n cap] w fun e w' => e = .returned (.slice (some ⟨w.heap.size, 0, none⟩) n n) ∧ w'.ownsRow w.heap.size 63 2 (.slice (some ⟨w.heap.size, 0, none⟩) n n) n (fcells fs) ∧ w.grownBy w' none := by
  obtain ⟨i0, hi, hz0, hz1, hz2⟩ := info_parts info_fate
  have HF := hid_intro hF
  have HL := hid_intro hfl
  clear hF hfl
  go_enter Try.func29, Try.ntmps29
  go_wp2_with (at_make; refine wpList_make_own _ rfl _ _ 39 rfl w.heap.size 63 i0 (.agg #[.int .i64 0, .int .i64 0]) 2 Try.underlying39 hi hz0 hz1 _ _ _ n rfl rfl rfl ?b2 ?b3 (Nat.le_refl _) ?_)
  case b2 => rw [hz2]; omega
  case b3 => unfold maxLen; omega
  intro w0 hown0 hgrow0
  have O0 := hid_intro hown0
  have G0 := hid_intro hgrow0
  clear hown0 hgrow0
  go_wp2_with fail
  go_loopw [3, 4] (fun sv si wr => ∃ k : Nat, k ≤ n ∧ si = .int .i64 (k : Int) ∧ sv = .slice (some ⟨w.heap.size, 0, none⟩) k n ∧ wr.ownsRow w.heap.size 63 2 (.slice (some ⟨w.heap.size, 0, none⟩) k n) k (fcells (fs.take k)) ∧ w.grownBy wr none) (fun _ si _ => n - (intOf si).toNat)
  case atStart => exact ⟨0, Nat.zero_le _, rfl, rfl, O0.out, G0.out⟩
  case round =>
    obtain ⟨k, hk, rfl, rfl, hown, hg⟩ := hrel
    by_cases hlt : k < n
    · have hlt' : (k : Int) < (n : Int) := by omega
      obtain ⟨f, hf⟩ : ∃ f, fs[k]? = some f := ⟨_, List.getElem?_eq_getElem (by have := HL.out; omega)⟩
      obtain ⟨f1, f2⟩ := f
      obtain ⟨b, off, eao, hbl, x1, x2⟩ := (HF.out.keptN hg).ats k _ hf
      subst eao
      simp only at x1 x2
      have gA := World.grownBy_alloc wr (.cells #[.int .i64 f1, .int .i64 f2] 63) none
      have OA := hid_intro (hown.kept gA (Classical.em _))
      have HG := hid_intro hg
      have HFk := hid_intro hf
      have NW := hid_intro (cell_twoF wr (.int .i64 f1) (.int .i64 f2) 63)
      clear hown hg hf gA
      go_wp2_with (at_builtin; refine wpList_append_fits_any _ rfl _ _ 39 rfl w.heap.size 63 i0 2 Try.underlying39 hi hz1 w.heap.size k n _ rfl OA.out (some ⟨wr.heap.size, 0, none⟩) 1 1 [.int .i64 f1, .int .i64 f2] rfl rfl (fun e => by cases e) (fun ad e => by cases e; exact NW.out) (by intro u hu; simp at hu; rcases hu with rfl | rfl <;> rfl) (by omega) ?_)
      intro w4 hown4 hgrow4
      have O4 := hid_intro hown4
      have G4 := hid_intro (grown_new (grown_trans HG.out (World.grownBy_alloc wr (.cells #[.int .i64 f1, .int .i64 f2] 63) none)) hgrow4 (Nat.le_refl _))
      clear hown4 hgrow4
      go_wp2
      go_roundw
      case rel =>
        refine ⟨k + 1, by omega, by go_num, rfl, ?_, G4.out⟩
        rw [List.take_add_one, HFk.out, Option.toList_some, fcells_app]
        exact O4.out
      case measure => simp [intOf]; omega
    · obtain rfl : k = n := by omega
      rw [List.take_of_length_le (by have := HL.out; omega)] at hown
      go_wp2
      go_ret
      exact ⟨rfl, hown, hg⟩
end Go.Proofs.Ytiljdhhfhjhhiaa
