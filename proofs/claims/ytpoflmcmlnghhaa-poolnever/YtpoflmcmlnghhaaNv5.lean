import Derived.Test.YtpoflmcmlnghhaaNv4
namespace Go.Proofs.Ytpoflmcmlnghhaa
open Go.RowKit Go.Maps

def tkN (ls : Fin 4 → List Int) (no : Int) : Fin 4 → List Int := upd ls 0 (ls 0 ++ [no])
set_option maxHeartbeats 4000000 in
set_option maxRecDepth 100000 in
theorem taken_new {w : World} {F : Nat → Prop} {X B : Nat} {vs : Fin 4 → Value} {ls : Fin 4 → List Int} {ver : Int} (h : Lv w F X B vs ls ver) (no cnt : Int) (n : Nat) (hm : no ∉ ls 0) (h2 : 2 ≤ no) (hn1 : (ls 1).length = n) (hf : no ∉ ls 1) (hc : cnt ≤ no) (hs0 : (ls 0).length ≤ 1000000) (hs1 : n ≤ 1000000) :
    Calls Try.prog 39 #[.pointer (some ⟨X, 0, none⟩), .int .i64 no, .int .i64 cnt] w fun e w' => e = .returned (.bool true) ∧ ∃ vs', Lv w' (Nf F w w') X B vs' (tkN ls no) ver ∧ Fr w w' F := by
  have HL := hid_intro h
  have HL1 := hid_intro hn1
  obtain ⟨mo, mcap, em, mnt, mc1, mc2⟩ := (h.own 0).shape
  have c1 := h.c1
  rw [em] at c1
  have HHAS := hid_intro (hasL_any mo (ls 0).length mcap (ls 0) no w mnt rfl (by omega))
  rw [decide_eq_false hm] at HHAS
  obtain ⟨fo, fcap, ef, fnt, fc1, fc2⟩ := (h.own 1).shape
  have c2 := h.c2
  rw [ef, hn1] at c2
  rw [hn1] at fc1
  have HN1 := hid_intro fnt
  have HF := hid_intro hf
  have HZ : Hid (∀ (V w8 : World) (v8 : Value), V.grownBy w8 (Value.slice mo (ls 0).length mcap).ownBlock → Qt (w.alloc (.cells #[.int .i64 no] 3)) V → Ow w8 0 v8 (ls 0 ++ [no]) → (∀ g, v8.ownBlock = some g → (Value.slice mo (ls 0).length mcap).ownBlock = some g ∨ V.heap.size ≤ g) → (∃ vs', Lv (w8.setCell ⟨X, 1, none⟩ v8) (Nf F w (w8.setCell ⟨X, 1, none⟩ v8)) X B vs' (tkN ls no) ver ∧ Fr w (w8.setCell ⟨X, 1, none⟩ v8) F) ∧ w8.cell? ⟨X, 1, none⟩ = some (.slice mo (ls 0).length mcap) ∧ w8.frozen? ⟨X, 1, none⟩ = false) := fun V w8 v8 hg hq ho hl => by
    rw [← em] at hg hl ⊢
    have h3 := h.app 0 _ hg hq v8 _ ho hl
    exact ⟨⟨_, h3.1, h3.2.1⟩, h3.2.2.1, h3.2.2.2⟩
  have HO : Hid (Ow w 0 (.slice mo (ls 0).length mcap) (ls 0)) := by
    have := h.own 0
    rw [em] at this
    exact this
  have h2' : ¬ no < 2 := by omega
  have h2d : decide (no < 2) = false := by simp; omega
  clear h hm em mnt hf hn1 ef fnt mc1
  go_enter Try.func39, Try.ntmps39
  go_wp2_with (go_at_call 17; refine HHAS.out.mono ?_; rintro en w2 ⟨rfl, hw2⟩; rw [hw2]; clear hw2)
  go_loopw [8] (fun si wr => ∃ i : Nat, i ≤ n ∧ si = .int .i64 i ∧ wr = w) (fun si _ => n - (zOf si).toNat)
  case atStart => exact ⟨0, Nat.zero_le _, rfl, rfl⟩
  case round =>
    obtain ⟨i, hi, rfl, rfl⟩ := hrel
    by_cases hlt : i < n
    · have b1 : (i : Int) < (n : Int) := by omega
      have b0 : (0 : Int) ≤ (i : Int) := by omega
      obtain ⟨fb, foff, rfl, q1⟩ := HN1.out.row i (by have := HL1.out; omega)
      have hy : (ls 1).getD i 0 ≠ no := fun e => HF.out (by rw [← e]; exact nget_mem (by have := HL1.out; omega))
      generalize (ls 1).getD i 0 = y at *
      have h3 : (y == no) = false := by simp [hy]
      clear hy
      go_wp2
      go_roundw
      case rel => exact ⟨i + 1, by omega, by go_num, by trivial⟩
      case measure => simp [zOf]; omega
    · have hin : i = n := by omega
      subst hin
      go_wp2_with (first
        | (at_builtin; refine app17 rfl _ _ rfl 0 (.slice mo (ls 0).length mcap) (ls 0) rfl (HO.out.keptN (World.grownBy_alloc wr _ none)) (some ⟨wr.heap.size, 0, none⟩) 1 1 rfl [no] (Nt.lit _ _ _ _ rfl) rfl (by simp) (by omega) (Nat.zero_le _) ?_; intro v8 w8 ho8 hg8 hl8; have Z8 := HZ.out _ w8 v8 hg8 ⟨rfl, rfl, rfl, rfl⟩ ho8 hl8; obtain ⟨va, vn, vc, hv8⟩ := owns_shape7 ho8; clear ho8 hg8 hl8; subst hv8; have c18 := Z8.2.1; have f18 := Z8.2.2; have ZZ := hid_intro Z8.1; clear Z8))
      go_ret
      exact ⟨rfl, ZZ.out⟩
end Go.Proofs.Ytpoflmcmlnghhaa
