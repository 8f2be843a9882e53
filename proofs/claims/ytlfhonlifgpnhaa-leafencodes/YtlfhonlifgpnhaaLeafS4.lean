import Derived.Test.YtlfhonlifgpnhaaLeafS3
namespace Go.Proofs.Ytlfhonlifgpnhaa
open Go.RowKit

/-- As many items, of the same lengths and numbers. -/
structure Sm (L M : List It) : Prop where
  len : M.length = L.length
  el : ∀ j, j < L.length → (M.getD j it0).key.length = (L.getD j it0).key.length ∧ (M.getD j it0).val.length = (L.getD j it0).val.length ∧ (M.getD j it0).size = (L.getD j it0).size ∧ (M.getD j it0).first = (L.getD j it0).first
theorem Sm.refl (L : List It) : Sm L L := ⟨rfl, fun _ _ => ⟨rfl, rfl, rfl, rfl⟩⟩
theorem Sm.symm {L M : List It} (h : Sm L M) : Sm M L := ⟨h.len.symm, fun j hj => by
  obtain ⟨a, b, c, d⟩ := h.el j (by have := h.len; omega)
  exact ⟨a.symm, b.symm, c.symm, d.symm⟩⟩
theorem Sm.trans {L M N : List It} (h : Sm L M) (g : Sm M N) : Sm L N := ⟨g.len.trans h.len, fun j hj => by
  obtain ⟨a, b, c, d⟩ := h.el j hj
  obtain ⟨a', b', c', d'⟩ := g.el j (by have := h.len; omega)
  exact ⟨a'.trans a, b'.trans b, c'.trans c, d'.trans d⟩⟩
theorem set_getD {L : List It} {i : Nat} (hi : i < L.length) (x : It) (j : Nat) : (L.set i x).getD j it0 = if j = i then x else L.getD j it0 := by
  by_cases e : j = i
  · subst e; rw [if_pos rfl]; simp only [List.getD, List.getElem?_set_self hi, Option.getD_some]
  · rw [if_neg e]; simp only [List.getD]; rw [List.getElem?_set_ne (fun h => e h.symm)]
theorem Sm.set {L : List It} {i : Nat} (hi : i < L.length) {x : It} (h : x.key.length = (L.getD i it0).key.length ∧ x.val.length = (L.getD i it0).val.length ∧ x.size = (L.getD i it0).size ∧ x.first = (L.getD i it0).first) : Sm L (L.set i x) := by
  refine ⟨List.length_set, fun j _ => ?_⟩
  rw [set_getD hi]
  by_cases e : j = i
  · subst e; rw [if_pos rfl]; exact h
  · rw [if_neg e]; exact ⟨rfl, rfl, rfl, rfl⟩
theorem Ib.set {L : List It} (h : Ib L) {i : Nat} {x : It} (hx : Itb x) : Ib (L.set i x) := by
  intro y hy
  rcases List.mem_or_eq_of_mem_set hy with h1 | h1
  · exact h y h1
  · subst h1; exact hx
theorem placeT (x : Int) (n : Nat) (h : 0 < n) : ∃ (k : Nat) (y : Int), k < n ∧ Int.tmod x (n : Int) = y ∧ -(n : Int) < y ∧ y < (n : Int) ∧ Int.tmod (y + (n : Int)) (n : Int) = (k : Int) := by
  have h1 := Int.tmod_lt_of_pos x (show (0 : Int) < (n : Int) by omega)
  have h2 := Int.lt_tmod_of_pos x (show (0 : Int) < (n : Int) by omega)
  have h3 := Int.emod_nonneg (Int.tmod x n + n) (show (n : Int) ≠ 0 by omega)
  have h4 := Int.emod_lt_of_pos (Int.tmod x n + n) (show (0 : Int) < (n : Int) by omega)
  refine ⟨((Int.tmod x n + n) % n).toNat, _, by omega, rfl, h2, h1, ?_⟩
  rw [Int.tmod_eq_emod_of_nonneg (by omega)]
  omega

/-- What turned leaves. -/
structure Tn (L : List It) (n : Nat) (w : World) (en : Ending) (w' : World) : Prop where
  out : ∃ A c gk gv xs M, en = .returned (.slice (some ⟨A, 0, none⟩) n c) ∧ Lq w' w.heap.size A c gk gv xs M ∧ Sm L M ∧ Ib M ∧ n ≤ c ∧ c ≤ 9223372036854775807
  gr : w.grownBy w' none

set_option maxHeartbeats 2000000 in
set_option maxRecDepth 100000 in
theorem turned_any (a : Option Addr) (n cap : Nat) (L : List It) (pi : Int) (w : World) (hl : Il w a L) (hib : Ib L) (hn : L.length = n) (hm : n ≤ 5000) (hs : ∀ x ∈ L, x.key.length ≤ 5000 ∧ x.val.length ≤ 5000) :
    Calls Try.prog 16 #[.slice a n cap, .int .i64 pi] w fun en w' => Tn L n w en w' := by
  have HL := hid_intro hl
  have HS := hid_intro hs
  clear hl hs
  go_enter Try.func16, Try.ntmps16
  go_wp2_with fail
  refine (refItems_any a n cap L _ HL.out hn hm HS.out).mono ?_
  rintro en w1 ⟨A, c, gk, gv, xs, rfl, hlq, hnc, hcm, hg1⟩
  have Q1 := hid_intro hlq
  have G1 := hid_intro hg1
  clear hlq hg1
  by_cases h0 : n = 0
  · have h0b : ((n : Int) == 0) = true := by simp; omega
    have H0 := hid_intro h0
    clear h0
    go_wp2
    go_ret
    exact ⟨⟨A, c, gk, gv, xs, L, rfl, Q1.out, Sm.refl L, hib, hnc, hcm⟩, G1.out⟩
  · have h0' : ¬ (n : Int) = 0 := by omega
    have h0d : ((n : Int) == 0) = false := by simp; omega
    obtain ⟨j, z, hj, hz, hz1, hz2, hj2⟩ := placeT pi n (by omega)
    have hcl := (Q1.out.lm.cells (ys := []) (by rw [List.append_nil]; exact Q1.out.own) j (by omega)).1
    have hss := HS.out _ (getD_mem (show j < L.length by omega))
    obtain ⟨hko, _⟩ := Q1.out.lm.ko j (by omega)
    have hlo := (Q1.out.lm.lo j (by omega)).1
    have hit := hib.at (show j < L.length by omega)
    have hle := hko.le
    rw [List.length_append] at hle
    have g5 : (0 : Int) ≤ (j : Int) := by omega
    have g6 : (j : Int) < (n : Int) := by omega
    have hw9 : IntKind.i64.wrap (z + (n : Int)) = z + (n : Int) := by simp [IntKind.wrap, IntKind.bits, IntKind.signed]; omega
    obtain ⟨kl, hkl⟩ : ∃ kl, (L.getD j it0).key.length = kl := ⟨_, rfl⟩
    rw [hkl] at hcl hle
    have hkl5 : kl ≤ 5000 := by omega
    by_cases hk0 : kl = 0
    · have hk1 : ¬ (0 : Int) < (kl : Int) := by omega
      go_wp2
      go_ret
      exact ⟨⟨A, c, gk, gv, xs, L, rfl, Q1.out, Sm.refl L, hib, hnc, hcm⟩, G1.out⟩
    · have hk1 : (0 : Int) < (kl : Int) := by omega
      obtain ⟨q, hq⟩ : ∃ q, kl - 1 = q := ⟨_, rfl⟩
      have hq1 : (kl : Int) - 1 = (q : Int) := by omega
      have hq2 : (q : Int) < (kl : Int) := by omega
      have hq3 : (0 : Int) ≤ (q : Int) := by omega
      have cb := hko.cell (j := q) (by rw [List.length_append]; omega)
      have cf := hko.frozen q
      have hby := (hit.key.app Bt.nil).getD q
      have hxy := (xor_byte hby (show (0 : Int) ≤ 1 ∧ (1 : Int) ≤ 255 by omega)).1
      have hset := hko.set q (bits .xor .u8 (((L.getD j it0).key ++ []).getD q 0) 1) (by rw [List.length_append]; omega)
      rw [List.set_append_left _ _ (by omega)] at hset
      have hgc := grown_cell w1 (gk j).1 q (.int .u8 (bits .xor .u8 (((L.getD j it0).key ++ []).getD q 0) 1))
      have M2 := hid_intro (Q1.out.lm.setKey j (by omega) _ (by rw [List.length_set]) hgc hset)
      have O2 := hid_intro (Q1.out.own.kept hgc (.inr (fun e => own_item_ne Q1.out.own _ hko.u8 e.symm)))
      have G2 := hid_intro (grown_new G1.out hgc hlo)
      have S2 := hid_intro (Sm.set (show j < L.length by omega) (x := ⟨(L.getD j it0).key.set q (bits .xor .u8 (((L.getD j it0).key ++ []).getD q 0) 1), (L.getD j it0).val, (L.getD j it0).size, (L.getD j it0).first⟩) ⟨by simp only [List.length_set], rfl, rfl, rfl⟩)
      have I2 : Hid (Ib (L.set j ⟨(L.getD j it0).key.set q (bits .xor .u8 (((L.getD j it0).key ++ []).getD q 0) 1), (L.getD j it0).val, (L.getD j it0).size, (L.getD j it0).first⟩)) := hib.set ⟨hit.key.set4 q _ hxy, hit.val, hit.s1, hit.s2, hit.f1, hit.f2⟩
      have N2 : Hid ((L.set j ⟨(L.getD j it0).key.set q (bits .xor .u8 (((L.getD j it0).key ++ []).getD q 0) 1), (L.getD j it0).val, (L.getD j it0).size, (L.getD j it0).first⟩).length = L.length) := List.length_set
      generalize L.set j ⟨(L.getD j it0).key.set q (bits .xor .u8 (((L.getD j it0).key ++ []).getD q 0) 1), (L.getD j it0).val, (L.getD j it0).size, (L.getD j it0).first⟩ = M at *
      generalize ((L.getD j it0).key ++ []).getD q 0 = by0 at *
      rw [← N2.out] at O2
      clear hset hgc hkl hko
      generalize (gk j).1 = g at *
      generalize (gk j).2 = kcp at *
      go_wp2
      go_ret
      exact ⟨⟨A, c, gk, gv, xs, M, rfl, ⟨O2.out, M2.out⟩, S2.out, I2.out, hnc, hcm⟩, G2.out⟩
end Go.Proofs.Ytlfhonlifgpnhaa
