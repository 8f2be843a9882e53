import Derived.Test.YtoakngmagoilnaaQ10
import Derived.Test.YtoakngmagoilnaaQ13
import Derived.Test.YtoakngmagoilnaaQ15
import Derived.Test.YtoakngmagoilnaaQ5
import Derived.Lib.SlBytesConst
namespace Go.Proofs.Ytoakngmagoilnaa
open Go.RowKit
theorem own_ne {w : World} {base sz : Nat} {e t : TypeId} {v : Value} {n : Nat} {xs : List Value} (ho : w.ownsRow base e sz v n xs) {b : Nat} {cur : Array Value} (h1 : w.heap[b]? = some (.cells cur t (0, 0))) (ht : t ≠ e) : some b ≠ v.ownBlock := by
 intro e1
 rcases ho.2 with ⟨rfl, _⟩ | ⟨g, cap, cur', rfl, _, hg, _⟩
 ·cases e1
 ·obtain rfl : b = g := Option.some.inj e1
  rw [h1] at hg
  simp only [Option.some.injEq, Obj.cells.injEq] at hg
  exact ht hg.2.1
structure Sv (w : World) (base : Nat) (xs : List Value) (L : List (List Int)) : Prop where
 len : xs.length = L.length
 el : ∀ j, j < L.length → ∃ g, xs[j]? = some (.slice (some ⟨g, 0, none⟩) (L.getD j []).length (L.getD j []).length) ∧ Rw w g (L.getD j []) ∧ base ≤ g ∧ (L.getD j []).length ≤ 140737488351240
theorem Sv.nil (w : World) (base : Nat) : Sv w base [] [] := ⟨rfl, fun j hj => by simp at hj⟩
theorem Sv.kept {w w' : World} {base : Nat} {xs : List Value} {L : List (List Int)} {row : Option Nat} (h : Sv w base xs L) (hg : w.grownBy w' row) (hne : ∀ (g : Nat) (zs : List Int), base ≤ g → Rw w g zs → some g ≠ row) : Sv w' base xs L := by
 refine ⟨h.len, fun j hj => ?_⟩
 obtain ⟨g, h1, h2, h3, h4⟩ := h.el j hj
 exact ⟨g, h1, h2.kept hg (hne g _ h3 h2), h3, h4⟩
theorem Sv.snoc {w : World} {base : Nat} {xs : List Value} {L : List (List Int)} (h : Sv w base xs L) {g n : Nat} {x : List Int} (hx : Rw w g x) (hn : x.length = n) (hb : base ≤ g) (hm : n ≤ 140737488351240) : Sv w base (xs ++ [.slice (some ⟨g, 0, none⟩) n n]) (L ++ [x]) := by
 have hl := h.len
 refine ⟨by simp [hl], fun j hj => ?_⟩
 rw [List.length_append] at hj
 simp only [List.length_cons, List.length_nil] at hj
 by_cases e : j < L.length
 ·obtain ⟨g, h1, h2, h3, h4⟩ := h.el j e
  have eg : (L ++ [x]).getD j [] = L.getD j [] := by simp [List.getD, List.getElem?_append_left e]
  rw [eg]
  exact ⟨g, by rw [List.getElem?_append_left (by omega)]; exact h1, h2, h3, h4⟩
 ·obtain rfl : j = L.length := by omega
  have eg : (L ++ [x]).getD L.length [] = x := by simp [List.getD]
  rw [eg, hn]
  exact ⟨g, by rw [List.getElem?_append_right (by omega), hl, Nat.sub_self]; rfl, hx, hb, hm⟩
theorem Sv.lz {w : World} {base base2 : Nat} {v : Value} {n : Nat} {xs : List Value} {L : List (List Int)} (h : Sv w base2 xs L) (ho : w.ownsRow base 26 1 v n xs) : ∃ a cap, v = .slice a n cap ∧ Lz w a L ∧ L.length = n ∧ n ≤ cap ∧ cap ≤ 9223372036854775807 := by
 have hl := h.len
 have hn : L.length = n := by have := ho.1; omega
 rcases ho.2 with ⟨rfl, rfl⟩ | ⟨g, cap, cur, rfl, _, _, hc, hm, _⟩
 ·obtain rfl : L = [] := List.length_eq_zero_iff.1 hn
  exact ⟨none, 0, rfl, Lz.zero _ _, rfl, Nat.le_refl _, by omega⟩
 ·refine ⟨_, cap, rfl, ⟨fun i hi => ?_⟩, hn, hc, by unfold maxLen at hm; omega⟩
  obtain ⟨g', h1, h2, h3, h4⟩ := h.el i hi
  refine ⟨g, 0, some ⟨g', 0, none⟩, (L.getD i []).length, (L.getD i []).length, rfl, ?_, h2.all _ _ rfl, Nat.le_refl _, by omega⟩
  have := ho.cellAt i (by omega)
  rw [Nat.zero_add, this]
  exact h1
def kc : List Kd → List Value
 | [] => []
 | k :: K => .int .i64 k.no :: .int .i64 k.keys :: kc K
theorem info_bytesS : (Try.prog.info? 26).map (fun i => (i.zero, i.size, i.bytes)) = some (some (.slice none 0 0), 1, 24) := by kernel_rfl
theorem cell_one_new (w : World) (a : Value) (t : TypeId) : ∀ j u, [a][j]? = some u → (w.alloc (.cells #[a] t)).cell? ((⟨w.heap.size, 0, none⟩ : Addr).add j) = some u := by
 intro j u hu
 rw [Addr.add_lit, Nat.zero_add, cell_of_row _ w.heap.size j _ _ (0, 0) (heap_alloc_new w _)]
 simpa using hu
structure Benc (lv : Int) (L : List (List Int)) (K : List Kd) (zs : List Int) (e : Int) : Prop where
 bad : e ≠ 0 → e = bwrong lv L K ∧ zs = []
 good : e = 0 → ∃ k M, L = seps M ∧ K = kids k M ∧ BGood zs lv k M
theorem Benc.len {lv : Int} {L : List (List Int)} {K : List Kd} {zs : List Int} {e : Int} (h : Benc lv L K zs e) (he : e = 0) : zs.length = 4092 := by
 obtain ⟨k, M, rfl, rfl, h1, rfl⟩ := h.good he
 exact bbody_len (bwrong_fit.1 h1).size
theorem BGood.len {zs : List Int} {lv : Int} {k : Kd} {M : List Sk} (h : BGood zs lv k M) : zs.length = 4092 := by
 rw [← h.2]; exact bbody_len (bwrong_fit.1 h.1).size
theorem lget_ext {L M : List (List Int)} (hl : L.length = M.length) (h : ∀ j, j < L.length → L.getD j [] = M.getD j []) : L = M := by
 refine List.ext_getElem hl fun j h1 h2 => ?_
 have := h j h1
 simpa [List.getD, List.getElem?_eq_getElem h1, List.getElem?_eq_getElem h2] using this
set_option maxHeartbeats 1000000 in
set_option maxRecDepth 100000 in
theorem sameLists_any (a : Option Addr) (n cap : Nat) (L : List (List Int)) (a' : Option Addr) (n' cap' : Nat) (M : List (List Int)) (w : World) (hl : Lz w a L) (hb : Lb L) (hn : L.length = n) (hl' : Lz w a' M) (hb' : Lb M) (hn' : M.length = n') (hm : n ≤ 9223372036854775807) :
  Calls Try.prog 12 #[.slice a n cap, .slice a' n' cap'] w fun en w' => (∃ b, en = .returned (.bool b) ∧ (b = true ↔ L = M)) ∧ Qt w w' := by
 have HL := hid_intro hl
 have HM := hid_intro hl'
 have HB := hid_intro hb
 have HB' := hid_intro hb'
 clear hl hl' hb hb'
 by_cases h1 : n = n'
 ·subst h1
  go_enter Try.func12, Try.ntmps12
  go_wp2
  go_loopw [5, 6] (fun si _ wr => ∃ i : Nat, i ≤ n ∧ si = .int .i64 i ∧ (∀ j, j < i → L.getD j [] = M.getD j []) ∧ Qt w wr) (fun si _ _ => n - (intOf si).toNat)
  case atStart => exact ⟨0, Nat.zero_le _, rfl, fun j hj => by omega, Qt.refl _⟩
  case round =>
   obtain ⟨i, hi, rfl, ha, hq⟩ := hrel
   have HA := hid_intro ha
   have HQ := hid_intro hq
   clear ha hq
   by_cases hlt : i < n
   ·obtain ⟨b1, off, ao, k, c, rfl, q2, q3, q4, q5⟩ := HL.out.row i (by omega)
    obtain ⟨b2, off2, ao2, k2, c2, rfl, r2, r3, r4, r5⟩ := HM.out.row i (by omega)
    have c0 := (HQ.out.cell _).trans q2
    have c1 := (HQ.out.cell _).trans r2
    have g1 : (i : Int) < (n : Int) := by omega
    have g0 : (0 : Int) ≤ (i : Int) := by omega
    by_cases he : L.getD i [] = M.getD i []
    ·have HC := hid_intro (fun (W : World) (hW : W.heap = wr.heap) => same_yes ao ao2 k k2 c c2 _ _ W (q3.heap (hW.trans HQ.out.heap)) (r3.heap (hW.trans HQ.out.heap)) he)
     have HX1 : Hid (∀ j, j < i + 1 → L.getD j [] = M.getD j []) := by
      intro j hj
      by_cases e : j = i
      ·subst e; exact he
      ·exact HA.out j (by omega)
     clear q2 q3 r2 r3 he
     go_wp2
     go_quiet ((go_at_call 28; exact Calls.quiet_of_same (HC.out _ rfl)))
     go_wp2
     go_roundw
     case rel => exact ⟨i + 1, by omega, by go_num, HX1.out, HQ.out.trans (Qt.drewN _ _)⟩
     case measure => simp [intOf]; omega
    ·have HC := hid_intro (fun (W : World) (hW : W.heap = wr.heap) => same_no ao ao2 k k2 c c2 _ _ W (q3.heap (hW.trans HQ.out.heap)) (r3.heap (hW.trans HQ.out.heap)) (HB.out _ (lget_mem (by omega))) (HB'.out _ (lget_mem (by omega))) he)
     have HX1 : Hid (¬ L = M) := fun e => he (by rw [e])
     clear q2 q3 r2 r3 he
     go_wp2
     go_quiet ((go_at_call 28; exact Calls.quiet_of_same (HC.out _ rfl)))
     go_wp2
     go_ret
     exact ⟨⟨false, rfl, by simp [HX1.out]⟩, HQ.out.trans (Qt.drewN _ _)⟩
   ·have hin : i = n := by omega
    subst hin
    have HT : Hid (L = M) := lget_ext (by omega) (fun j hj => HA.out j (by omega))
    go_wp2
    go_ret
    exact ⟨⟨true, rfl, by simp [HT.out]⟩, HQ.out⟩
 ·have HX1 : Hid (¬ L = M) := fun e => h1 (by rw [← hn, ← hn', e])
  have h1' : ¬ (n : Int) = (n' : Int) := by omega
  go_enter Try.func12, Try.ntmps12
  go_wp2
  go_ret
  exact ⟨⟨false, rfl, by simp [HX1.out]⟩, Qt.refl _⟩
end Go.Proofs.Ytoakngmagoilnaa
