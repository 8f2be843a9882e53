import Derived.Test.YtpoflmcmlnghhaaPl1
import Derived.Test.YtpoflmcmlnghhaaShelfP
namespace Go.Proofs.Ytpoflmcmlnghhaa
open Go.RowKit Go.Maps Go.Sort Go.Shelf

/-- The number of a value. -/
def zOf : Value → Int
  | .int _ a => a
  | _ => 0

/-- The length of a slice. -/
def lnOf : Value → Nat
  | .slice _ n _ => n
  | _ => 0
/-- Numbers sorted. -/
def srt (us : List Int) : List Int := us.mergeSort fun x y => decide (x ≤ y)
theorem srt_len (us : List Int) : (srt us).length = us.length := by simp [srt]

/-- slices.Sort of a list of the call's own. -/
theorem sort_any {base : Nat} {v : Value} {us : List Int} (w : World) (h : w.ownsRow base 3 1 v us.length (us.map (Value.int .i64))) (hs : us.length < 4611686018427387904) :
    Calls Try.prog 40 #[v] w fun e w' => e = .returned (.tuple #[]) ∧ w'.ownsRow base 3 1 v us.length ((srt us).map (Value.int .i64)) ∧ w.grownBy w' v.ownBlock := by
  have hl : us.length = us.length := rfl
  rcases h.2 with ⟨rfl, h0⟩ | ⟨g, cap, cur, rfl, hb, hc, h1, h2, h3, h4⟩
  · have e : us = [] := List.length_eq_zero_iff.1 h0
    subst e
    refine (AnyM.slices_Sort_int_none sortA none 0 w).mono ?_
    rintro e w' ⟨rfl, rfl⟩
    exact ⟨rfl, by simpa [srt] using h, World.grownBy.refl _ _⟩
  · have hH : Holds (Value.int .i64) w g 0 us.toArray := holds_of_block_i hc (by simpa using h4)
    refine (AnyM.slices_Sort_int sortA g 0 cap us w hH (Array.getElem?_eq_some_iff.1 hc).1 hs).mono ?_
    rintro e w' ⟨rfl, n, os, rfl⟩
    exact ⟨rfl, ownsRow_sorted_i (srt_len us) hb hc h1 h2 h3, grownBy_sorted_i _⟩

theorem sortsA (m : Nat) : AnyZI.SortsIn Try.prog sortedA_ren Fence.wide m :=
  ⟨fun blk off cap ss W hH hblk hsz => callsIn_wide.2 (AnyM.slices_Sort_int sortA blk off cap ss W hH hblk hsz),
   fun p cap W => callsIn_wide.2 (AnyM.slices_Sort_int_none sortA p cap W)⟩

theorem keys_imD (l : List (Int × Int)) : intKeys (imD l) = l.map (·.1) := by
  simp [intKeys, imD, encI, Go.intOf, List.map_map, Function.comp_def]

set_option maxHeartbeats 1000000 in
theorem free_any {w : World} {B s q : Nat} {p : Po} (h : Pl w B s q p) (hs : p.l.length ≤ 1000000) :
    Calls Try.prog 15 #[.pointer (some ⟨B, 0, none⟩)] w fun e w' => ∃ v, e = .returned v ∧ w'.ownsRow w.heap.size 3 1 v p.l.length ((p.l.map (·.1)).map (Value.int .i64)) ∧ w.grownBy w' none := by
  refine (callsIn_wide (n := 6)).1 ?_
  have c2 := h.c2
  have hown := h.ms
  have hbl := h.ms.lt
  have hsz : Maps.size (imD p.l) = p.l.length := imD_size p.l
  have hseq : SeqGives Fence.wide 2 Try.prog 51 #[.pointer (some ⟨w.heap.size, 0, none⟩)] encZ (fun ss => ss.Perm (intKeys (imD p.l))) (Maps.size (imD p.l)) (w.alloc (.cells #[.map (some s)] 67)) :=
    AnyZI.keys_gives (ρ := keysA_ren) { keysA with } Fence.wide _ trivial rfl (by omega) w.heap.size s p.l.length (imD p.l) _ (by simp) (by simp) (by
      obtain ⟨es, clock, hb, Ft, hs, hD⟩ := hown
      exact ⟨es, clock, (Below.heap_alloc _ _ s hbl).trans hb, Ft, hs, hD⟩)
  have cK : ∀ mb W, CallsIn Fence.wide 5 Try.prog 42 #[.map mb] W fun e w' => e = .returned (.func (.func 51) #[] #[.pointer (some ⟨W.heap.size, 0, none⟩)]) ∧ w' = W.alloc (.cells #[.map mb] 67) := fun mb W => AnyZI.keys_in keysA Fence.wide 5 trivial rfl mb W
  have cS := AnyZI.sorted_in sortedA Fence.wide 5 trivial trivial trivial trivial rfl (by omega) (sortsA _) (enters_of Try.func40 (by kernel_rfl) rfl) 51 #[.pointer (some ⟨w.heap.size, 0, none⟩)] trivial (enters_of Try.func51 (by kernel_rfl) rfl) _ _ (by rw [hsz]; unfold maxLen; omega) (by rw [hsz]; omega) _ hseq
  change CallsIn _ _ Try.prog 41 _ _ _ at cS
  have hfK : Fence.wide.fn 42 := trivial
  have hfS : Fence.wide.fn 41 := trivial
  have HP := hid_intro h
  have HO := hid_intro hown
  clear h hown hseq hsz
  refine callsIn_of_wp Try.func15 rfl trivial ?_ rfl
  simp only [Try.ntmps15, List.size_toArray, List.length_cons, List.length_nil, Nat.reduceAdd, Nat.reduceSub, Array.replicate_succ, Array.replicate_zero, List.push_toArray, List.append_toArray, List.nil_append, List.cons_append]
  gi_wp2_with (first
    | (gi_at_call 42; refine (cK _ _).mono ?_; rintro e w' ⟨rfl, rfl⟩)
    | (gi_at_call 41; refine cS.mono ?_; rintro e w' ⟨v, ss, rfl, hS, hrow, hnil, hb⟩))
  go_ret
  rw [keys_imD] at hS
  have hl : ss.length = p.l.length := by have := hS.length_eq; simpa using this
  have e1 : ss.mergeSort (fun x y => decide (x ≤ y)) = p.l.map (·.1) := by
    refine sort_eq ?_ HP.out.ms.ris.keys (fun x => hS.mem_iff)
    exact hS.nodup_iff.2 (HP.out.ms.ris.keys.imp fun {a b} hab => by omega)
  rw [e1, hl] at hrow
  have hbl2 := ((Below.refl _ w).alloc (Nat.le_refl _) _).trans (hb.mono (by simp))
  exact ⟨v, rfl, ownsRow_base_a hrow (by simp), ⟨hbl2.os, hbl2.tape, hbl2.output, hbl2.size, fun i hi _ => hbl2.block i hi⟩⟩
end Go.Proofs.Ytpoflmcmlnghhaa
