import Derived.Test.YtiljdhhfhjhhiaaDkA
import Derived.Lib.BitFns
namespace Go.Proofs.Ytiljdhhfhjhhiaa
open Go.RowKit Go.MuLone

theorem xor_byte12 {z x : Int} (hz : 0 ≤ z ∧ z ≤ 255) (hx : 0 ≤ x ∧ x ≤ 255) : 0 ≤ bits .xor .u8 z x ∧ bits .xor .u8 z x ≤ 255 := by
  have e := u8_xor z x hz.1 (by omega) hx.1 (by omega)
  have hlt := Nat.xor_lt_two_pow (x := z.toNat) (y := x.toNat) (n := 8) (by omega) (by omega)
  omega

/-- A page with one byte turned. -/
def rotZ (k : Nat) (x : Int) (z : List Int) : List Int := z.set k (bits .xor .u8 (z.getD k 0) x)
theorem rotZ_len (k : Nat) (x : Int) (z : List Int) : (rotZ k x z).length = z.length := List.length_set ..
theorem rotZ_bt {k : Nat} {x : Int} {z : List Int} (hz : Bt z) (hx : 0 ≤ x ∧ x ≤ 255) : Bt (rotZ k x z) := by
  intro y hy
  unfold rotZ at hy
  rcases List.mem_or_eq_of_mem_set hy with e | e
  · exact hz y e
  · subst e
    refine xor_byte12 ?_ hx
    by_cases h : k < z.length
    · rw [List.getD, List.getElem?_eq_getElem h]; exact hz _ (List.getElem_mem h)
    · rw [List.getD, List.getElem?_eq_none (by omega)]; exact ⟨by simp, by simp⟩

/-- A write, turned if it is of page i. -/
def rotP (i k : Nat) (x : Int) (p : Nat × Nat × List Int) : Nat × Nat × List Int := if p.1 = i then (p.1, p.2.1, rotZ k x p.2.2) else p
theorem rotP_same (i k : Nat) (x : Int) (p : Nat × Nat × List Int) : ((rotP i k x p).1, (rotP i k x p).2.1) = (p.1, p.2.1) := by unfold rotP; split <;> rfl
/-- The first n writes are turned. -/
def rotK (i k : Nat) (x : Int) (l : List (Nat × Nat × List Int)) (n : Nat) : List (Nat × Nat × List Int) := (l.take n).map (rotP i k x) ++ l.drop n
theorem rotK_zero (i k : Nat) (x : Int) (l : List (Nat × Nat × List Int)) : rotK i k x l 0 = l := by simp [rotK]
theorem rotK_all (i k : Nat) (x : Int) (l : List (Nat × Nat × List Int)) : rotK i k x l l.length = l.map (rotP i k x) := by simp [rotK]
theorem rotK_map (i k : Nat) (x : Int) (l : List (Nat × Nat × List Int)) (n : Nat) : (rotK i k x l n).map (fun p => (p.1, p.2.1)) = l.map fun p => (p.1, p.2.1) := by
  unfold rotK
  rw [List.map_append, List.map_map]
  have : ((fun p : Nat × Nat × List Int => (p.1, p.2.1)) ∘ rotP i k x) = fun p => (p.1, p.2.1) := funext fun p => rotP_same i k x p
  rw [this, ← List.map_append, List.take_append_drop]
theorem rotK_at (i k : Nat) (x : Int) (l : List (Nat × Nat × List Int)) (n : Nat) (p : Nat × Nat × List Int) (h : l[n]? = some p) : (rotK i k x l n)[n]? = some p := by
  have hn := (List.getElem?_eq_some_iff.1 h).1
  unfold rotK
  rw [List.getElem?_append_right (by simp; omega), List.length_map, List.length_take, Nat.min_eq_left (by omega), Nat.sub_self, List.getElem?_drop, Nat.add_zero]
  exact h
theorem rotK_succ (i k : Nat) (x : Int) (l : List (Nat × Nat × List Int)) (n : Nat) (p : Nat × Nat × List Int) (h : l[n]? = some p) : rotK i k x l (n + 1) = (rotK i k x l n).set n (rotP i k x p) := by
  have hn := (List.getElem?_eq_some_iff.1 h).1
  unfold rotK
  rw [List.take_add_one, h, Option.toList_some, List.map_append, List.append_assoc, List.set_append_right _ _ (by simp; omega), List.length_map, List.length_take, Nat.min_eq_left (by omega), Nat.sub_self]
  congr 1
  rw [List.drop_eq_getElem_cons hn]
  rfl
theorem rotK_noop (i k : Nat) (x : Int) (l : List (Nat × Nat × List Int)) (n : Nat) (p : Nat × Nat × List Int) (h : l[n]? = some p) (hp : ¬ p.1 = i) : rotK i k x l (n + 1) = rotK i k x l n := by
  rw [rotK_succ i k x l n p h]
  have e : rotP i k x p = p := by unfold rotP; rw [if_neg hp]
  rw [e]
  have hk := rotK_at i k x l n p h
  obtain ⟨h1, h2⟩ := List.getElem?_eq_some_iff.1 hk
  rw [← h2]
  exact List.set_getElem_self h1

theorem nw_map (l : List (Nat × Nat × List Int)) (i : Nat) : nw l i = (((l.map fun p => (p.1, p.2.1)).reverse.find? fun q => q.1 == i).map (·.2)) := by
  unfold nw
  rw [← List.map_reverse, List.find?_map, Option.map_map]
  rfl
theorem wcells_map (l : List (Nat × Nat × List Int)) : wcells l = (l.map fun p => (p.1, p.2.1)).flatMap fun q => [.int .i64 q.1, pv q.2] := by
  unfold wcells
  rw [List.flatMap_map]

/-- The block of a write is written on. -/
theorem Dm.pend {w w' : World} {F : Nat → Prop} {d : Dd} {g : Nat} {pl' : List (Nat × Nat × List Int)} (h : Dm w F d) (hgm : g ∈ d.pl.map (·.2.1)) (hg : w.grownBy w' (some g)) (e : (pl'.map fun p => (p.1, p.2.1)) = d.pl.map fun p => (p.1, p.2.1)) (hp : ∀ p ∈ pl', Pb w' F p.2.1 p.2.2) : Dm w' F { d with pl := pl' } := by
  obtain ⟨p0, hp0, rfl⟩ := List.mem_map.1 hgm
  have hpb := (h.pp p0 hp0).1
  obtain ⟨n0, hn0, hmp⟩ := h.mp
  obtain ⟨es, clock, hmm⟩ := hmp.isMap
  have hl : pl'.length = d.pl.length := by have := congrArg List.length e; simpa using this
  have e2 : pl'.map (·.2.1) = d.pl.map (·.2.1) := by
    have := congrArg (List.map Prod.snd) e
    rw [List.map_map, List.map_map] at this
    exact this
  have e3 : nw pl' = nw d.pl := by funext i; rw [nw_map, nw_map, e]
  have e4 : wcells pl' = wcells d.pl := by rw [wcells_map, wcells_map, e]
  have st : ∀ k, k < w.heap.size → k ≠ p0.2.1 → w'.heap[k]? = w.heap[k]? := fun k hk hn => hg.block k hk (fun e => hn (Option.some.inj e))
  have ty : ∀ k cs t fz, w.heap[k]? = some (.cells cs t fz) → t ≠ 5 → k ≠ p0.2.1 := by
    intro k cs t fz hk ht e
    subst e
    rw [hpb.at_] at hk
    simp only [Option.some.injEq, Obj.cells.injEq] at hk
    exact ht hk.2.1.symm
  have row : ∀ (v : Value) (t : TypeId) (sz n : Nat) (xs : List Value), t ≠ 5 → w.ownsRow 0 t sz v n xs → ∀ k, v.ownBlock = some k → w'.heap[k]? = w.heap[k]? := by
    intro v t sz n xs ht ho k hk
    rcases ho.2 with ⟨hv, _⟩ | ⟨g', cap, cur, hv, _, hg', _⟩
    · rw [hv] at hk; cases hk
    · rw [hv] at hk
      have := Option.some.inj hk
      simp at this
      subst this
      exact st g' (Array.getElem?_eq_some_iff.1 hg').1 (ty g' _ _ _ hg' ht)
  refine ⟨owns_same h.lr (row _ _ _ _ _ (by decide) h.lr), h.fl, ?_, h.fp, fun y hy => (h.bp y hy).same (st _ (h.bp y hy).lt (fun ee => ?_)), fun p hpp => ⟨hp p hpp, ?_⟩, by rw [e2]; exact h.nd, ⟨n0, hn0, ?_⟩, by rw [hl]; exact h.pc, h.fm, fun k hk => Nat.lt_of_lt_of_le (h.low k hk) hg.size⟩
  · rw [hl, e4]
    exact owns_same h.pr (row _ _ _ _ _ (by decide) h.pr)
  · exact (List.nodup_append.1 h.nd).2.2 y.1 (List.mem_map.2 ⟨y, hy, rfl⟩) p0.2.1 hgm ee
  · have : (p.1, p.2.1) ∈ d.pl.map fun p => (p.1, p.2.1) := by rw [← e]; exact List.mem_map.2 ⟨p, hpp, rfl⟩
    obtain ⟨q, hq, eq⟩ := List.mem_map.1 this
    have := (h.pp q hq).2
    simp only [Prod.mk.injEq] at eq
    omega
  · rw [e3]
    refine hmp.same (st _ (Array.getElem?_eq_some_iff.1 hmm).1 (fun ee => ?_))
    rw [ee, hpb.at_] at hmm
    cases hmm
end Go.Proofs.Ytiljdhhfhjhhiaa
