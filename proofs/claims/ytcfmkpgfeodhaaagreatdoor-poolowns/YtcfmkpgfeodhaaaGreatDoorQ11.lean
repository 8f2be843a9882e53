import Derived.Test.YtcfmkpgfeodhaaaGreatDoorQ1
import Derived.Maps.RangeWalk
import Derived.Maps.OwnSet
import Derived.Maps.Ext
import Derived.Test.YtcfmkpgfeodhaaaGreatDoorRows
namespace Go.Proofs.YtcfmkpgfeodhaaaGreatDoor
open Go.RowKit Go.Maps
def Ris (l : List (Int × Int)) : Prop := l.Pairwise (fun p q => p.1 < q.1)
def insI (x : Int × Int) : List (Int × Int) → List (Int × Int)
 | [] => [x]
 | y :: r => if x.1 < y.1 then x :: y :: r else y :: insI x r
def delI (l : List (Int × Int)) (k : Int) : List (Int × Int) := l.filter fun p => !decide (p.1 = k)
def putI (l : List (Int × Int)) (k v : Int) : List (Int × Int) := insI (k, v) (delI l k)
def hasI (l : List (Int × Int)) (k : Int) : Bool := l.any fun p => decide (p.1 = k)
def getI (l : List (Int × Int)) (k : Int) : Int := match l.find? (fun p => decide (p.1 = k)) with | some p => p.2 | none => 0
def encI (p : Int × Int) : Lit × DataW Unit := (.int .i64 p.1, .lit (.int .i64 p.2))
def imD (l : List (Int × Int)) : DataW Unit := .map (l.map encI)
theorem same_int (a b : Int) : Lit.sameKey (.int .i64 a) (.int .i64 b) = decide (a = b) := by simp [Lit.sameKey]
theorem ins_map (x : Int × Int) (l : List (Int × Int)) : DataW.insert (encI x) (l.map encI) = (insI x l).map encI := by
 induction l with
 | nil => rfl
 | cons y r ih =>
  simp only [List.map_cons, DataW.insert, insI]
  have : Lit.before (encI x).1 (encI y).1 = decide (x.1 < y.1) := rfl
  rw [this]
  by_cases h : x.1 < y.1
  ·simp [h]
  ·simp [h, ih]
theorem del_map (l : List (Int × Int)) (k : Int) : (l.map encI).filter (fun p => !p.1.sameKey (.int .i64 k)) = (delI l k).map encI := by
 unfold delI
 rw [List.filter_map]
 congr 1
 apply List.filter_congr
 intro p _
 simp [encI, same_int]
theorem imD_put (l : List (Int × Int)) (k v : Int) : (imD l).put (.int .i64 k) (.lit (.int .i64 v)) = imD (putI l k v) := by
 show DataW.map _ = DataW.map _
 rw [del_map]
 congr 1
 exact ins_map (k, v) _
theorem imD_del (l : List (Int × Int)) (k : Int) : (imD l).del (.int .i64 k) = imD (delI l k) := by
 show DataW.map _ = DataW.map _
 rw [del_map]
theorem imD_has (l : List (Int × Int)) (k : Int) : Maps.has (imD l) (.int .i64 k) = hasI l k := by
 show (l.map encI).any _ = _
 rw [List.any_map]
 unfold hasI
 congr 1
 funext p
 simp [encI, same_int]
theorem imD_at (l : List (Int × Int)) (k : Int) : (imD l).atKey (.int .i64 k) (.lit (.int .i64 0)) = .lit (.int .i64 (getI l k)) := by
 have h : (l.map encI).find? (fun p => p.1.sameKey (.int .i64 k)) = (l.find? (fun p => decide (p.1 = k))).map encI := by
  rw [List.find?_map]
  congr 2
  funext p
  simp [encI, same_int]
 unfold imD getI DataW.atKey
 simp only [h]
 cases l.find? (fun p => decide (p.1 = k)) <;> rfl
theorem imD_size (l : List (Int × Int)) : Maps.size (imD l) = l.length := by
 show (l.map encI).length = _
 simp
theorem hasI_iff (l : List (Int × Int)) (k : Int) : hasI l k = true ↔ ∃ p ∈ l, p.1 = k := by simp [hasI]
theorem Ris.nil : Ris [] := List.Pairwise.nil
theorem Ris.sub {l m : List (Int × Int)} (h : Ris l) (s : m.Sublist l) : Ris m := h.sublist s
theorem Ris.del {l : List (Int × Int)} (h : Ris l) (k : Int) : Ris (delI l k) := h.sublist List.filter_sublist
theorem mem_insI (x : Int × Int) (l : List (Int × Int)) (p : Int × Int) : p ∈ insI x l ↔ p = x ∨ p ∈ l := by
 induction l with
 | nil => simp [insI]
 | cons y r ih =>
  unfold insI
  split
  ·simp
  ·simp only [List.mem_cons, ih]
   constructor
   ·rintro (h | h | h)
    ·exact .inr (.inl h)
    ·exact .inl h
    ·exact .inr (.inr h)
   ·rintro (h | h | h)
    ·exact .inr (.inl h)
    ·exact .inl h
    ·exact .inr (.inr h)
theorem mem_delI (l : List (Int × Int)) (k : Int) (p : Int × Int) : p ∈ delI l k ↔ p ∈ l ∧ p.1 ≠ k := by simp [delI]
theorem mem_putI (l : List (Int × Int)) (k v : Int) (p : Int × Int) : p ∈ putI l k v ↔ p = (k, v) ∨ (p ∈ l ∧ p.1 ≠ k) := by
 unfold putI
 rw [mem_insI, mem_delI]
theorem Ris.ins {l : List (Int × Int)} (h : Ris l) (x : Int × Int) (hn : ∀ p ∈ l, p.1 ≠ x.1) : Ris (insI x l) := by
 induction l with
 | nil => exact List.pairwise_singleton _ _
 | cons y r ih =>
  obtain ⟨h1, h2⟩ := List.pairwise_cons.1 h
  unfold insI
  split
  ·rename_i hx
   refine List.pairwise_cons.2 ⟨fun p hp => ?_, h⟩
   rcases List.mem_cons.1 hp with rfl | hp
   ·exact hx
   ·exact Int.lt_trans hx (h1 p hp)
  ·rename_i hx
   refine List.pairwise_cons.2 ⟨fun p hp => ?_, ih h2 (fun p hp => hn p (List.mem_cons_of_mem _ hp))⟩
   rcases (mem_insI x r p).1 hp with rfl | hp
   ·have := hn y (List.mem_cons_self ..)
    omega
   ·exact h1 p hp
theorem Ris.put {l : List (Int × Int)} (h : Ris l) (k v : Int) : Ris (putI l k v) := (h.del k).ins _ (fun p hp => ((mem_delI l k p).1 hp).2)
theorem Ris.uniq {l : List (Int × Int)} (h : Ris l) {p q : Int × Int} (hp : p ∈ l) (hq : q ∈ l) (e : p.1 = q.1) : p = q := by
 induction l with
 | nil => simp at hp
 | cons y r ih =>
  obtain ⟨h1, h2⟩ := List.pairwise_cons.1 h
  rcases List.mem_cons.1 hp with e1 | hp1
  ·rcases List.mem_cons.1 hq with e2 | hq1
   ·rw [e1, e2]
   ·have := h1 q hq1; rw [← e1] at this; omega
  ·rcases List.mem_cons.1 hq with e2 | hq1
   ·have := h1 p hp1; rw [← e2] at this; omega
   ·exact ih h2 hp1 hq1
theorem Ris.ext {l m : List (Int × Int)} (hl : Ris l) (hm : Ris m) (h : ∀ p, p ∈ l ↔ p ∈ m) : l = m := by
 induction l generalizing m with
 | nil =>
  cases m with
  | nil => rfl
  | cons y r => have := (h y).2 (List.mem_cons_self ..); simp at this
 | cons x l ih =>
  cases m with
  | nil => have := (h x).1 (List.mem_cons_self ..); simp at this
  | cons y r =>
   obtain ⟨h1, h2⟩ := List.pairwise_cons.1 hl
   obtain ⟨h3, h4⟩ := List.pairwise_cons.1 hm
   have e : x = y := by
    rcases List.mem_cons.1 ((h x).1 (List.mem_cons_self ..)) with e | hx
    ·exact e
    ·rcases List.mem_cons.1 ((h y).2 (List.mem_cons_self ..)) with e | hy
     ·exact e.symm
     ·have := h1 y hy; have := h3 x hx; omega
   subst e
   rw [ih h2 h4 (fun p => ⟨fun hp => ?_, fun hp => ?_⟩)]
   ·rcases List.mem_cons.1 ((h p).1 (List.mem_cons_of_mem _ hp)) with rfl | hp'
    ·have := h1 p hp; omega
    ·exact hp'
   ·rcases List.mem_cons.1 ((h p).2 (List.mem_cons_of_mem _ hp)) with rfl | hp'
    ·have := h3 p hp; omega
    ·exact hp'
theorem getI_mem {l : List (Int × Int)} (h : Ris l) {p : Int × Int} (hp : p ∈ l) : getI l p.1 = p.2 := by
 unfold getI
 have hs : (l.find? (fun q => decide (q.1 = p.1))).isSome = true := List.find?_isSome.2 ⟨p, hp, by simp⟩
 obtain ⟨q, hq⟩ := Option.isSome_iff_exists.1 hs
 rw [hq]
 have e : q.1 = p.1 := by simpa using List.find?_some hq
 exact congrArg Prod.snd (h.uniq (List.mem_of_find?_eq_some hq) hp e)
theorem getI_none {l : List (Int × Int)} {k : Int} (h : hasI l k = false) : getI l k = 0 := by
 unfold getI
 have : l.find? (fun q => decide (q.1 = k)) = none := by
  rw [List.find?_eq_none]
  intro p hp
  simp only [hasI, List.any_eq_false] at h
  simpa using h p hp
 rw [this]
theorem getI_has {l : List (Int × Int)} (hl : Ris l) {k : Int} (h : hasI l k = true) : (k, getI l k) ∈ l := by
 obtain ⟨p, hp, rfl⟩ := (hasI_iff l k).1 h
 rw [getI_mem hl hp]
 exact hp
theorem del_len {l : List (Int × Int)} (k : Int) : (delI l k).length ≤ l.length := List.length_filter_le _ _
theorem ins_len (x : Int × Int) (l : List (Int × Int)) : (insI x l).length = l.length + 1 := by
 induction l with
 | nil => rfl
 | cons y r ih => unfold insI; split <;> simp [ih]
theorem put_len (l : List (Int × Int)) (k v : Int) : (putI l k v).length ≤ l.length + 1 := by
 unfold putI
 rw [ins_len]
 have := del_len (l := l) k
 omega
def RisZ (l : List Int) : Prop := l.Pairwise (· < ·)
theorem RisZ.ext {l m : List Int} (hl : RisZ l) (hm : RisZ m) (h : ∀ p, p ∈ l ↔ p ∈ m) : l = m := by
 induction l generalizing m with
 | nil =>
  cases m with
  | nil => rfl
  | cons y r => have := (h y).2 (List.mem_cons_self ..); simp at this
 | cons x l ih =>
  cases m with
  | nil => have := (h x).1 (List.mem_cons_self ..); simp at this
  | cons y r =>
   obtain ⟨h1, h2⟩ := List.pairwise_cons.1 hl
   obtain ⟨h3, h4⟩ := List.pairwise_cons.1 hm
   have e : x = y := by
    rcases List.mem_cons.1 ((h x).1 (List.mem_cons_self ..)) with e | hx
    ·exact e
    ·rcases List.mem_cons.1 ((h y).2 (List.mem_cons_self ..)) with e | hy
     ·exact e.symm
     ·have := h1 y hy; have := h3 x hx; omega
   subst e
   rw [ih h2 h4 (fun p => ⟨fun hp => ?_, fun hp => ?_⟩)]
   ·rcases List.mem_cons.1 ((h p).1 (List.mem_cons_of_mem _ hp)) with rfl | hp'
    ·have := h1 p hp; omega
    ·exact hp'
   ·rcases List.mem_cons.1 ((h p).2 (List.mem_cons_of_mem _ hp)) with rfl | hp'
    ·have := h3 p hp; omega
    ·exact hp'
theorem Ris.keys {l : List (Int × Int)} (h : Ris l) : RisZ (l.map (·.1)) := List.pairwise_map.2 h
theorem sort_eq {us l : List Int} (hn : us.Nodup) (hl : RisZ l) (h : ∀ x, x ∈ us ↔ x ∈ l) : us.mergeSort (fun x y => decide (x ≤ y)) = l := by
 have hp := List.mergeSort_perm us (fun x y => decide (x ≤ y))
 have hs : (us.mergeSort (fun x y => decide (x ≤ y))).Pairwise (fun x y => decide (x ≤ y) = true) :=
  List.pairwise_mergeSort (fun a b c h1 h2 => by simp at *; omega) (fun a b => by simp; omega) us
 refine RisZ.ext ?_ hl (fun x => hp.mem_iff.trans (h x))
 have hn' : (us.mergeSort (fun x y => decide (x ≤ y))).Nodup := hp.nodup_iff.2 hn
 refine (hs.and hn').imp fun {a b} hab => ?_
 have h1 : a ≤ b := by simpa using hab.1
 have h2 : a ≠ b := hab.2
 omega
def Im (w : World) (b : Nat) (l : List (Int × Int)) : Prop := w.ownsMap Tryz.prog 3 (plainElem Tryz.prog 3) b l.length (imD l)
theorem keyedI : Keyed Tryz.prog 3 := int_keyed Tryz.underlying3
theorem Im.of {w : World} {b n : Nat} {l : List (Int × Int)} (h : w.ownsMap Tryz.prog 3 (plainElem Tryz.prog 3) b n (imD l)) : Im w b l := by
 obtain ⟨es, clock, hb, F, hs, hD⟩ := h
 refine ⟨es, clock, hb, F, ?_, hD⟩
 have := congrArg Maps.size hD
 rw [imD_size] at this
 simp [Maps.size, length_sorted] at this
 omega
theorem Im.ris {w : World} {b : Nat} {l : List (Int × Int)} (h : Im w b l) : Ris l := by
 obtain ⟨es, e, hp, _⟩ := World.ownsMap.canon h keyedI
 have e1 : es = l.map encI := by
  have : imD l = DataW.map es := e
  simp only [imD, DataW.map.injEq] at this
  exact this.symm
 subst e1
 have := List.pairwise_map.1 hp
 refine this.imp fun {p q} hpq => ?_
 simpa [encI, Lit.before] using hpq
theorem Im.lt {w : World} {b : Nat} {l : List (Int × Int)} (h : Im w b l) : b < w.heap.size := World.ownsMap.lt h
theorem Im.same {w w' : World} {b : Nat} {l : List (Int × Int)} (h : Im w b l) (e : w'.heap[b]? = w.heap[b]?) : Im w' b l := by
 obtain ⟨es, clock, hb, r⟩ := h
 exact ⟨es, clock, e.trans hb, r⟩
theorem Im.kept {w w' : World} {b : Nat} {row : Option Nat} {l : List (Int × Int)} (h : Im w b l) (hg : w.grownBy w' row) (hne : some b ≠ row) : Im w' b l := World.ownsMap.kept h hg hne
theorem Im.keptN {w w' : World} {b : Nat} {l : List (Int × Int)} (h : Im w b l) (hg : w.grownBy w' none) : Im w' b l := h.kept hg (by simp)
theorem Im.made (w : World) : Im (w.alloc (.map #[] 0)) w.heap.size [] := World.ownsMap_made w _ _ _
theorem Im.put {w : World} {b n : Nat} {l : List (Int × Int)} {k v : Int} (h : w.ownsMap Tryz.prog 3 (plainElem Tryz.prog 3) b n ((imD l).put (.int .i64 k) (.lit (.int .i64 v)))) : Im w b (putI l k v) := by
 rw [imD_put] at h
 exact Im.of h
theorem Im.del {w : World} {b n : Nat} {l : List (Int × Int)} {k : Int} (h : w.ownsMap Tryz.prog 3 (plainElem Tryz.prog 3) b n ((imD l).del (.int .i64 k))) : Im w b (delI l k) := by
 rw [imD_del] at h
 exact Im.of h
theorem Im.wf {w : World} {b : Nat} {l : List (Int × Int)} (h : Im w b l) : ∀ p ∈ l, (Lit.int .i64 p.2).wf = true := by
 intro p hp
 have hd : (imD l).atKey (.int .i64 p.1) (.lit (.int .i64 0)) = .lit (.int .i64 p.2) := by rw [imD_at, getI_mem h.ris hp]
 obtain ⟨es, clock, hb, F, hs, hD⟩ := h
 have hm : encI p ∈ (es.toList.map (WideElems.rg Tryz.prog 3 (plainElem Tryz.prog 3))).foldr DataW.insert [] := by
  have : imD l = DataW.map _ := hD
  simp only [imD, DataW.map.injEq] at this
  rw [← this]
  exact List.mem_map_of_mem hp
 obtain ⟨x, hx, hxe⟩ := List.mem_map.1 (mem_sorted.1 hm)
 obtain ⟨y, hy⟩ := F.reads x hx
 obtain ⟨z, hz, hzd⟩ := WideElems.rd_val hy
 obtain ⟨a, ha, hza, hwa⟩ := plainElem_int_inv Tryz.underlying3 hz
 rw [WideElems.rg_of hy] at hxe
 have e2 : y.2 = .lit (.int .i64 p.2) := by rw [hxe]; rfl
 rw [hza] at hzd
 rw [e2] at hzd
 simp at hzd
 rw [hzd]
 exact hwa
theorem Im.kw {w : World} {b : Nat} {l : List (Int × Int)} (h : Im w b l) : ∀ p ∈ l, (Lit.int .i64 p.1).wf = true := by
 intro p hp
 obtain ⟨es, clock, hb, F, hs, hD⟩ := h
 have hm : encI p ∈ (es.toList.map (WideElems.rg Tryz.prog 3 (plainElem Tryz.prog 3))).foldr DataW.insert [] := by
  have : imD l = DataW.map _ := hD
  simp only [imD, DataW.map.injEq] at this
  rw [← this]
  exact List.mem_map_of_mem hp
 obtain ⟨x, hx, hxe⟩ := List.mem_map.1 (mem_sorted.1 hm)
 obtain ⟨y, hy⟩ := F.reads x hx
 have hk := WideElems.rd_key hy
 rw [WideElems.rg_of hy] at hxe
 obtain ⟨a, _, e, hwa⟩ := Maps.keyOf_int_inv Tryz.underlying3 hk
 rw [hxe] at e
 simp only [encI, Lit.int.injEq, true_and] at e
 rw [e]
 exact hwa
end Go.Proofs.YtcfmkpgfeodhaaaGreatDoor
