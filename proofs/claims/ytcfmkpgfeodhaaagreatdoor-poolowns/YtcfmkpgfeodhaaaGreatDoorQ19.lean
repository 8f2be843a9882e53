import Derived.Test.YtcfmkpgfeodhaaaGreatDoorQ12
import Derived.Test.YtcfmkpgfeodhaaaGreatDoorQ18
namespace Go.Proofs.YtcfmkpgfeodhaaaGreatDoor
open Go.RowKit Go.Maps Go.Sort Go.Shelf
def zOf : Value → Int
 | .int _ a => a
 | _ => 0
def lnOf : Value → Nat
 | .slice _ n _ => n
 | _ => 0
def srt (us : List Int) : List Int := us.mergeSort fun x y => decide (x ≤ y)
theorem srt_len (us : List Int) : (srt us).length = us.length := by simp [srt]
theorem sort_any {base : Nat} {v : Value} {us : List Int} (w : World) (h : w.ownsRow base 3 1 v us.length (us.map (Value.int .i64))) (hs : us.length < 4611686018427387904) :
  Calls Tryz.prog 26 #[v] w fun e w' => e = .returned (.tuple #[]) ∧ w'.ownsRow base 3 1 v us.length ((srt us).map (Value.int .i64)) ∧ w.grownBy w' v.ownBlock := by
 have hl : us.length = us.length := rfl
 rcases h.2 with ⟨rfl, h0⟩ | ⟨g, cap, cur, rfl, hb, hc, h1, h2, h3, h4⟩
 ·have e : us = [] := List.length_eq_zero_iff.1 h0
  subst e
  refine (AnyM.slices_Sort_int_none sortA none 0 w).mono ?_
  rintro e w' ⟨rfl, rfl⟩
  exact ⟨rfl, by simpa [srt] using h, World.grownBy.refl _ _⟩
 ·have hH : Holds (Value.int .i64) w g 0 us.toArray := holds_of_block_i hc (by simpa using h4)
  refine (AnyM.slices_Sort_int sortA g 0 cap us w hH (Array.getElem?_eq_some_iff.1 hc).1 hs).mono ?_
  rintro e w' ⟨rfl, n, os, rfl⟩
  exact ⟨rfl, ownsRow_sorted_i (srt_len us) hb hc h1 h2 h3, grownBy_sorted_i _⟩
theorem sortsA (m : Nat) : AnyZI.SortsIn Tryz.prog sortedA_ren Fence.wide m :=
 ⟨fun blk off cap ss W hH hblk hsz => callsIn_wide.2 (AnyM.slices_Sort_int sortA blk off cap ss W hH hblk hsz),
  fun p cap W => callsIn_wide.2 (AnyM.slices_Sort_int_none sortA p cap W)⟩
theorem keys_imD (l : List (Int × Int)) : intKeys (imD l) = l.map (·.1) := by
 simp [intKeys, imD, encI, Go.intOf, List.map_map, Function.comp_def]
set_option maxHeartbeats 1000000 in
theorem free_any {w : World} {B s q : Nat} {p : Po} (h : Pl w B s q p) (hs : p.l.length ≤ 1000000) :
  Calls Tryz.prog 13 #[.pointer (some ⟨B, 0, none⟩)] w fun e w' => ∃ v, e = .returned v ∧ w'.ownsRow w.heap.size 3 1 v p.l.length ((p.l.map (·.1)).map (Value.int .i64)) ∧ w.grownBy w' none := by
 refine (callsIn_wide (n := 6)).1 ?_
 have c2 := h.c2
 have hown := h.ms
 have hbl := h.ms.lt
 have hsz : Maps.size (imD p.l) = p.l.length := imD_size p.l
 have hseq : SeqGives Fence.wide 2 Tryz.prog 33 #[.pointer (some ⟨w.heap.size, 0, none⟩)] encZ (fun ss => ss.Perm (intKeys (imD p.l))) (Maps.size (imD p.l)) (w.alloc (.cells #[.map (some s)] 62)) :=
  AnyZI.keys_gives (ρ := keysA_ren) { keysA with } Fence.wide _ trivial rfl (by omega) w.heap.size s p.l.length (imD p.l) _ (by simp) (by simp) (by
   obtain ⟨es, clock, hb, Ft, hs, hD⟩ := hown
   exact ⟨es, clock, (Below.heap_alloc _ _ s hbl).trans hb, Ft, hs, hD⟩)
 have cK : ∀ mb W, CallsIn Fence.wide 5 Tryz.prog 25 #[.map mb] W fun e w' => e = .returned (.func (.func 33) #[] #[.pointer (some ⟨W.heap.size, 0, none⟩)]) ∧ w' = W.alloc (.cells #[.map mb] 62) := fun mb W => AnyZI.keys_in keysA Fence.wide 5 trivial rfl mb W
 have cS := AnyZI.sorted_in sortedA Fence.wide 5 trivial trivial trivial trivial rfl (by omega) (sortsA _) (enters_of Tryz.func26 (by kernel_rfl) rfl) 33 #[.pointer (some ⟨w.heap.size, 0, none⟩)] trivial (enters_of Tryz.func33 (by kernel_rfl) rfl) _ _ (by rw [hsz]; unfold maxLen; omega) (by rw [hsz]; omega) _ hseq
 change CallsIn _ _ Tryz.prog 24 _ _ _ at cS
 have hfK : Fence.wide.fn 25 := trivial
 have hfS : Fence.wide.fn 24 := trivial
 have HP := hid_intro h
 have HO := hid_intro hown
 clear h hown hseq hsz
 refine callsIn_of_wp Tryz.func13 rfl trivial ?_ rfl
 simp only [Tryz.ntmps13, List.size_toArray, List.length_cons, List.length_nil, Nat.reduceAdd, Nat.reduceSub, Array.replicate_succ, Array.replicate_zero, List.push_toArray, List.append_toArray, List.nil_append, List.cons_append]
 gi_wp2_with (first
  | (gi_at_call 25; refine (cK _ _).mono ?_; rintro e w' ⟨rfl, rfl⟩)
  | (gi_at_call 24; refine cS.mono ?_; rintro e w' ⟨v, ss, rfl, hS, hrow, hnil, hb⟩))
 go_ret
 rw [keys_imD] at hS
 have hl : ss.length = p.l.length := by have := hS.length_eq; simpa using this
 have e1 : ss.mergeSort (fun x y => decide (x ≤ y)) = p.l.map (·.1) := by
  refine sort_eq ?_ HP.out.ms.ris.keys (fun x => hS.mem_iff)
  exact hS.nodup_iff.2 (HP.out.ms.ris.keys.imp fun {a b} hab => by omega)
 rw [e1, hl] at hrow
 have hbl2 := ((Below.refl _ w).alloc (Nat.le_refl _) _).trans (hb.mono (by simp))
 exact ⟨v, rfl, ownsRow_base_a hrow (by simp), ⟨hbl2.os, hbl2.tape, hbl2.output, hbl2.size, fun i hi _ => hbl2.block i hi⟩⟩
end Go.Proofs.YtcfmkpgfeodhaaaGreatDoor
namespace Go.Proofs.YtcfmkpgfeodhaaaGreatDoor
open Go.RowKit Go.Maps
theorem own_keptR {w w' : World} {base sz n : Nat} {e : TypeId} {v : Value} {xs : List Value} {row : Option Nat} (h : w.ownsRow base e sz v n xs) (hg : w.grownBy w' row) (hne : ∀ g, v.ownBlock = some g → row ≠ some g) : w'.ownsRow base e sz v n xs := by
 refine ⟨h.1, ?_⟩
 rcases h.2 with h0 | ⟨g, cap, cur, rfl, hb, hc, r⟩
 ·exact .inl h0
 ·exact .inr ⟨g, cap, cur, rfl, hb, (hg.block g (Array.getElem?_eq_some_iff.1 hc).1 (fun e => hne g rfl e.symm)).trans hc, r⟩
theorem own_lt {w : World} {base sz n : Nat} {e : TypeId} {v : Value} {xs : List Value} (h : w.ownsRow base e sz v n xs) {g : Nat} (hg : v.ownBlock = some g) : base ≤ g ∧ ∃ cur, w.heap[g]? = some (.cells cur e (0, 0)) := by
 rcases h.2 with ⟨rfl, _⟩ | ⟨g', cap, cur, rfl, hb, hc, r⟩
 ·cases hg
 ·obtain rfl : g' = g := Option.some.inj hg
  exact ⟨hb, cur, hc⟩
theorem own_nil (w : World) (base sz : Nat) (e : TypeId) : w.ownsRow base e sz (.slice none 0 0) 0 [] := ⟨by simp, .inl ⟨rfl, rfl⟩⟩
theorem own_ne_map {w : World} {base sz n : Nat} {e : TypeId} {v : Value} {xs : List Value} (h : w.ownsRow base e sz v n xs) {b n' : Nat} {l : List (Int × Int)} (hm : w.ownsMap Tryz.prog 3 (plainElem Tryz.prog 3) b n' (imD l)) : some b ≠ v.ownBlock := by
 intro e
 obtain ⟨_, cur, hc⟩ := own_lt h e.symm
 obtain ⟨es, clock, hb, _⟩ := hm
 rw [hb] at hc
 cases hc
theorem own_ne_it {w : World} {base sz n : Nat} {e : TypeId} {v : Value} {xs : List Value} (h : w.ownsRow base e sz v n xs) {b r n' : Nat} {l : List (Int × Int)} {left : Lit → Bool} {cnt : Nat} (hm : w.ranges Tryz.prog 3 (plainElem Tryz.prog 3) b r n' (imD l) left cnt) : some r ≠ v.ownBlock := by
 intro e
 obtain ⟨_, cur, hc⟩ := own_lt h e.symm
 obtain ⟨es, clock, since, seen, c0, _, _, _, _, hr, _⟩ := hm
 rw [hr] at hc
 cases hc
def usb (p : Po) : List (Int × Int) := p.l.filter fun x => p.q.all fun y => decide (x.2 ≤ y.1)
def us (p : Po) : List Int := (usb p).map (·.1)
theorem us_ris {p : Po} (h : Ris p.l) : RisZ (us p) := (h.sub List.filter_sublist).keys
theorem us_len (p : Po) : (us p).length ≤ p.l.length := by
 unfold us usb
 rw [List.length_map]
 exact List.length_filter_le _ _
theorem mem_us {p : Po} {x : Int} : x ∈ us p ↔ ∃ y ∈ p.l, y.1 = x ∧ ∀ z ∈ p.q, y.2 ≤ z.1 := by
 unfold us usb
 simp only [List.mem_map, List.mem_filter, List.all_eq_true, decide_eq_true_eq]
 constructor
 ·rintro ⟨y, ⟨h1, h2⟩, h3⟩
  exact ⟨y, h1, h3, h2⟩
 ·rintro ⟨y, h1, h3, h2⟩
  exact ⟨y, ⟨h1, h2⟩, h3⟩
structure Mn (q : List (Int × Int)) (left : Lit → Bool) (m : Int) : Prop where
 low : ∀ x ∈ q, left (.int .i64 x.1) = false → m ≤ x.1
 is : m = 9223372036854775807 ∨ ∃ x ∈ q, m = x.1
 wf : -9223372036854775808 ≤ m ∧ m ≤ 9223372036854775807
theorem Mn.start (q : List (Int × Int)) : Mn q (Maps.has (imD q)) 9223372036854775807 := by
 refine ⟨fun x hx h => ?_, .inl rfl, by omega⟩
 rw [imD_has] at h
 have : hasI q x.1 = true := (hasI_iff q x.1).2 ⟨x, hx, rfl⟩
 rw [h] at this
 cases this
theorem Mn.step {q : List (Int × Int)} {left : Lit → Bool} {m x c : Int} (h : Mn q left m) (hx : hasI q x = true) (hw : -9223372036854775808 ≤ x ∧ x ≤ 9223372036854775807) (hc : c = if m ≤ x then m else x) : Mn q (fun z => left z && !z.sameKey (.int .i64 x)) c := by
 subst hc
 refine ⟨fun y hy hl => ?_, ?_, ?_⟩
 ·simp only [same_int, Bool.and_eq_false_iff, Bool.not_eq_false', decide_eq_true_eq] at hl
  rcases hl with hl | hl
  ·have := h.low y hy hl
   split <;> omega
  ·split <;> omega
 ·split
  ·exact h.is
  ·obtain ⟨y, hy, e⟩ := (hasI_iff q x).1 hx
   exact .inr ⟨y, hy, e.symm⟩
 ·have := h.wf
  split <;> omega
theorem Mn.done {q : List (Int × Int)} {left : Lit → Bool} {m : Int} (h : Mn q left m) (hl : ∀ k, left k = false) {c : Int} (hc : c ≤ 9223372036854775807) : c ≤ m ↔ ∀ y ∈ q, c ≤ y.1 := by
 constructor
 ·intro hcm y hy
  have := h.low y hy (hl _)
  omega
 ·intro hy
  rcases h.is with e | ⟨x, hx, e⟩
  ·omega
  ·have := hy x hx
   omega
structure Uc (l : List (Int × Int)) (left : Lit → Bool) (m : Int) (u : List Int) : Prop where
 nd : u.Nodup
 mem : ∀ x, x ∈ u ↔ ∃ y ∈ l, y.1 = x ∧ y.2 ≤ m ∧ left (.int .i64 x) = false
theorem Uc.start (l : List (Int × Int)) (m : Int) : Uc l (Maps.has (imD l)) m [] := by
 refine ⟨List.nodup_nil, fun x => ⟨fun h => (by simp at h), ?_⟩⟩
 rintro ⟨y, hy, rfl, _, h⟩
 rw [imD_has] at h
 have : hasI l y.1 = true := (hasI_iff l y.1).2 ⟨y, hy, rfl⟩
 rw [h] at this
 cases this
theorem Uc.yes {l : List (Int × Int)} {left : Lit → Bool} {m x c : Int} {u : List Int} (h : Uc l left m u) (hx : (x, c) ∈ l) (hlx : left (.int .i64 x) = true) (hc : c ≤ m) : Uc l (fun z => left z && !z.sameKey (.int .i64 x)) m (u ++ [x]) := by
 have hn : x ∉ u := fun hu => by
  obtain ⟨y, _, rfl, _, h2⟩ := (h.mem x).1 hu
  rw [hlx] at h2
  cases h2
 refine ⟨List.nodup_append.2 ⟨h.nd, by simp, fun a ha b hb => ?_⟩, fun z => ?_⟩
 ·simp at hb
  subst hb
  intro e
  exact hn (e ▸ ha)
 ·simp only [List.mem_append, List.mem_singleton, same_int, h.mem]
  constructor
  ·rintro (⟨y, hy, rfl, h1, h2⟩ | rfl)
   ·exact ⟨y, hy, rfl, h1, by simp [h2]⟩
   ·exact ⟨_, hx, rfl, hc, by simp⟩
  ·rintro ⟨y, hy, rfl, h1, h2⟩
   simp only [Bool.and_eq_false_iff, Bool.not_eq_false', decide_eq_true_eq] at h2
   rcases h2 with h2 | h2
   ·exact .inl ⟨y, hy, rfl, h1, h2⟩
   ·exact .inr h2
theorem Uc.no {l : List (Int × Int)} {left : Lit → Bool} {m x c : Int} {u : List Int} (hr : Ris l) (h : Uc l left m u) (hx : (x, c) ∈ l) (hc : m < c) : Uc l (fun z => left z && !z.sameKey (.int .i64 x)) m u := by
 refine ⟨h.nd, fun z => ?_⟩
 simp only [same_int, h.mem]
 constructor
 ·rintro ⟨y, hy, rfl, h1, h2⟩
  exact ⟨y, hy, rfl, h1, by simp [h2]⟩
 ·rintro ⟨y, hy, rfl, h1, h2⟩
  simp only [Bool.and_eq_false_iff, Bool.not_eq_false', decide_eq_true_eq] at h2
  rcases h2 with h2 | h2
  ·exact ⟨y, hy, rfl, h1, h2⟩
  ·have := hr.uniq hy hx h2
   rw [this] at h1
   simp at h1
   omega
theorem nodup_le {u l : List Int} (hn : u.Nodup) (h : ∀ x ∈ u, x ∈ l) : u.length ≤ l.length := by
 induction u generalizing l with
 | nil => simp
 | cons a u ih =>
  obtain ⟨h1, h2⟩ := List.nodup_cons.1 hn
  have ha := h a (List.mem_cons_self ..)
  have := ih (l := l.erase a) h2 (fun x hx => (List.mem_erase_of_ne (fun (e : x = a) => h1 (e ▸ hx))).2 (h x (List.mem_cons_of_mem _ hx)))
  rw [List.length_erase_of_mem ha] at this
  have : 0 < l.length := List.length_pos_of_mem ha
  simp
  omega
theorem Uc.len {l : List (Int × Int)} {left : Lit → Bool} {m : Int} {u : List Int} (h : Uc l left m u) : u.length ≤ l.length := by
 have hs : ∀ x ∈ u, x ∈ l.map (·.1) := fun x hx => by
  obtain ⟨y, hy, rfl, _⟩ := (h.mem x).1 hx
  exact List.mem_map_of_mem hy
 have := nodup_le h.nd hs
 simpa using this
theorem Uc.done {p : Po} {left leftq : Lit → Bool} {m : Int} {u : List Int} (hr : Ris p.l) (h : Uc p.l left m u) (hl : ∀ k, left k = false) (hm : Mn p.q leftq m) (hq : ∀ k, leftq k = false) (hw : ∀ y ∈ p.l, y.2 ≤ 9223372036854775807) : srt u = us p := by
 refine sort_eq h.nd (us_ris hr) fun x => ?_
 rw [h.mem, mem_us]
 constructor
 ·rintro ⟨y, hy, rfl, h1, _⟩
  exact ⟨y, hy, rfl, (hm.done hq (hw y hy)).1 h1⟩
 ·rintro ⟨y, hy, rfl, h1⟩
  exact ⟨y, hy, rfl, (hm.done hq (hw y hy)).2 h1, hl _⟩
theorem has_of_at {l : List (Int × Int)} {x c : Int} (hr : Ris l) (hat : ∀ zd, (imD l).atKey (.int .i64 x) zd = .lit (.int .i64 c)) : (x, c) ∈ l := by
 have h1 : hasI l x = true := by rw [← imD_has]; exact has_true_of_atKey hat
 have h2 := hat (.lit (.int .i64 0))
 rw [imD_at] at h2
 simp only [DataW.lit.injEq, Lit.int.injEq, true_and] at h2
 have := getI_has hr h1
 rw [h2] at this
 exact this
set_option maxHeartbeats 2000000 in
set_option maxRecDepth 100000 in
theorem usable_any {w : World} {B s q : Nat} {p : Po} (h : Pl w B s q p) (hs : p.l.length ≤ 1000000) :
  Calls Tryz.prog 14 #[.pointer (some ⟨B, 0, none⟩)] w fun e w' => ∃ v, e = .returned v ∧ w'.ownsRow w.heap.size 3 1 v (us p).length ((us p).map (Value.int .i64)) ∧ w.grownBy w' none := by
 obtain ⟨i1, hi1, hy0, hy1, hy2⟩ := info_parts info_int
 have c3 := h.c3
 have c2 := h.c2
 have HP := hid_intro h
 have HMQ := hid_intro h.mq
 clear h
 go_enter Tryz.func14, Tryz.ntmps14
 go_wp2_with (first
  | (at_range; refine wpList_range_own _ rfl _ 62 rfl 3 3 keyedI Tryz.underlying62 _ q p.q.length _ rfl HMQ.out ?_; intro w0 hrg0 hg0 hs0)
  | go_in)
 go_frame
 go_loopw [3, 4] (fun sm _ wr => ∃ (left : Lit → Bool) (cnt : Nat) (m : Int), sm = .int .i64 m ∧ wr.ranges Tryz.prog 3 (plainElem Tryz.prog 3) q w.heap.size p.q.length (imD p.q) left cnt ∧ Mn p.q left m ∧ w.grownBy wr none) (fun _ _ wr => wr.rangeLeft q w.heap.size)
 case atStart => exact ⟨_, _, _, rfl, hrg0, Mn.start _, hg0⟩
 case round =>
  obtain ⟨left, cnt, m, rfl, hrg, hmn, hgw⟩ := hrel
  have HRG := hid_intro hrg
  have HMN := hid_intro hmn
  have HGW := hid_intro hgw
  have c2' := hgw.cell c2 (by simp)
  clear hrg hmn hgw hrg0 hg0 hs0
  go_wp2_with (first
   | (at_next; refine wpList_next_ranges_ii _ rfl _ rfl 3 3 .i64 .i64 keyedI Tryz.underlying3 Tryz.underlying3 q w.heap.size p.q.length _ _ _ rfl HRG.out ?_ ?_)
   | go_in)
  ·intro _ hl0
   have HL0 := hid_intro hl0
   have HMS := hid_intro (HP.out.ms.keptN HGW.out)
   clear hl0
   go_wp2_with (first
    | (at_range; refine wpList_range_own _ rfl _ 62 rfl 3 3 keyedI Tryz.underlying62 _ s p.l.length _ rfl HMS.out ?_; intro w0 hrg0 hg0 hs0)
    | go_in)
   go_frame
   have hr2 : w.heap.size ≤ wr.heap.size := HGW.out.size
   have HG0 := hid_intro (grown_trans HGW.out hg0)
   clear HMS hg0 hs0
   generalize wr.heap.size = r2 at *
   go_loopw [5, 6, 7] (fun sv _ _ wr => ∃ (left : Lit → Bool) (cnt : Nat) (u : List Int), wr.ranges Tryz.prog 3 (plainElem Tryz.prog 3) s r2 p.l.length (imD p.l) left cnt ∧ Uc p.l left m u ∧ wr.ownsRow w.heap.size 3 1 sv u.length (u.map (Value.int .i64)) ∧ w.grownBy wr none) (fun _ _ _ wr => wr.rangeLeft s r2)
   case atStart => exact ⟨_, _, [], hrg0, Uc.start _ _, own_nil _ _ _ _, HG0.out⟩
   case round =>
    rename_i sv _ _
    obtain ⟨left2, cnt2, u, hrg, huc, hown, hgw⟩ := hrel
    have HRG2 := hid_intro hrg
    have HUC := hid_intro huc
    have HO := hid_intro hown
    have HG2 := hid_intro hgw
    clear hrg huc hown hgw hrg0 HG0
    go_wp2_with (first
     | (at_next; refine wpList_next_ranges_ii _ rfl _ rfl 3 3 .i64 .i64 keyedI Tryz.underlying3 Tryz.underlying3 s r2 p.l.length _ _ _ rfl HRG2.out ?_ ?_)
     | go_in)
    ·intro _ hl1
     have HS : Hid (srt u = us p) := HUC.out.done HP.out.ms.ris hl1 HMN.out HL0.out (fun y hy => (of_wf64 (HP.out.ms.wf y hy)).2)
     have hul := HUC.out.len
     clear hl1
     go_wp2_with fail
     refine (sort_any _ HO.out (by omega)).mono ?_
     rintro e w3 ⟨rfl, ho3, hg3⟩
     rw [HS.out] at ho3
     have hl3 : u.length = (us p).length := by rw [← HS.out, srt_len]
     rw [hl3] at ho3
     have HO3 := hid_intro ho3
     have HG3 := hid_intro (HG2.out.andThen hg3 (fun j e => .inl (own_lt HO.out e).1))
     clear ho3 hg3 hl3
     go_wp2
     go_ret
     exact ⟨_, rfl, HO3.out, HG3.out⟩
    ·intro x c w1 cnt1 hwx hwc hlx hat hrg1 hlt hg1 hs1 hen
     have HX := hid_intro (has_of_at HP.out.ms.ris hat)
     have hul := HUC.out.len
     have HO1 := hid_intro (own_keptR HO.out hg1 (fun g e e' => own_ne_it HO.out HRG2.out (e'.symm ▸ e.symm)))
     have HG1 := hid_intro (HG2.out.andThen hg1 (fun j e => .inl (by have := Option.some.inj e; omega)))
     have HRG3 := hid_intro hrg1
     have HLX := hid_intro hlx
     have HLT := hid_intro hlt
     clear hlx hat hrg1 hlt hg1 hs1 hwx hwc
     by_cases hcm : c ≤ m
     ·have HU2 := hid_intro (HUC.out.yes HX.out HLX.out hcm)
      go_wp2_with (first
       | (at_builtin; refine wpList_append_own _ rfl _ _ 22 rfl w.heap.size 3 i1 (.int .i64 0) 1 8 Tryz.underlying22 hi1 hy0 hy1 hy2 rfl (by decide) u5 u.length (u.map (Value.int .i64)) rfl (HO1.out.alloc _) ⟨w1.heap.size, 0, none⟩ 1 1 [.int .i64 x] rfl rfl (cell_one_new _ _ _) (by intro u hu; simp at hu; subst hu; rfl) (by unfold maxLen; omega) (by omega) (by have := HG1.out.size; simp; omega) ?_; intro v' w10 ho hg10 _)
       | go_in)
      have hrg4 := (HRG3.out.alloc (.cells #[.int .i64 x] 3)).kept hg10 (own_ne_map (HO1.out.alloc (.cells #[.int .i64 x] 3)) (HRG3.out.owns.alloc _)) (own_ne_it (HO1.out.alloc (.cells #[.int .i64 x] 3)) (HRG3.out.alloc _))
      have hg4 := grown_app5 HG1.out HO1.out (Nat.le_refl _) hg10
      have HO4 := hid_intro ho
      have HRG4 := hid_intro hrg4
      have HG4 := hid_intro hg4
      clear ho hg10 hrg4 hg4
      go_wp2
      go_roundw
      case rel => exact ⟨_, cnt1, u ++ [x], HRG4.out, HU2.out, by simpa using HO4.out, HG4.out⟩
      case measure => rw [HRG4.out.left_eq, HRG2.out.left_eq]; exact HLT.out
     ·have HU2 := hid_intro (HUC.out.no HP.out.ms.ris HX.out (Int.not_le.1 hcm))
      go_wp2
      go_roundw
      case rel => exact ⟨_, cnt1, u, HRG3.out, HU2.out, HO1.out, HG1.out⟩
      case measure => rw [HRG3.out.left_eq, HRG2.out.left_eq]; exact HLT.out
  ·intro x c w1 cnt1 hwx hwc hlx hat hrg1 hlt hg1 hs1 hen
   have HX := hid_intro ((hasI_iff p.q x).2 ⟨_, has_of_at HP.out.mq.ris hat, rfl⟩)
   have HG1 := hid_intro (HGW.out.andThen hg1 (fun j e => .inl (by have := Option.some.inj e; omega)))
   have HRG3 := hid_intro hrg1
   have HLT := hid_intro hlt
   have hxw := of_wf64 hwx
   clear hlx hat hrg1 hlt hg1 hs1 hwx hwc
   by_cases hcm : m ≤ x
   ·have HM2 := hid_intro (HMN.out.step HX.out hxw (c := m) (by rw [if_pos hcm]))
    go_wp2
    go_roundw
    case rel => exact ⟨_, cnt1, m, by rw [Int.min_eq_left hcm], HRG3.out, HM2.out, HG1.out⟩
    case measure => rw [HRG3.out.left_eq, HRG.out.left_eq]; exact HLT.out
   ·have HM2 := hid_intro (HMN.out.step HX.out hxw (c := x) (by rw [if_neg hcm]))
    go_wp2
    go_roundw
    case rel => exact ⟨_, cnt1, x, by rw [Int.min_eq_right (by omega)], HRG3.out, HM2.out, HG1.out⟩
    case measure => rw [HRG3.out.left_eq, HRG.out.left_eq]; exact HLT.out
end Go.Proofs.YtcfmkpgfeodhaaaGreatDoor
namespace Go.Proofs.YtcfmkpgfeodhaaaGreatDoor
open Go.RowKit Go.Maps
theorem owns_ints {w : World} {base n : Nat} {v : Value} {zs : List Int} (h : w.ownsRow base 3 1 v n (zs.map (Value.int .i64))) : ∃ ao cap, v = .slice ao n cap ∧ Nt w ao zs ∧ n ≤ cap ∧ cap ≤ 9223372036854775807 ∧ (ao = none → n = 0 ∧ cap = 0) ∧ (∀ ad, ao = some ad → base ≤ ad.block) := by
 have hl := h.1
 rw [List.length_map, Nat.mul_one] at hl
 rcases h.2 with ⟨rfl, rfl⟩ | ⟨g, cap, cur, rfl, hb, hc, h1, h2, h3, h4⟩
 ·have : zs = [] := List.length_eq_zero_iff.1 hl
  subst this
  exact ⟨none, 0, rfl, Nt.zero _ _, Nat.le_refl _, by omega, fun _ => ⟨rfl, rfl⟩, (fun ad e => by cases e)⟩
 ·refine ⟨_, cap, rfl, ⟨fun i hi => ⟨g, 0, rfl, ?_⟩⟩, h1, (by unfold maxLen at h2; omega), (fun e => by cases e), (fun ad e => by cases e; exact hb)⟩
  have := h.cellAt i (by omega)
  rw [Nat.zero_add, this]
  simp [List.getD, List.getElem?_eq_getElem hi]
structure Ok (p : Po) : Prop where
 c2 : 2 ≤ p.c
 ck : p.c ≤ p.k
 k : p.k ≤ 524287
 l : ∀ x ∈ p.l, 2 ≤ x.1 ∧ x.1 < p.c
theorem Ok.len {p : Po} (h : Ok p) (hr : Ris p.l) : p.l.length ≤ 524287 := by
 have h1 : (p.l.map (·.1)).Nodup := hr.keys.imp fun {a b} hab => by omega
 have h2 := nodup_le (l := (List.range 524287).map fun (i : Nat) => (i : Int)) h1 (fun x hx => by
  obtain ⟨y, hy, rfl⟩ := List.mem_map.1 hx
  have := h.l y hy
  have h3 := h.ck
  have h4 := h.k
  simp only [List.mem_map, List.mem_range]
  exact ⟨y.1.toNat, by omega, by omega⟩)
 simpa using h2
def rm (p : Po) : Int := (us p).length + p.k - p.c
set_option maxHeartbeats 1000000 in
set_option maxRecDepth 100000 in
theorem room_any {w : World} {B s q : Nat} {p : Po} (h : Pl w B s q p) (ok : Ok p) :
  Calls Tryz.prog 17 #[.pointer (some ⟨B, 0, none⟩)] w fun e w' => e = .returned (.int .i64 (rm p)) ∧ w.grownBy w' none := by
 have hl := ok.len h.ms.ris
 have hul := us_len p
 have k0 := ok.c2
 have k1 := ok.ck
 have k2 := ok.k
 have c0 := h.c0
 have c1 := h.c1
 have HC := hid_intro (fun (W : World) (hW : w.grownBy W none) => usable_any (h.keptN hW) (by omega))
 have HR : Hid (rm p = ((us p).length : Int) + p.k - p.c) := rfl
 clear h ok
 obtain ⟨n, hn⟩ : ∃ n, n = (us p).length := ⟨_, rfl⟩
 obtain ⟨k, hk⟩ : ∃ k, k = p.k := ⟨_, rfl⟩
 obtain ⟨c, hc⟩ : ∃ c, c = p.c := ⟨_, rfl⟩
 rw [← hk] at c1 k1 k2 HR
 rw [← hc] at c0 k0 k1 HR
 rw [← hn] at hul HR
 have HN := hid_intro hn
 clear hn hk hc
 have e1 : IntKind.i64.wrap ((n : Int) + k) = (n : Int) + k := by simp [IntKind.wrap, IntKind.signed, IntKind.bits]; omega
 have e2 : IntKind.i64.wrap ((n : Int) + k - c) = (n : Int) + k - c := by simp [IntKind.wrap, IntKind.signed, IntKind.bits]; omega
 go_enter Tryz.func17, Tryz.ntmps17
 go_wp2_with fail
 go_region_held3 (fun w' => w'.cell? ⟨B, 1, none⟩ = some (.int .i64 k) ∧ w'.cell? ⟨B, 0, none⟩ = some (.int .i64 c)) (first | exact ⟨c1, c0⟩ | exact T2.out | go_keep)
  (first | (go_at_call 14; refine (HC.out w.drew ((Qt.refl w).drew.grown none)).mono ?_; rintro en w2 ⟨v, rfl, ho, hg⟩; have T2 := hid_intro (show w2.cell? ⟨B, 1, none⟩ = some (.int .i64 k) ∧ w2.cell? ⟨B, 0, none⟩ = some (.int .i64 c) from ⟨hg.cell (show w.drew.cell? _ = _ from c1) (by simp), hg.cell (show w.drew.cell? _ = _ from c0) (by simp)⟩); rw [← HN.out] at ho; obtain ⟨ao, cap, rfl, _⟩ := owns_ints ho; have HG := hid_intro (grown_trans ((Qt.refl w).drew.grown none) hg); clear ho hg))
 all_goals
  go_wp2
  go_ret
  exact ⟨by rw [HR.out]; rfl, HG.out⟩
end Go.Proofs.YtcfmkpgfeodhaaaGreatDoor
namespace Go.Proofs.YtcfmkpgfeodhaaaGreatDoor
open Go.RowKit Go.Maps
def noF (p : Po) (g : List Int) : Bool := g.all fun x => !hasI p.l x
def mayP (p : Po) (g : List Int) : Bool := noF p g && rp 1 p.c g
theorem noF_take {p : Po} {g : List Int} {i : Nat} (h : i < g.length) (k : noF p (g.take i) = true) (e : hasI p.l (g.getD i 0) = false) : noF p (g.take (i + 1)) = true := by
 unfold noF at *
 have hg : g.getD i 0 = g[i] := by simp [List.getD, List.getElem?_eq_getElem h]
 rw [List.take_add_one, List.getElem?_eq_getElem h, List.all_append, k]
 rw [hg] at e
 simp [e]
theorem noF_no {p : Po} {g : List Int} {i : Nat} (h : i < g.length) (e : hasI p.l (g.getD i 0) = true) : mayP p g = false := by
 have : noF p g = false := by
  unfold noF
  rw [List.all_eq_false]
  exact ⟨_, nget_mem h, by rw [e]; simp⟩
 simp [mayP, this]
set_option maxHeartbeats 1000000 in
set_option maxRecDepth 100000 in
theorem mayGo_any {w : World} {B s q : Nat} {p : Po} (h : Pl w B s q p) (a : Option Addr) (n cap : Nat) (g : List Int) (hl : Nt w a g) (hn : g.length = n) (hw : Wf g) (hm : n ≤ 9223372036854775807) :
  Calls Tryz.prog 31 #[.pointer (some ⟨B, 0, none⟩), .slice a n cap] w fun e w' => e = .returned (.bool (mayP p g)) ∧ w' = w := by
 have c0 := h.c0
 have c2 := h.c2
 have HM := hid_intro h.ms
 have HL := hid_intro hl
 have HW := hid_intro hw
 clear h hl hw
 go_enter Tryz.func31, Tryz.ntmps31
 go_wp2
 go_loopw [6, 7, 8, 11] (fun _ _ _ si wr => ∃ i : Nat, i ≤ n ∧ si = .int .i64 i ∧ noF p (g.take i) = true ∧ wr = w) (fun _ _ _ si _ => n - (zOf si).toNat)
 case atStart => exact ⟨0, Nat.zero_le _, rfl, rfl, rfl⟩
 case round =>
  obtain ⟨i, hi, rfl, ha, rfl⟩ := hrel
  have HA := hid_intro ha
  clear ha
  by_cases hlt : i < n
  ·obtain ⟨b, off, rfl, d0⟩ := HL.out.row i (by omega)
   have hx := HW.out.getD (i := i) (by omega)
   cases hh : hasI p.l (g.getD i 0) with
   | true =>
    have HN := hid_intro (noF_no (p := p) (show i < g.length by omega) hh)
    have HH := hid_intro hh
    clear hh
    generalize g.getD i 0 = x at *
    go_wp2_with (first
     | (at_lookup; refine wpList_lookup_own_ok_int _ rfl _ _ 62 rfl 3 3 .i64 keyedI Tryz.underlying62 Tryz.underlying3 (zeroI _) s p.l.length (imD p.l) rfl HM.out _ _ rfl (keyOf_int_mk Tryz.underlying3 (wf64 hx)) ?_; intro cc hat hwc; rw [imD_has, HH.out]; clear hat hwc)
     | go_in)
    go_ret
    exact ⟨by rw [HN.out]; rfl, rfl⟩
   | false =>
    have HN := hid_intro (noF_take (p := p) (show i < g.length by omega) HA.out hh)
    have HH := hid_intro hh
    clear hh
    generalize g.getD i 0 = x at *
    go_wp2_with (first
     | (at_lookup; refine wpList_lookup_own_ok_int _ rfl _ _ 62 rfl 3 3 .i64 keyedI Tryz.underlying62 Tryz.underlying3 (zeroI _) s p.l.length (imD p.l) rfl HM.out _ _ rfl (keyOf_int_mk Tryz.underlying3 (wf64 hx)) ?_; intro cc hat hwc; rw [imD_has, HH.out]; clear hat hwc)
     | go_in)
    go_roundw
    case rel => exact ⟨i + 1, by omega, by go_num, HN.out, by trivial⟩
    case measure => simp [zOf]; omega
  ·have hin : i = n := by omega
   subst hin
   have HN : Hid (mayP p g = rp 1 p.c g) := by
    show mayP p g = _
    have := HA.out
    rw [← hn, List.take_length] at this
    simp [mayP, this]
   go_wp2_with fail
   refine (rise_any a i cap p.c g _ HL.out hn hm).mono ?_
   rintro en w2 ⟨rfl, rfl⟩
   go_wp2
   go_ret
   exact ⟨by rw [HN.out]; rfl, rfl⟩
structure Lf (t u d f : Nat) : Prop where
 stop : t - min (d + f) u ≤ f * 1021
 go : ∀ j, j < f → j * 1021 < t - min (d + j) u
def lst (t u d : Nat) : Nat := ((List.range (t + 1)).find? fun f => decide (t - min (d + f) u ≤ f * 1021)).getD 0
set_option maxRecDepth 100000 in
theorem Lf.uniq {t u d f g : Nat} (h : Lf t u d f) (k : Lf t u d g) : f = g := by
 rcases Nat.lt_trichotomy f g with e | e | e
 ·have := k.go f e; have := h.stop; omega
 ·exact e
 ·have := h.go g e; have := k.stop; omega
set_option maxRecDepth 100000 in
theorem lst_ok (t u d : Nat) : Lf t u d (lst t u d) := by
 unfold lst
 have hs : ((List.range (t + 1)).find? fun f => decide (t - min (d + f) u ≤ f * 1021)).isSome = true := by
  rw [List.find?_isSome]
  exact ⟨t, by simp, by simp; omega⟩
 obtain ⟨f, hf⟩ := Option.isSome_iff_exists.1 hs
 rw [hf]
 have h1 := List.find?_some hf
 simp only [decide_eq_true_eq] at h1
 refine ⟨h1, fun j hj => ?_⟩
 have h2 := (List.find?_range_eq_some.1 hf).2.2 j hj
 simp at h2
 omega
theorem Lf.eq {t u d f : Nat} (h : Lf t u d f) : f = lst t u d := h.uniq (lst_ok t u d)
theorem lst_le (t u d : Nat) : lst t u d ≤ t := by
 have h := lst_ok t u d
 by_cases h0 : lst t u d = 0
 ·omega
 ·have := h.go (lst t u d - 1) (by omega)
  omega
def lsP (p : Po) (d : Int) (g : List Int) : Int := if d < 0 ∨ mayP p g = false then -1 else (lst (p.l.length + g.length) (us p).length (min d (us p).length).toNat : Nat)
set_option maxHeartbeats 1000000 in
set_option maxRecDepth 100000 in
theorem lists_no {w : World} {B s q : Nat} {p : Po} (h : Pl w B s q p) (d : Int) (a : Option Addr) (n cap : Nat) (g : List Int) (hl : Nt w a g) (hn : g.length = n) (hw : Wf g) (hm : n ≤ 9223372036854775807) (hd : d < 0 ∨ mayP p g = false) :
  Calls Tryz.prog 18 #[.pointer (some ⟨B, 0, none⟩), .int .i64 d, .slice a n cap] w fun e w' => e = .returned (.int .i64 (-1)) ∧ w' = w := by
 by_cases h0 : d < 0
 ·clear hd
  go_enter Tryz.func18, Tryz.ntmps18
  go_wp2
  go_ret
  exact ⟨rfl, rfl⟩
 ·have hf : mayP p g = false := by rcases hd with e | e; exact absurd e h0; exact e
  have HC := hid_intro (mayGo_any h a n cap g hl hn hw hm)
  rw [hf] at HC
  clear hd hf h hl hw
  go_enter Tryz.func18, Tryz.ntmps18
  go_wp2_with (go_at_call 31; refine HC.out.mono ?_; rintro en w2 ⟨rfl, rfl⟩)
  go_ret
  exact ⟨rfl, rfl⟩
set_option maxHeartbeats 2000000 in
set_option maxRecDepth 100000 in
theorem lists_yes {w : World} {B s q : Nat} {p : Po} (h : Pl w B s q p) (ok : Ok p) (d : Int) (a : Option Addr) (n cap : Nat) (g : List Int) (hl : Nt w a g) (hn : g.length = n) (hw : Wf g) (hm : n ≤ 1000000) (hd : 0 ≤ d) (hd2 : d ≤ 9223372036854775807) (hf : mayP p g = true) :
  Calls Tryz.prog 18 #[.pointer (some ⟨B, 0, none⟩), .int .i64 d, .slice a n cap] w fun e w' => e = .returned (.int .i64 (lsP p d g)) ∧ w.grownBy w' none := by
 have HE : Hid (lsP p d g = (lst (p.l.length + g.length) (us p).length (min d (us p).length).toNat : Nat)) := by
  show lsP p d g = _
  unfold lsP
  rw [if_neg (by rw [hf]; simp; omega)]
 have HC := hid_intro (mayGo_any h a n cap g hl hn hw (by omega))
 rw [hf] at HC
 have hpl := ok.len h.ms.ris
 have hul := us_len p
 have c2 := h.c2
 have HLN := hid_intro (fun (W : World) (hW : w.grownBy W none) => (World.ownsMap.len (h.ms.keptN hW) Tryz.underlying62 3).trans (by rw [imD_size]))
 have HU := hid_intro (fun (W : World) (hW : w.grownBy W none) => usable_any (h.keptN hW) (by omega))
 rw [hn] at HE
 clear h ok hf hl hw
 obtain ⟨u, hu⟩ : ∃ u, u = (us p).length := ⟨_, rfl⟩
 obtain ⟨t, ht⟩ : ∃ t, t = p.l.length := ⟨_, rfl⟩
 rw [← hu] at hul HE
 rw [← ht] at hul hpl HE HLN
 have HUE := hid_intro hu
 clear hu ht
 have c2d : w.drew.cell? ⟨B, 2, none⟩ = some (.map (some s)) := c2
 have ln0 := HLN.out w.drew ((Qt.refl w).drew.grown none)
 have hd0 : decide (d < 0) = false := by simp; omega
 obtain ⟨m, hm1⟩ : ∃ m : Nat, m = (min d (u : Int)).toNat := ⟨_, rfl⟩
 rw [← hm1] at HE
 have hm2 : min d (u : Int) = (m : Int) := by rw [hm1]; omega
 have hm3 : m ≤ u := by omega
 clear hm1
 have e1 : IntKind.i64.wrap ((t : Int) + (n : Int)) = (t : Int) + (n : Int) := by simp [IntKind.wrap, IntKind.signed, IntKind.bits]; omega
 go_enter Tryz.func18, Tryz.ntmps18
 go_wp2_with (go_at_call 31; refine HC.out.mono ?_; rintro en w2 ⟨rfl, rfl⟩)
 go_region_held3 (fun w' => w'.cell? ⟨B, 2, none⟩ = some (.map (some s)) ∧ (Builtin.len_ #[62] 3 #[.map (some s)]).run Tryz.prog w' = .ok (.int .i64 (t : Int)) w') (first | exact ⟨c2, HLN.out _ (World.grownBy.refl _ _)⟩ | exact T2.out | go_keep)
  (first | (go_at_call 14; refine (HU.out w2.drew ((Qt.refl w2).drew.grown none)).mono ?_; rintro en w3 ⟨v, rfl, ho, hg⟩; have HG := hid_intro (grown_trans ((Qt.refl w2).drew.grown none) hg); have T2 := hid_intro (show w3.cell? ⟨B, 2, none⟩ = some (.map (some s)) ∧ (Builtin.len_ #[62] 3 #[.map (some s)]).run Tryz.prog w3 = .ok (.int .i64 (t : Int)) w3 from ⟨HG.out.cell c2 (by simp), HLN.out _ HG.out⟩); rw [← HUE.out] at ho; obtain ⟨ao, cp, rfl, _⟩ := owns_ints ho; clear ho hg))
 all_goals
  clear T2 HC HU HLN ln0 c2d c2
  go_wp2
  go_loopw [9] (fun sf wr => ∃ f : Nat, sf = .int .i64 f ∧ (∀ j, j < f → j * 1021 < (t + n) - min (m + j) u) ∧ f ≤ t + n ∧ wr = w3) (fun sf _ => (t + n) - (zOf sf).toNat)
  case atStart => exact ⟨0, rfl, fun j hj => by omega, by omega, rfl⟩
  case round =>
   obtain ⟨f, rfl, hgo, hle, rfl⟩ := hrel
   have HGO := hid_intro hgo
   clear hgo
   obtain ⟨x, hx⟩ : ∃ x, x = min (m + f) u := ⟨_, rfl⟩
   have hx1 : min ((m : Int) + (f : Int)) (u : Int) = (x : Int) := by omega
   have hxu : x ≤ u := by omega
   have HX := hid_intro hx
   clear hx
   by_cases hgt : f * 1021 < (t + n) - x
   ·have hc : (f : Int) * 1021 < (t : Int) + (n : Int) - (x : Int) := by omega
    have HG2 : Hid (∀ j, j < f + 1 → j * 1021 < (t + n) - min (m + j) u) := by
     intro j hj
     by_cases e : j = f
     ·subst e; rw [← HX.out]; exact hgt
     ·exact HGO.out j (by omega)
    go_wp2
    go_roundw
    case rel => exact ⟨f + 1, by go_num, HG2.out, by omega, by trivial⟩
    case measure => simp [zOf]; omega
   ·have hc : ¬ ((f : Int) * 1021 < (t : Int) + (n : Int) - (x : Int)) := by omega
    have HF : Hid (f = lst (t + n) u m) := Lf.eq ⟨by rw [← HX.out]; omega, HGO.out⟩
    go_wp2
    go_ret
    exact ⟨by rw [HE.out, ← HF.out]; rfl, HG.out⟩
theorem lists_any {w : World} {B s q : Nat} {p : Po} (h : Pl w B s q p) (ok : Ok p) (d : Int) (a : Option Addr) (n cap : Nat) (g : List Int) (hl : Nt w a g) (hn : g.length = n) (hw : Wf g) (hm : n ≤ 1000000) (hd2 : d ≤ 9223372036854775807) :
  Calls Tryz.prog 18 #[.pointer (some ⟨B, 0, none⟩), .int .i64 d, .slice a n cap] w fun e w' => e = .returned (.int .i64 (lsP p d g)) ∧ w.grownBy w' none := by
 by_cases hd : d < 0 ∨ mayP p g = false
 ·refine (lists_no h d a n cap g hl hn hw (by omega) hd).mono ?_
  rintro e w' ⟨rfl, rfl⟩
  exact ⟨by unfold lsP; rw [if_pos hd], World.grownBy.refl _ _⟩
 ·refine lists_yes h ok d a n cap g hl hn hw hm (by omega) hd2 ?_
  cases e : mayP p g with
  | true => rfl
  | false => exact absurd (.inr e) hd
end Go.Proofs.YtcfmkpgfeodhaaaGreatDoor
namespace Go.Proofs.YtcfmkpgfeodhaaaGreatDoor
open Go.RowKit Go.Maps
theorem grown_cellP (w : World) (b i : Nat) (v : Value) : w.grownBy (w.setCell ⟨b, i, none⟩ v) (some b) :=
 ⟨rfl, rfl, rfl, by simp, fun k _ hne => Below.heap_setCell w _ v k (fun e => hne (by rw [e]))⟩
theorem Pl.set0 {w : World} {B s q : Nat} {p : Po} (h : Pl w B s q p) (x : Int) : Pl (w.setCell ⟨B, 0, none⟩ (.int .i64 x)) B s q { p with c := x } := by
 have hg := grown_cellP w B 0 (.int .i64 x)
 refine ⟨?_, h.ms.kept hg (by intro e; exact h.nes (Option.some.inj e)), h.mq.kept hg (by intro e; exact h.neq (Option.some.inj e)), h.ne⟩
 have := heap_setCell_same w B 0 _ _ (.int .i64 x) h.bx
 rw [this]
 rfl
theorem own_take {w : World} {base n k cap : Nat} {ao : Option Addr} {zs : List Int} (h : w.ownsRow base 3 1 (.slice ao n cap) n (zs.map (Value.int .i64))) (hk : k ≤ n) : w.ownsRow base 3 1 (.slice ao k cap) k ((zs.take k).map (Value.int .i64)) := by
 have hl := h.1
 rw [List.length_map, Nat.mul_one] at hl
 refine ⟨by simp; omega, ?_⟩
 rcases h.2 with ⟨e, h0⟩ | ⟨g, cap', cur, e, hb, hc, h1, h2, h3, h4⟩
 ·injection e with e1 e2 e3
  subst e1 e3
  obtain rfl : k = 0 := by omega
  exact .inl ⟨rfl, rfl⟩
 ·injection e with e1 e2 e3
  subst e1 e3
  refine .inr ⟨g, cap, cur, rfl, hb, hc, by omega, h2, h3, ?_⟩
  rw [Nat.mul_one] at *
  rw [List.map_take, ← h4, List.take_take, Nat.min_eq_left hk]
theorem own_addr {w : World} {base n : Nat} {v : Value} {xs : List Value} {e : TypeId} (h : w.ownsRow base e 1 v n xs) : ∀ ao m cp, v = .slice ao m cp → Option.map (fun x : Addr => x.add 0) ao = ao := by
 intro ao m cp e
 rcases h.2 with ⟨e1, _⟩ | ⟨g, cap, cur, e1, _⟩
 ·rw [e1] at e
  injection e with e1 _ _
  rw [← e1]
  rfl
 ·rw [e1] at e
  injection e with e1 _ _
  rw [← e1]
  rfl
theorem own_ne_pl {w : World} {base sz n : Nat} {v : Value} {xs : List Value} (h : w.ownsRow base 3 sz v n xs) {B s q : Nat} {p : Po} (hp : Pl w B s q p) : ∀ g, v.ownBlock = some g → ¬ Bk B s q g := by
 intro g hg hb
 obtain ⟨_, cur, hc⟩ := own_lt h hg
 rcases hb with rfl | rfl | rfl
 ·rw [hp.bx] at hc
  simp at hc
 ·exact own_ne_map h hp.ms hg.symm
 ·exact own_ne_map h hp.mq hg.symm
theorem Pl.kept {w w' : World} {B s q : Nat} {p : Po} {row : Option Nat} (h : Pl w B s q p) (hg : w.grownBy w' row) (hr : ∀ g, row = some g → ¬ Bk B s q g) : Pl w' B s q p :=
 h.same fun i hi => hg.block i (by rcases hi with rfl | rfl | rfl; exact h.lt; exact h.ms.lt; exact h.mq.lt) (fun e => hr i e.symm hi)
theorem Pl.setS {w w' : World} {B s q : Nat} {p : Po} {l : List (Int × Int)} (h : Pl w B s q p) (hg : w.grownBy w' (some s)) (hm : Im w' s l) : Pl w' B s q { p with l := l } :=
 ⟨(hg.block B h.lt (by intro e; exact h.nes (Option.some.inj e).symm)).trans h.bx, hm, h.mq.kept hg (by intro e; exact h.ne (Option.some.inj e).symm), h.ne⟩
def dels (l : List (Int × Int)) (xs : List Int) : List (Int × Int) := xs.foldl delI l
theorem dels_snoc (l : List (Int × Int)) (xs : List Int) (x : Int) : dels l (xs ++ [x]) = delI (dels l xs) x := by simp [dels]
theorem mem_dels (l : List (Int × Int)) (xs : List Int) (p : Int × Int) : p ∈ dels l xs ↔ p ∈ l ∧ p.1 ∉ xs := by
 induction xs generalizing l with
 | nil => simp [dels]
 | cons x xs ih =>
  show p ∈ dels (delI l x) xs ↔ _
  rw [ih, mem_delI]
  simp only [List.mem_cons, not_or]
  constructor
  ·rintro ⟨⟨h1, h2⟩, h3⟩; exact ⟨h1, h2, h3⟩
  ·rintro ⟨h1, h2, h3⟩; exact ⟨⟨h1, h2⟩, h3⟩
theorem Ris.dels {l : List (Int × Int)} (h : Ris l) (xs : List Int) : Ris (dels l xs) := by
 induction xs generalizing l with
 | nil => exact h
 | cons x xs ih => exact ih (h.del x)
theorem dels_len (l : List (Int × Int)) (xs : List Int) : (dels l xs).length ≤ l.length := by
 induction xs generalizing l with
 | nil => exact Nat.le_refl _
 | cons x xs ih => exact Nat.le_trans (ih (delI l x)) (del_len x)
def ups (c : Int) (n : Nat) : List Int := (List.range n).map fun (i : Nat) => c + i
theorem ups_succ (c : Int) (n : Nat) : ups c (n + 1) = ups c n ++ [c + n] := by simp [ups, List.range_succ]
def tkn (p : Po) (n : Nat) : List Int := (us p).take n ++ ups p.c (n - (us p).length)
def tkP (p : Po) (n : Nat) : Po := { p with l := dels p.l ((us p).take n), c := p.c + ((n - (us p).length : Nat) : Int) }
theorem zget_take {L : List Int} {i k : Nat} (h : i < k) : (L.take k).getD i 0 = L.getD i 0 := by simp [List.getD, h]
theorem take_snoc {L : List Int} {i : Nat} (h : i < L.length) : L.take (i + 1) = L.take i ++ [L.getD i 0] := by
 rw [List.take_add_one, List.getElem?_eq_getElem h]
 simp [List.getD, List.getElem?_eq_getElem h]
set_option maxHeartbeats 4000000 in
set_option maxRecDepth 100000 in
theorem take_any {w : World} {B s q : Nat} {p : Po} (h : Pl w B s q p) (hs : p.l.length ≤ 1000000) (hc : 0 ≤ p.c) (hc2 : p.c ≤ 1000000) (n : Nat) (hn : n ≤ 2000000) :
  Calls Tryz.prog 23 #[.pointer (some ⟨B, 0, none⟩), .int .i64 n] w fun e w' => ∃ v, e = .returned v ∧ w'.ownsRow w.heap.size 3 1 v n ((tkn p n).map (Value.int .i64)) ∧ Pl w' B s q (tkP p n) ∧ Fr w w' (Bk B s q) := by
 obtain ⟨i1, hi1, hy0, hy1, hy2⟩ := info_parts info_int
 have HP := hid_intro h
 have hul := us_len p
 have HUW : Hid (Wf (us p)) := fun x hx => by
  obtain ⟨y, hy, rfl, _⟩ := mem_us.1 hx
  exact of_wf64 (h.ms.kw y hy)
 clear h
 obtain ⟨u, hu⟩ : ∃ u, u = (us p).length := ⟨_, rfl⟩
 have HC := hid_intro (usable_any HP.out hs)
 rw [← hu] at HC hul
 obtain ⟨k, hk⟩ : ∃ k : Nat, k = min n u := ⟨_, rfl⟩
 have hk1 : min (n : Int) (u : Int) = (k : Int) := by omega
 have hku : k ≤ u := by omega
 have HU := hid_intro hu
 have HK := hid_intro hk
 clear hu hk
 go_enter Tryz.func23, Tryz.ntmps23
 go_wp2_with fail
 refine HC.out.mono ?_
 rintro en w1 ⟨v, rfl, ho, hg⟩
 have hadd := own_addr ho
 obtain ⟨ao, cp, rfl, hnt, hcp, hcp2, hnil, hbs⟩ := owns_ints ho
 have hadd2 := hadd ao u cp rfl
 have HP1 := hid_intro (HP.out.keptN hg)
 have HF1 := hid_intro (Fr.ofN (F := Bk B s q) hg)
 have hsz := hg.size
 have HO := hid_intro (own_take ho hku)
 have hkc : (k : Int) ≤ (cp : Int) := by omega
 have hk0 : (0 : Int) ≤ (k : Int) := by omega
 clear ho hg hnt hbs hnil hadd
 go_wp2
 go_loopw [8, 19] (fun _ si wr => ∃ i : Nat, i ≤ k ∧ si = .int .i64 i ∧ wr.ownsRow w.heap.size 3 1 (.slice ao k cp) k (((us p).take k).map (Value.int .i64)) ∧ Pl wr B s q { p with l := dels p.l ((us p).take i) } ∧ Fr w wr (Bk B s q)) (fun _ si _ => k - (zOf si).toNat)
 case atStart => exact ⟨0, Nat.zero_le _, rfl, HO.out, HP1.out, HF1.out⟩
 case round =>
  obtain ⟨i, hi, rfl, ho, hp, hf⟩ := hrel
  have HO2 := hid_intro ho
  have HP2 := hid_intro hp
  have HF2 := hid_intro hf
  have c2 := hp.c2
  have HM2 := hid_intro hp.ms
  clear ho hp hf HO HP1 HF1
  by_cases hlt : i < k
  ·obtain ⟨ao', cp', e1, hnt, _⟩ := owns_ints HO2.out
   injection e1 with e1 e2 e3
   subst e1
   have hkl : ((us p).take k).length = k := by rw [List.length_take, ← HU.out]; omega
   obtain ⟨b, off, rfl, d0⟩ := hnt.row i (by omega)
   rw [zget_take hlt] at d0
   have hx := HUW.out.getD (i := i) (by rw [← HU.out]; omega)
   have HTK := hid_intro (take_snoc (L := us p) (i := i) (by rw [← HU.out]; omega))
   clear hnt hkl e2 e3
   generalize (us p).getD i 0 = x at *
   go_wp2_with (first
    | (at_delete; refine wpList_delete_own _ rfl _ _ 62 3 rfl 3 keyedI Tryz.underlying62 _ s _ (imD (dels p.l ((us p).take i))) rfl HM2.out _ _ rfl (keyOf_int_mk Tryz.underlying3 (wf64 hx)) ?_; intro w2 hown2 hturn2)
    | go_in)
   have hg2 := hturn2.grown
   have HO3 := hid_intro (own_keptR HO2.out hg2 (fun g e e' => own_ne_map HO2.out HM2.out (by rw [e, ← e'])))
   have hp3 := HP2.out.setS hg2 (Im.del hown2)
   rw [← dels_snoc, ← HTK.out] at hp3
   have HP3 := hid_intro hp3
   have HF3 := hid_intro (HF2.out.trans (Fr.of hg2 (fun j e => .inr (.inr (.inl (Option.some.inj e).symm)))))
   clear hp3 hg2 hown2 hturn2
   go_wp2
   go_roundw
   case rel => exact ⟨i + 1, by omega, by go_num, HO3.out, HP3.out, HF3.out⟩
   case measure => simp [zOf]; omega
  ·have hik : i = k := by omega
   subst hik
   have HT : Hid ((us p).take i = (us p).take n) := by
    show _ = _
    by_cases e : n ≤ u
    ·rw [HK.out, Nat.min_eq_left e]
    ·rw [HK.out, List.take_of_length_le (by rw [← HU.out]; omega), List.take_of_length_le (by rw [← HU.out]; omega)]
   rw [HT.out] at HO2 HP2
   clear c2 HM2
   go_wp2
   go_loopw [6] (fun sv wr => ∃ j : Nat, j ≤ n - u ∧ wr.ownsRow w.heap.size 3 1 sv (i + j) (((us p).take n ++ ups p.c j).map (Value.int .i64)) ∧ Pl wr B s q { p with l := dels p.l ((us p).take n), c := p.c + j } ∧ Fr w wr (Bk B s q)) (fun sv _ => n - (lnOf sv))
   case atStart => exact ⟨0, Nat.zero_le _, by simpa [ups] using HO2.out, by simpa using HP2.out, HF2.out⟩
   case round =>
    obtain ⟨j, hj, ho, hp, hf⟩ := hrel
    obtain ⟨a2, c2, rfl, -, hc2, hc3, -, -⟩ := owns_ints ho
    have c0 := hp.c0
    have HO3 := hid_intro ho
    have HP3 := hid_intro hp
    have HF3 := hid_intro hf
    have hss := hf.size
    clear ho hp hf HO2 HP2 HF2
    by_cases hlt : i + j < n
    ·have hlt2 : ((i : Int) + (j : Int)) < (n : Int) := by omega
     have hju : j < n - u := by
      have := HK.out
      omega
     obtain ⟨x, hx⟩ : ∃ x, x = p.c + (j : Int) := ⟨_, rfl⟩
     have c0' : wr.cell? ⟨B, 0, none⟩ = some (.int .i64 x) := by rw [hx]; exact c0
     have hx0 : 0 ≤ x := by omega
     have hx1 : x ≤ 4000000 := by omega
     have HX := hid_intro hx
     clear hx c0
     go_wp2_with (first
      | (at_builtin; refine wpList_append_own _ rfl _ _ 22 rfl w.heap.size 3 i1 (.int .i64 0) 1 8 Tryz.underlying22 hi1 hy0 hy1 hy2 rfl (by decide) (.slice a2 (i + j) c2) (i + j) (((us p).take n ++ ups p.c j).map (Value.int .i64)) rfl (HO3.out.alloc _) ⟨wr.heap.size, 0, none⟩ 1 1 [.int .i64 x] rfl rfl (cell_one_new _ _ _) (by intro u hu; simp at hu; subst hu; rfl) (by unfold maxLen; omega) (by omega) (by simp; omega) ?_; intro v' w10 ho hg10 _; have HG10 := hid_intro hg10; have HO10 := hid_intro ho; have hga := World.grownBy_alloc wr (.cells #[.int .i64 x] 3) none; have HP10 := hid_intro (((HP3.out.keptN hga)).kept hg10 (own_ne_pl (HO3.out.alloc (.cells #[.int .i64 x] 3)) (HP3.out.keptN hga))); have c10 : w10.cell? ⟨B, 0, none⟩ = some (.int .i64 x) := (by rw [HX.out]; exact HP10.out.c0); have f10 := HP10.out.fz 0; clear ho hg10 hga c0')
      | go_in)
     have ho5 : w10.ownsRow w.heap.size 3 1 v' (i + (j + 1)) (((us p).take n ++ ups p.c (j + 1)).map (Value.int .i64)) := by
      have e : ((us p).take n ++ ups p.c (j + 1)).map (Value.int .i64) = ((us p).take n ++ ups p.c j).map (Value.int .i64) ++ [.int .i64 x] := by
       rw [ups_succ, HX.out]
       simp
      rw [e]
      exact HO10.out
     have hgs := grown_cellP w10 B 0 (.int .i64 (x + 1))
     have ho6 := own_keptR ho5 hgs (fun g e e' => own_ne_pl ho5 HP10.out g e (.inl (Option.some.inj e').symm))
     have hp6 := HP10.out.set0 (x + 1)
     have e6 : x + 1 = p.c + ((j + 1 : Nat) : Int) := by rw [HX.out]; omega
     have hf6 : Fr w (w10.setCell ⟨B, 0, none⟩ (.int .i64 (x + 1))) (Bk B s q) := by
      refine Fr.trans ?_ (Fr.of hgs (fun k e => .inr (.inl (Option.some.inj e).symm)))
      refine (HF3.out.trans (Fr.ofN (World.grownBy_alloc wr (.cells #[.int .i64 x] 3) none))).then (Fr.of (F := fun m => (Value.slice a2 (i + j) c2).ownBlock = some m) HG10.out (fun k e => .inr e)) ?_
      intro m hm hlt'
      have := (own_lt HO3.out hm).1
      omega
     obtain ⟨a3, c3, rfl, -⟩ := owns_ints ho5
     refine ⟨⟨j + 1, by omega, ho6, ?_, hf6⟩, by simp [lnOf]; omega⟩
     rw [← e6]
     exact hp6
    ·have hjn : i + j = n := by
      have := HK.out
      omega
     have hju : j = n - u := by
      have := HK.out
      omega
     have hlt2 : ¬ ((i : Int) + (j : Int)) < (n : Int) := by omega
     have HO4 : Hid (wr.ownsRow w.heap.size 3 1 (.slice a2 (i + j) c2) n ((tkn p n).map (Value.int .i64))) := by
      have := HO3.out
      show wr.ownsRow _ _ _ _ n _
      unfold tkn
      rw [← HU.out, ← hju]
      have e : (i + j) = n := hjn
      rw [e] at this ⊢
      exact this
     have HP4 : Hid (Pl wr B s q (tkP p n)) := by
      have := HP3.out
      show Pl wr B s q (tkP p n)
      unfold tkP
      rw [← HU.out, ← hju]
      exact this
     clear hjn hju HO3 HP3
     go_wp2
     go_ret
     exact ⟨_, rfl, HO4.out, HP4.out, HF3.out⟩
end Go.Proofs.YtcfmkpgfeodhaaaGreatDoor
namespace Go.Proofs.YtcfmkpgfeodhaaaGreatDoor
open Go.RowKit Go.Maps
def puts (l : List (Int × Int)) (g : List Int) (v : Int) : List (Int × Int) := g.foldl (fun l x => putI l x v) l
theorem puts_snoc (l : List (Int × Int)) (g : List Int) (x v : Int) : puts l (g ++ [x]) v = putI (puts l g v) x v := by simp [puts]
theorem puts_len (l : List (Int × Int)) (g : List Int) (v : Int) : (puts l g v).length ≤ l.length + g.length := by
 induction g generalizing l with
 | nil => simp [puts]
 | cons x g ih =>
  have h1 := ih (putI l x v)
  have h2 := put_len l x v
  show (puts (putI l x v) g v).length ≤ _
  simp
  omega
theorem Ris.puts {l : List (Int × Int)} (h : Ris l) (g : List Int) (v : Int) : Ris (puts l g v) := by
 induction g generalizing l with
 | nil => exact h
 | cons x g ih => exact ih (h.put x v)
theorem mem_puts (l : List (Int × Int)) (g : List Int) (v : Int) (p : Int × Int) : p ∈ puts l g v ↔ (p.1 ∈ g ∧ p.2 = v) ∨ (p ∈ l ∧ p.1 ∉ g) := by
 induction g generalizing l with
 | nil => simp [puts]
 | cons x g ih =>
  show p ∈ puts (putI l x v) g v ↔ _
  rw [ih, mem_putI]
  simp only [List.mem_cons, not_or]
  constructor
  ·rintro (⟨h1, h2⟩ | ⟨rfl | ⟨h1, h2⟩, h3⟩)
   ·exact .inl ⟨.inr h1, h2⟩
   ·exact .inl ⟨.inl rfl, rfl⟩
   ·exact .inr ⟨h1, h2, h3⟩
  ·rintro (⟨h1 | h1, h2⟩ | ⟨h1, h2, h3⟩)
   ·by_cases hg : p.1 ∈ g
    ·exact .inl ⟨hg, h2⟩
    ·exact .inr ⟨.inl (Prod.ext h1 h2), hg⟩
   ·exact .inl ⟨h1, h2⟩
   ·exact .inr ⟨.inr ⟨h1, h2⟩, h3⟩
theorem puts_new {g : List Int} (h : RisZ g) (v : Int) : puts [] g v = g.map fun x => (x, v) := by
 refine Ris.ext (Ris.nil.puts g v) (List.pairwise_map.2 (h.imp fun {a b} hab => hab)) fun p => ?_
 rw [mem_puts]
 simp only [List.mem_map, List.not_mem_nil, false_and, or_false]
 constructor
 ·rintro ⟨h1, h2⟩
  exact ⟨p.1, h1, Prod.ext rfl h2.symm⟩
 ·rintro ⟨x, hx, rfl⟩
  exact ⟨hx, rfl⟩
def newOk (c k : Int) (g : List Int) : Bool := decide (2 ≤ c) && decide (c ≤ k) && decide (k ≤ 524287) && rp 1 c g
def newP (c k : Int) (g : List Int) : Po := ⟨c, k, g.map fun x => (x, 0), []⟩
theorem rp_wf {last c : Int} {g : List Int} (h : rp last c g = true) (h1 : 0 ≤ last) (h2 : c ≤ 9000000000) : Wf g := by
 intro x hx
 have := ((rp_iff last c g).1 h).2 x hx
 omega
set_option maxHeartbeats 1000000 in
set_option maxRecDepth 100000 in
theorem new_no (c k : Int) (a : Option Addr) (n cap : Nat) (g : List Int) (w : World) (hl : Nt w a g) (hn : g.length = n) (hm : n ≤ 9223372036854775807) (hk : newOk c k g = false) :
  Calls Tryz.prog 6 #[.int .i64 c, .int .i64 k, .slice a n cap] w fun e w' => e = .returned (.pointer none) ∧ w' = w := by
 have HC := hid_intro (rise_any a n cap c g w hl hn hm)
 clear hl
 by_cases h1 : c < 2
 ·go_enter Tryz.func6, Tryz.ntmps6
  go_wp2
  go_ret
  exact ⟨rfl, rfl⟩
 ·by_cases h2 : k < c
  ·go_enter Tryz.func6, Tryz.ntmps6
   go_wp2
   go_ret
   exact ⟨rfl, rfl⟩
  ·by_cases h3 : 524287 < k
   ·go_enter Tryz.func6, Tryz.ntmps6
    go_wp2
    go_ret
    exact ⟨rfl, rfl⟩
   ·have hr : rp 1 c g = false := by
     unfold newOk at hk
     simp only [show 2 ≤ c by omega, show c ≤ k by omega, show k ≤ 524287 by omega, decide_true, Bool.true_and] at hk
     exact hk
    rw [hr] at HC
    clear hr hk
    go_enter Tryz.func6, Tryz.ntmps6
    go_wp2_with (go_at_call 21; refine HC.out.mono ?_; rintro en w2 ⟨rfl, rfl⟩)
    go_ret
    exact ⟨rfl, rfl⟩
set_option maxHeartbeats 2000000 in
set_option maxRecDepth 100000 in
theorem new_yes (c k : Int) (a : Option Addr) (n cap : Nat) (g : List Int) (w : World) (hl : Nt w a g) (hn : g.length = n) (hm : n ≤ 1000000) (hk : newOk c k g = true) :
  Calls Tryz.prog 6 #[.int .i64 c, .int .i64 k, .slice a n cap] w fun e w' => ∃ B s q, e = .returned (.pointer (some ⟨B, 0, none⟩)) ∧ Pl w' B s q (newP c k g) ∧ w.grownBy w' none ∧ (∀ i, Bk B s q i → w.heap.size ≤ i) := by
 have HC := hid_intro (rise_any a n cap c g w hl hn (by omega))
 simp only [newOk, Bool.and_eq_true, decide_eq_true_eq] at hk
 obtain ⟨⟨⟨h1, h2⟩, h3⟩, hr⟩ := hk
 rw [hr] at HC
 have HL := hid_intro hl
 have HR := hid_intro ((rp_iff 1 c g).1 hr).1
 have HW := hid_intro (rp_wf hr (by omega) (by omega))
 clear hl hr
 have hmm := @run_makeMap Tryz.prog
 have h1' : ¬ c < 2 := by omega
 have h2' : ¬ k < c := by omega
 have h3' : ¬ 524287 < k := by omega
 go_enter Tryz.func6, Tryz.ntmps6
 go_wp2_with (go_at_call 21; refine HC.out.mono ?_; rintro en w ⟨rfl, rfl⟩)
 have HP0 : Hid (Pl (((w.alloc (Obj.map #[] 0)).alloc (Obj.map #[] 0)).alloc (Obj.cells #[Value.int IntKind.i64 c, Value.int IntKind.i64 k, Value.map (some w.heap.size), Value.map (some (w.heap.size + 1))] 64)) (w.heap.size + 1 + 1) w.heap.size (w.heap.size + 1) ⟨c, k, [], []⟩) := by
  have hs1 : (w.alloc (Obj.map #[] 0)).heap.size = w.heap.size + 1 := by simp
  have hs2 : ((w.alloc (Obj.map #[] 0)).alloc (Obj.map #[] 0)).heap.size = w.heap.size + 1 + 1 := by simp
  have m1 := ((Im.made w).keptN (World.grownBy_alloc _ (Obj.map #[] 0) none)).keptN (World.grownBy_alloc _ (Obj.cells #[Value.int IntKind.i64 c, Value.int IntKind.i64 k, Value.map (some w.heap.size), Value.map (some (w.heap.size + 1))] 64) none)
  have m2 := (Im.made (w.alloc (Obj.map #[] 0))).keptN (World.grownBy_alloc _ (Obj.cells #[Value.int IntKind.i64 c, Value.int IntKind.i64 k, Value.map (some w.heap.size), Value.map (some (w.heap.size + 1))] 64) none)
  rw [hs1] at m2
  refine ⟨?_, m1, m2, by show w.heap.size ≠ w.heap.size + 1; omega⟩
  have := heap_alloc_new ((w.alloc (Obj.map #[] 0)).alloc (Obj.map #[] 0)) (Obj.cells #[Value.int IntKind.i64 c, Value.int IntKind.i64 k, Value.map (some w.heap.size), Value.map (some (w.heap.size + 1))] 64)
  rw [hs2] at this
  exact this
 have HG0 : Hid (w.grownBy (((w.alloc (Obj.map #[] 0)).alloc (Obj.map #[] 0)).alloc (Obj.cells #[Value.int IntKind.i64 c, Value.int IntKind.i64 k, Value.map (some w.heap.size), Value.map (some (w.heap.size + 1))] 64)) none) :=
  grown_trans (grown_trans (World.grownBy_alloc _ _ none) (World.grownBy_alloc _ _ none)) (World.grownBy_alloc _ _ none)
 generalize ((w.alloc (Obj.map #[] 0)).alloc (Obj.map #[] 0)).alloc (Obj.cells #[Value.int IntKind.i64 c, Value.int IntKind.i64 k, Value.map (some w.heap.size), Value.map (some (w.heap.size + 1))] 64) = w1 at *
 have HN : Hid (∀ i, Bk (w.heap.size + 1 + 1) w.heap.size (w.heap.size + 1) i → w.heap.size ≤ i) := by
  rintro i (rfl | rfl | rfl) <;> omega
 generalize w.heap.size + 1 + 1 = B at *
 generalize w.heap.size + 1 = q at *
 go_loopw [9, 35] (fun _ si wr => ∃ i : Nat, i ≤ n ∧ si = .int .i64 i ∧ Pl wr B w.heap.size q ⟨c, k, puts [] (g.take i) 0, []⟩ ∧ w.grownBy wr none) (fun _ si _ => n - (zOf si).toNat)
 case atStart => exact ⟨0, Nat.zero_le _, rfl, HP0.out, HG0.out⟩
 case round =>
  obtain ⟨i, hi, rfl, hp, hg⟩ := hrel
  have HP := hid_intro hp
  have HG := hid_intro hg
  have c2 := hp.c2
  have HM : Hid (Im wr w.heap.size (puts [] (g.take i) 0)) := hp.ms
  have hpl := puts_len [] (g.take i) 0
  rw [List.length_take] at hpl
  simp only [List.length_nil] at hpl
  clear hp hg HP0 HG0 hmm
  by_cases hlt : i < n
  ·obtain ⟨b, off, rfl, d0⟩ := HL.out.row i (by omega)
   have d1 := HG.out.cell d0 (by simp)
   have hx := HW.out.getD (i := i) (by omega)
   have HTK := hid_intro (take_snoc (L := g) (i := i) (by omega))
   clear d0
   generalize g.getD i 0 = x at *
   go_wp2_with (first
    | (at_mapUpdate; refine wpList_mapUpdate_own _ rfl _ _ _ 62 rfl 3 3 keyedI Tryz.underlying62 _ w.heap.size _ (imD (puts [] (g.take i) 0)) rfl HM.out (by unfold maxLen; omega) _ _ _ rfl rfl (keyOf_int_mk Tryz.underlying3 (wf64 hx)) _ [] (plainElem_int Tryz.underlying3 (wf64 (z := 0) (by omega))) ?_; intro w3 hown3 hg3)
    | go_in)
   have hp3 := HP.out.setS hg3 (Im.put hown3)
   rw [← puts_snoc, ← HTK.out] at hp3
   have HP3 := hid_intro hp3
   have HG3 := hid_intro (HG.out.andThen hg3 (fun j e => .inl (HN.out j (.inr (.inl (Option.some.inj e).symm)))))
   clear hp3 hg3 hown3
   go_wp2
   go_roundw
   case rel => exact ⟨i + 1, by omega, by go_num, HP3.out, HG3.out⟩
   case measure => simp [zOf]; omega
  ·have hin : i = n := by omega
   subst hin
   have HP4 : Hid (Pl wr B w.heap.size q (newP c k g)) := by
    have := HP.out
    rw [← hn, List.take_length, puts_new HR.out] at this
    exact this
   go_wp2
   go_ret
   exact ⟨B, w.heap.size, q, rfl, HP4.out, HG.out, HN.out⟩
theorem own_base {w : World} {base base' sz n : Nat} {e : TypeId} {v : Value} {xs : List Value} (h : w.ownsRow base e sz v n xs) (hb : base' ≤ base) : w.ownsRow base' e sz v n xs := by
 refine ⟨h.1, ?_⟩
 rcases h.2 with h0 | ⟨g, cap, cur, rfl, hg, r⟩
 ·exact .inl h0
 ·exact .inr ⟨g, cap, cur, rfl, Nat.le_trans hb hg, r⟩
def cmN (p : Po) (d : Int) (g : List Int) : Nat := (d + lsP p d g).toNat
def cmP (p : Po) (d : Int) (g : List Int) (v : Int) : Po := { tkP p (cmN p d g) with l := puts (tkP p (cmN p d g)).l g v }
theorem lsP_range {p : Po} (ok : Ok p) (hr : Ris p.l) (d : Int) (g : List Int) (hg : g.length ≤ 1000000) : -1 ≤ lsP p d g ∧ lsP p d g ≤ 2000000 := by
 have h1 := ok.len hr
 have h2 := lst_le (p.l.length + g.length) (us p).length (min d (us p).length).toNat
 unfold lsP
 split
 ·omega
 ·omega
set_option maxHeartbeats 1000000 in
set_option maxRecDepth 100000 in
theorem commit_pool {w : World} {B s q : Nat} {p : Po} (h : Pl w B s q p) (ok : Ok p) (d : Int) (a : Option Addr) (n cap : Nat) (g : List Int) (v : Int) (hl : Nt w a g) (hn : g.length = n) (hw : Wf g) (hm : n ≤ 1000000) (hd2 : d ≤ 9223372036854775807) (hf : lsP p d g = -1) :
  Calls Tryz.prog 11 #[.pointer (some ⟨B, 0, none⟩), .int .i64 d, .slice a n cap, .int .i64 v] w fun e w' => e = .returned (.tuple #[.slice none 0 0, .int .i64 171]) ∧ w.grownBy w' none := by
 have HC := hid_intro (lists_any h ok d a n cap g hl hn hw hm hd2)
 rw [hf] at HC
 clear h ok hl hw hf
 go_enter Tryz.func11, Tryz.ntmps11
 go_wp2_with (go_at_call 18; refine HC.out.mono ?_; rintro en w2 ⟨rfl, hg2⟩)
 go_ret2
 exact ⟨rfl, hg2⟩
set_option maxHeartbeats 1000000 in
set_option maxRecDepth 100000 in
theorem commit_full {w : World} {B s q : Nat} {p : Po} (h : Pl w B s q p) (ok : Ok p) (d : Int) (a : Option Addr) (n cap : Nat) (g : List Int) (v : Int) (hl : Nt w a g) (hn : g.length = n) (hw : Wf g) (hm : n ≤ 1000000) (hd2 : d ≤ 9223372036854775807) (hf : 0 ≤ lsP p d g) (hr : rm p - lsP p d g < d) :
  Calls Tryz.prog 11 #[.pointer (some ⟨B, 0, none⟩), .int .i64 d, .slice a n cap, .int .i64 v] w fun e w' => e = .returned (.tuple #[.slice none 0 0, .int .i64 170]) ∧ w.grownBy w' none := by
 have HC := hid_intro (lists_any h ok d a n cap g hl hn hw hm hd2)
 have hfr := lsP_range ok h.ms.ris d g (by omega)
 have hrr : 0 ≤ rm p ∧ rm p ≤ 2000000 := by
  have := us_len p
  have := ok.len h.ms.ris
  have := ok.ck
  have := ok.k
  have := ok.c2
  unfold rm
  omega
 have HRM := hid_intro (fun (W : World) (hW : w.grownBy W none) => room_any (h.keptN hW) ok)
 clear h ok hl hw
 generalize lsP p d g = f at *
 generalize rm p = r at *
 have hf' : ¬ f < 0 := by omega
 go_enter Tryz.func11, Tryz.ntmps11
 go_wp2_with (first
  | (go_at_call 18; refine HC.out.mono ?_; rintro en w2 ⟨rfl, hg2⟩; have HG2 := hid_intro hg2; clear hg2)
  | (go_at_call 17; refine (HRM.out w2 HG2.out).mono ?_; rintro en w3 ⟨rfl, hg3⟩; have HG3 := hid_intro (grown_trans HG2.out hg3); clear hg3))
 go_ret2
 exact ⟨rfl, HG3.out⟩
set_option maxHeartbeats 2000000 in
set_option maxRecDepth 100000 in
theorem commit_ok {w : World} {B s q : Nat} {p : Po} (h : Pl w B s q p) (ok : Ok p) (d : Int) (a : Option Addr) (n cap : Nat) (g : List Int) (v : Int) (hl : Nt w a g) (hab : ∀ ad, a = some ad → 0 < n → ¬ Bk B s q ad.block) (hn : g.length = n) (hw : Wf g) (hm : n ≤ 1000000) (hd1 : 0 ≤ d) (hd2 : d ≤ 9223372036854775807) (hf : 0 ≤ lsP p d g) (hr : d ≤ rm p - lsP p d g) (hv : -9223372036854775808 ≤ v ∧ v ≤ 9223372036854775807) :
  Calls Tryz.prog 11 #[.pointer (some ⟨B, 0, none⟩), .int .i64 d, .slice a n cap, .int .i64 v] w fun e w' => ∃ u, e = .returned (.tuple #[u, .int .i64 0]) ∧ w'.ownsRow w.heap.size 3 1 u (cmN p d g) ((tkn p (cmN p d g)).map (Value.int .i64)) ∧ Pl w' B s q (cmP p d g v) ∧ Fr w w' (Bk B s q) := by
 have HC := hid_intro (lists_any h ok d a n cap g hl hn hw hm hd2)
 have hfr := lsP_range ok h.ms.ris d g (by omega)
 have hpl := ok.len h.ms.ris
 have hrr : 0 ≤ rm p ∧ rm p ≤ 2000000 := by
  have := us_len p
  have := ok.ck
  have := ok.k
  have := ok.c2
  unfold rm
  omega
 have HRM := hid_intro (fun (W : World) (hW : w.grownBy W none) => room_any (h.keptN hW) ok)
 have HCP : Hid (cmP p d g v = { tkP p (cmN p d g) with l := puts (tkP p (cmN p d g)).l g v }) := rfl
 have hN : ((cmN p d g : Nat) : Int) = d + lsP p d g := by unfold cmN; omega
 have HT := hid_intro (fun (W : World) (hW : w.grownBy W none) => take_any (h.keptN hW) (by omega) (by have := ok.c2; omega) (by have := ok.ck; have := ok.k; omega) (cmN p d g) (by omega))
 have htl : (tkP p (cmN p d g)).l.length ≤ 1000000 := by
  have := dels_len p.l ((us p).take (cmN p d g))
  show (dels p.l ((us p).take (cmN p d g))).length ≤ _
  omega
 have HL := hid_intro hl
 have HW := hid_intro hw
 have HAB := hid_intro hab
 clear h ok hl hw hab
 generalize lsP p d g = f at *
 generalize rm p = r at *
 generalize cmN p d g = N at *
 generalize tkP p N = p1 at *
 generalize cmP p d g v = p2 at *
 have hf' : decide (f < 0) = false := by simp; omega
 have hr' : decide (r - f < d) = false := by simp; omega
 have hd3 : d ≤ 2000000 := by omega
 have hNb : (N : Int) ≤ 4000000 := by omega
 have hNb0 : (0 : Int) ≤ (N : Int) := by omega
 have hw0 : IntKind.i64.wrap (d + f) = (N : Int) := by rw [hN.symm]; simp [IntKind.wrap, IntKind.signed, IntKind.bits]; omega
 have hN' : d + f = (N : Int) := hN.symm
 clear hN
 go_enter Tryz.func11, Tryz.ntmps11
 go_wp2_with (first
  | (go_at_call 18; refine HC.out.mono ?_; rintro en w2 ⟨rfl, hg2⟩; have HG2 := hid_intro hg2; clear hg2)
  | (go_at_call 17; refine (HRM.out w2 HG2.out).mono ?_; rintro en w3 ⟨rfl, hg3⟩; have HG3 := hid_intro (grown_trans HG2.out hg3); clear hg3)
  | (go_at_call 23; refine (HT.out w3 HG3.out).mono ?_; rintro en w4 ⟨u, rfl, ho4, hp4, hf4⟩; have HO4 := hid_intro ho4; have HP4 := hid_intro hp4; have HF4 := hid_intro ((Fr.ofN HG3.out).trans hf4); have hs3 := HG3.out.size; clear ho4 hp4 hf4))
 go_loopw [13, 35] (fun _ si wr => ∃ i : Nat, i ≤ n ∧ si = .int .i64 i ∧ Pl wr B s q { p1 with l := puts p1.l (g.take i) v } ∧ wr.ownsRow w3.heap.size 3 1 u N ((tkn p N).map (Value.int .i64)) ∧ Fr w wr (Bk B s q)) (fun _ si _ => n - (zOf si).toNat)
 case atStart => exact ⟨0, Nat.zero_le _, rfl, HP4.out, HO4.out, HF4.out⟩
 case round =>
  obtain ⟨i, hi, rfl, hp, ho, hfw⟩ := hrel
  have HP := hid_intro hp
  have HO := hid_intro ho
  have HF := hid_intro hfw
  have c2 := hp.c2
  have HM : Hid (Im wr s (puts p1.l (g.take i) v)) := hp.ms
  have hpl2 := puts_len p1.l (g.take i) v
  rw [List.length_take] at hpl2
  clear hp ho hfw HP4 HO4 HF4
  by_cases hlt : i < n
  ·obtain ⟨b, off, rfl, d0⟩ := (HF.out.nt HL.out (fun ad e h0 => HAB.out ad e (by omega))).row i (by omega)
   have hx := HW.out.getD (i := i) (by omega)
   have HTK := hid_intro (take_snoc (L := g) (i := i) (by omega))
   generalize g.getD i 0 = x at *
   go_wp2_with (first
    | (at_mapUpdate; refine wpList_mapUpdate_own _ rfl _ _ _ 62 rfl 3 3 keyedI Tryz.underlying62 _ s _ (imD (puts p1.l (g.take i) v)) rfl HM.out (by unfold maxLen; omega) _ _ _ rfl rfl (keyOf_int_mk Tryz.underlying3 (wf64 hx)) _ [] (plainElem_int Tryz.underlying3 (wf64 hv)) ?_; intro w5 hown5 hg5)
    | go_in)
   have hp5 := HP.out.setS hg5 (Im.put hown5)
   rw [← puts_snoc, ← HTK.out] at hp5
   have HP5 := hid_intro hp5
   have HO5 := hid_intro (own_keptR HO.out hg5 (fun g e e' => own_ne_map HO.out HM.out (by rw [e, ← e'])))
   have HF5 := hid_intro (HF.out.trans (Fr.of hg5 (fun j e => .inr (.inr (.inl (Option.some.inj e).symm)))))
   clear hp5 hg5 hown5
   go_wp2
   go_roundw
   case rel => exact ⟨i + 1, by omega, by go_num, HP5.out, HO5.out, HF5.out⟩
   case measure => simp [zOf]; omega
  ·have hin : i = n := by omega
   subst hin
   have HP6 : Hid (Pl wr B s q p2) := by
    have := HP.out
    rw [← hn, List.take_length] at this
    show Pl wr B s q p2
    rw [HCP.out]
    exact this
   have HO6 := hid_intro (own_base HO.out hs3)
   go_wp2
   go_ret2
   exact ⟨_, rfl, HO6.out, HP6.out, HF.out⟩
end Go.Proofs.YtcfmkpgfeodhaaaGreatDoor
namespace Go.Proofs.YtcfmkpgfeodhaaaGreatDoor
open Go.RowKit Go.Maps
theorem grown_fr {a b c : World} {F : Nat → Prop} (h : a.grownBy b none) (k : Fr b c F) (hF : ∀ i, F i → a.heap.size ≤ i) : a.grownBy c none :=
 ⟨k.os.trans h.os, k.tape.trans h.tape, k.output.trans h.output, Nat.le_trans h.size k.size, fun i hi _ => (k.block i (Nat.lt_of_lt_of_le hi h.size) (fun e => by have := hF i e; omega)).trans (h.block i hi (by simp))⟩
theorem Nt.lit (w : World) (e : TypeId) (cs : Array Value) (zs : List Int) (h : cs = (zs.map (Value.int .i64)).toArray) : Nt (w.alloc (.cells cs e)) (some ⟨w.heap.size, 0, none⟩) zs := by
 subst h
 refine ⟨fun i hi => ⟨w.heap.size, 0, rfl, ?_⟩⟩
 rw [Nat.zero_add]
 have := cell_of_row (w.alloc (.cells (zs.map (Value.int .i64)).toArray e)) w.heap.size i _ e (0, 0) (heap_alloc_new w _)
 rw [this]
 simp [List.getD, List.getElem?_eq_getElem hi]
theorem own_fr {w w' : World} {base sz n : Nat} {e : TypeId} {v : Value} {xs : List Value} {F : Nat → Prop} (h : w.ownsRow base e sz v n xs) (hf : Fr w w' F) (hne : ∀ g, v.ownBlock = some g → ¬ F g) : w'.ownsRow base e sz v n xs := by
 refine ⟨h.1, ?_⟩
 rcases h.2 with h0 | ⟨g, cap, cur, rfl, hb, hc, r⟩
 ·exact .inl h0
 ·exact .inr ⟨g, cap, cur, rfl, hb, (hf.block g (Array.getElem?_eq_some_iff.1 hc).1 (hne g rfl)).trans hc, r⟩
theorem sameI_yes (a : Option Addr) (n cap : Nat) (a' : Option Addr) (n' cap' : Nat) (L : List Int) (w : World) (hl : Nt w a L) (hn : L.length = n) (hl' : Nt w a' L) (hn' : L.length = n') (hm : n ≤ 9223372036854775807) :
  Calls Tryz.prog 16 #[.slice a n cap, .slice a' n' cap'] w fun en w' => en = .returned (.bool true) ∧ Qt w w' := by
 refine (sameInts_any a n cap L a' n' cap' L w hl hn hl' hn' hm).mono ?_
 rintro en w' ⟨⟨b, rfl, hb⟩, hq⟩
 exact ⟨by rw [hb.2 rfl], hq⟩
theorem Pl.low {w : World} {B s q : Nat} {p : Po} (h : Pl w B s q p) : ∀ i, Bk B s q i → i < w.heap.size := by
 rintro i (rfl | rfl | rfl)
 ·exact h.lt
 ·exact h.ms.lt
 ·exact h.mq.lt
def p0 : Po := newP 10 12 [3, 5, 6]
def p1 : Po := cmP p0 1 [4, 9] 7
def p2 : Po := { p1 with q := pinQ p1.q 6 }
def p3 : Po := { p2 with q := unQ p2.q 6 }
theorem p0_new : newOk 10 12 [3, 5, 6] = true := by decide
theorem p0_ok : Ok p0 := ⟨by decide, by decide, by decide, by decide⟩
theorem p0_rm : rm p0 = 5 := by decide +kernel
theorem p0_ls : lsP p0 1 [] = 1 := by decide +kernel
theorem p0_ls2 : lsP p0 1 [4, 9] = 1 := by decide +kernel
theorem p0_n : cmN p0 1 [4, 9] = 2 := by decide +kernel
theorem p0_t : tkn p0 2 = [3, 5] := by decide +kernel
theorem p1_g : getI p1.q 6 = 0 := by decide +kernel
theorem p1_ql : p1.q.length = 0 := by decide +kernel
theorem p2_us : us p2 = [6] := by decide +kernel
theorem p2_l : p2.l.length = 3 := by decide +kernel
theorem p2_g : getI p2.q 6 = 1 := by decide +kernel
theorem p2_ql : p2.q.length = 1 := by decide +kernel
theorem p3_g : getI p3.q 6 = 0 := by decide +kernel
theorem p3_l : p3.l.map (·.1) = [4, 6, 9] := by decide +kernel
theorem p3_ll : p3.l.length = 3 := by decide +kernel
theorem p3_c : p3.c = 10 := by decide +kernel
theorem p3_ok : Ok p3 := ⟨by decide +kernel, by decide +kernel, by decide +kernel, by decide +kernel⟩
theorem p3_ls : lsP p3 0 [4] = -1 := by decide +kernel
set_option maxHeartbeats 4000000 in
set_option maxRecDepth 100000 in
theorem first17_any (w : World) : Calls Tryz.prog 4 #[] w fun e w' => e = .returned (.bool true) ∧ w.grownBy w' none := by
 go_enter Tryz.func4, Tryz.ntmps4
 go_wp2_with fail
 have ga := World.grownBy_alloc w (.cells #[.int .i64 3, .int .i64 5, .int .i64 6] 3) none
 have la := Nt.lit w 3 #[.int .i64 3, .int .i64 5, .int .i64 6] [3, 5, 6] rfl
 generalize w.alloc (.cells #[.int .i64 3, .int .i64 5, .int .i64 6] 3) = w1 at *
 refine (new_yes 10 12 _ 3 3 [3, 5, 6] w1 la rfl (by omega) p0_new).mono ?_
 rintro en w2 ⟨B, s, q, rfl, hp, hg, hb⟩
 have HP := hid_intro (show Pl w2 B s q p0 from hp)
 have HG := hid_intro (grown_trans ga hg)
 have HB : Hid (∀ i, Bk B s q i → w.heap.size ≤ i) := fun i hi => Nat.le_trans ga.size (hb i hi)
 clear ga la hp hg hb w1
 go_wp2_with fail
 refine (room_any HP.out p0_ok).mono ?_
 rw [p0_rm]
 rintro en w1 ⟨rfl, hg⟩
 have HP1 := hid_intro (HP.out.keptN hg)
 have HG1 := hid_intro (grown_trans HG.out hg)
 clear hg HP HG w2
 go_wp2_with fail
 refine (lists_any HP1.out p0_ok 1 none 0 0 [] (Nt.zero _ _) rfl Wf.nil (by omega) (by omega)).mono ?_
 rw [p0_ls]
 rintro en w2 ⟨rfl, hg⟩
 have HP := hid_intro (HP1.out.keptN hg)
 have HG := hid_intro (grown_trans HG1.out hg)
 clear hg HP1 HG1 w1
 go_wp2_with fail
 have ga := World.grownBy_alloc w2 (.cells #[.int .i64 4, .int .i64 9] 3) none
 have la := Nt.lit w2 3 #[.int .i64 4, .int .i64 9] [4, 9] rfl
 have HP1 := hid_intro (HP.out.keptN ga)
 have HG1 := hid_intro (grown_trans HG.out ga)
 have hlow := HP.out.low
 generalize w2.alloc (.cells #[.int .i64 4, .int .i64 9] 3) = w1 at *
 refine (commit_ok HP1.out p0_ok 1 (some ⟨w2.heap.size, 0, none⟩) 2 2 [4, 9] 7 la (fun ad e _ hb => by cases e; have := hlow _ hb; simp at this) rfl (fun x hx => by simp at hx; omega) (by omega) (by omega) (by omega) (by rw [p0_ls2]; omega) (by rw [p0_ls2, p0_rm]; omega) (by omega)).mono ?_
 rw [p0_n, p0_t]
 rintro en w3 ⟨u, rfl, ho, hp, hf⟩
 obtain ⟨ua, uc, rfl, hnt, -⟩ := owns_ints ho
 have HP3 := hid_intro (show Pl w3 B s q p1 from hp)
 have HG3 := hid_intro (grown_fr HG1.out hf HB.out)
 have HO := hid_intro ho
 have hs13 := hf.size
 clear ga la hlow HP HG HP1 HG1 hp hf ho hnt
 go_wp2_with fail
 refine (pin_any 6 HP3.out (by omega) (by rw [p1_g]; omega) (by rw [p1_g]; omega) (by rw [p1_ql]; omega)).mono ?_
 rintro en w4 ⟨rfl, hp, hf⟩
 have HP4 := hid_intro (show Pl w4 B s q p2 from hp)
 have HG4 := hid_intro (grown_fr HG3.out hf HB.out)
 have HO4 := hid_intro (own_fr HO.out hf (own_ne_pl HO.out HP3.out))
 clear hp hf HP3 HG3 HO
 go_wp2_with fail
 refine (usable_any HP4.out (by rw [p2_l]; omega)).mono ?_
 rw [p2_us]
 rintro en w5 ⟨v, rfl, ho, hg⟩
 obtain ⟨va, vc, rfl, hnt, -⟩ := owns_ints ho
 have HP5 := hid_intro (HP4.out.keptN hg)
 have HG5 := hid_intro (grown_trans HG4.out hg)
 have HO5 := hid_intro (own_kept5 HO4.out hg)
 have HV5 := hid_intro ho
 clear ho hg hnt HP4 HG4 HO4
 go_wp2_with fail
 refine (unpin_yes 6 HP5.out (by omega) (by rw [p2_g]; omega) (by rw [p2_ql]; omega)).mono ?_
 rintro en w6 ⟨rfl, hp, hf⟩
 have HP6 := hid_intro (show Pl w6 B s q p3 from hp)
 have HG6 := hid_intro (grown_fr HG5.out hf HB.out)
 have HO6 := hid_intro (own_fr HO5.out hf (own_ne_pl HO5.out HP5.out))
 have HV6 := hid_intro (own_fr HV5.out hf (own_ne_pl HV5.out HP5.out))
 clear hp hf HP5 HG5 HO5 HV5
 go_wp2_with fail
 refine (unpin_no 6 HP6.out (by omega) p3_g).mono ?_
 rintro en w6 ⟨rfl, rfl⟩
 go_wp2_with fail
 refine (free_any HP6.out (by rw [p3_ll]; omega)).mono ?_
 rw [p3_l, p3_ll]
 rintro en w7 ⟨x, rfl, ho, hg⟩
 obtain ⟨xa, xc, rfl, hnt, -⟩ := owns_ints ho
 have HP7 := hid_intro (HP6.out.keptN hg)
 have HG7 := hid_intro (grown_trans HG6.out hg)
 obtain ⟨ua', uc', e1, hnu, -⟩ := owns_ints (own_kept5 HO6.out hg)
 injection e1 with e1 _ e3
 subst e1 e3
 obtain ⟨va', vc', e1, hnv, -⟩ := owns_ints (own_kept5 HV6.out hg)
 injection e1 with e1 _ e3
 subst e1 e3
 have NU := hid_intro hnu
 have NV := hid_intro hnv
 have NX := hid_intro hnt
 clear ho hg hnt hnu hnv HP6 HG6 HO6 HV6
 go_wp2_with fail
 have ga := World.grownBy_alloc w7 (.cells #[.int .i64 3, .int .i64 5] 3) none
 have la := Nt.lit w7 3 #[.int .i64 3, .int .i64 5] [3, 5] rfl
 have HP8 := hid_intro (HP7.out.keptN ga)
 have HG8 := hid_intro (grown_trans HG7.out ga)
 have NU8 := hid_intro (NU.out.keptN ga)
 have NV8 := hid_intro (NV.out.keptN ga)
 have NX8 := hid_intro (NX.out.keptN ga)
 generalize w7.alloc (.cells #[.int .i64 3, .int .i64 5] 3) = w8 at *
 refine (sameI_yes _ 2 _ _ 2 _ [3, 5] w8 NU8.out rfl la rfl (by omega)).mono ?_
 rintro en w9 ⟨rfl, hq⟩
 have g9 := hq.grown none
 have HP9 := hid_intro (HP8.out.keptN g9)
 have HG9 := hid_intro (grown_trans HG8.out g9)
 have NV9 := hid_intro (NV8.out.keptN g9)
 have NX9 := hid_intro (NX8.out.keptN g9)
 clear ga la hq g9 HP7 HG7 HP8 HG8 NU NV NX NU8 NV8 NX8
 go_wp2_with fail
 have ga := World.grownBy_alloc w9 (.cells #[.int .i64 6] 3) none
 have la := Nt.lit w9 3 #[.int .i64 6] [6] rfl
 have HP10 := hid_intro (HP9.out.keptN ga)
 have HG10 := hid_intro (grown_trans HG9.out ga)
 have NV10 := hid_intro (NV9.out.keptN ga)
 have NX10 := hid_intro (NX9.out.keptN ga)
 generalize w9.alloc (.cells #[.int .i64 6] 3) = w10 at *
 refine (sameI_yes _ 1 _ _ 1 _ [6] w10 NV10.out rfl la rfl (by omega)).mono ?_
 rintro en w11 ⟨rfl, hq⟩
 have g11 := hq.grown none
 have HP11 := hid_intro (HP10.out.keptN g11)
 have HG11 := hid_intro (grown_trans HG10.out g11)
 have NX11 := hid_intro (NX10.out.keptN g11)
 clear ga la hq g11 HP9 HG9 NV9 NX9 HP10 HG10 NV10 NX10
 go_wp2_with fail
 have ga := World.grownBy_alloc w11 (.cells #[.int .i64 4, .int .i64 6, .int .i64 9] 3) none
 have la := Nt.lit w11 3 #[.int .i64 4, .int .i64 6, .int .i64 9] [4, 6, 9] rfl
 have HP12 := hid_intro (HP11.out.keptN ga)
 have HG12 := hid_intro (grown_trans HG11.out ga)
 have NX12 := hid_intro (NX11.out.keptN ga)
 generalize w11.alloc (.cells #[.int .i64 4, .int .i64 6, .int .i64 9] 3) = w12 at *
 refine (sameI_yes _ 3 _ _ 3 _ [4, 6, 9] w12 NX12.out rfl la rfl (by omega)).mono ?_
 rintro en w13 ⟨rfl, hq⟩
 have g13 := hq.grown none
 have HP13 := hid_intro (HP12.out.keptN g13)
 have HG13 := hid_intro (grown_trans HG12.out g13)
 clear ga la hq g13 HP11 HG11 NX11 HP12 HG12 NX12
 go_wp2_with fail
 have ga := World.grownBy_alloc w13 (.cells #[.int .i64 4] 3) none
 have la := Nt.lit w13 3 #[.int .i64 4] [4] rfl
 have HP14 := hid_intro (HP13.out.keptN ga)
 have HG14 := hid_intro (grown_trans HG13.out ga)
 generalize w13.alloc (.cells #[.int .i64 4] 3) = w14 at *
 refine (commit_pool HP14.out p3_ok 0 _ 1 1 [4] 8 la rfl (fun x hx => by simp at hx; omega) (by omega) (by omega) p3_ls).mono ?_
 rintro en w15 ⟨rfl, hg⟩
 have HP15 := hid_intro (HP14.out.keptN hg)
 have HG15 := hid_intro (grown_trans HG14.out hg)
 have HC := hid_intro (count_any HP15.out)
 rw [p3_c] at HC
 clear ga la hg HP13 HG13 HP14 HG14
 go_wp2_with (first
  | (go_at_call 19; refine (num17_any _ _).mono ?_; rintro en w15 ⟨rfl, rfl⟩)
  | (go_at_call 20; refine HC.out.mono ?_; rintro en w15 ⟨rfl, rfl⟩))
 go_ret
 exact ⟨rfl, HG15.out⟩
end Go.Proofs.YtcfmkpgfeodhaaaGreatDoor
namespace Go.Proofs.YtcfmkpgfeodhaaaGreatDoor
open Go.RowKit Go.Maps
set_option maxHeartbeats 1000000 in
set_option maxRecDepth 100000 in
theorem refInts_any (a : Option Addr) (n cap : Nat) (K : List Int) (w : World) (hl : Nt w a K) (hn : K.length = n) (hm : n ≤ 1000000) :
  Calls Tryz.prog 7 #[.slice a n cap] w fun en w' => (∃ v, en = .returned v ∧ w'.ownsRow w.heap.size 3 1 v n (K.map (Value.int .i64))) ∧ w.grownBy w' none ∧ w.heap.size < w'.heap.size := by
 obtain ⟨i1, hi1, hy0, hy1, hy2⟩ := info_parts info_int
 have HL := hid_intro hl
 clear hl
 go_enter Tryz.func7, Tryz.ntmps7
 go_wp2_with (at_make; refine wpList_make_own _ rfl _ _ 22 rfl w.heap.size 3 i1 (.int .i64 0) 1 Tryz.underlying22 hi1 hy0 hy1 _ _ _ n rfl rfl rfl ?b2 ?b3 (Nat.le_refl _) ?_)
 case b2 => rw [hy2]; omega
 case b3 => unfold maxLen; omega
 intro w0 hown0 hg0
 have hs0 : w.heap.size < w0.heap.size := (hown0.lt w.heap.size rfl).2
 have O0 := hid_intro hown0
 have G0 := hid_intro hg0
 clear hown0 hg0
 go_wp2
 go_loopw [3, 4] (fun sl si wr => ∃ i : Nat, i ≤ n ∧ si = .int .i64 i ∧ wr.ownsRow w.heap.size 3 1 sl i ((K.map (Value.int .i64)).take i) ∧ w.grownBy wr none ∧ w.heap.size < wr.heap.size) (fun _ si _ => n - (zOf si).toNat)
 case atStart => exact ⟨0, Nat.zero_le _, rfl, O0.out, G0.out, hs0⟩
 case round =>
  obtain ⟨i, hi', rfl, hown, hg, hs⟩ := hrel
  have HO := hid_intro hown
  have HG := hid_intro hg
  clear hown hg O0 G0
  by_cases hlt : i < n
  ·obtain ⟨b1, off, rfl, q2⟩ := HL.out.row i (by omega)
   have c0 := HG.out.cell q2 (by simp)
   have HTK : Hid ((K.map (Value.int .i64)).take (i + 1) = (K.map (Value.int .i64)).take i ++ [.int .i64 (K.getD i 0)]) := by
    show _ = _
    rw [List.take_add_one, List.getElem?_map, List.getElem?_eq_getElem (show i < K.length by omega)]
    simp [List.getD, List.getElem?_eq_getElem (show i < K.length by omega)]
   clear q2
   generalize K.getD i 0 = no at *
   go_wp2_with (at_builtin; refine wpList_append_own _ rfl _ _ 22 rfl w.heap.size 3 i1 (.int .i64 0) 1 8 Tryz.underlying22 hi1 hy0 hy1 hy2 rfl (by decide) _ i ((K.map (Value.int .i64)).take i) rfl (HO.out.alloc _) ⟨wr.heap.size, 0, none⟩ 1 1 [.int .i64 no] rfl rfl (cell_one_new _ _ _) (by intro u hu; simp at hu; subst hu; rfl) (by unfold maxLen; omega) (by omega) (by have := HG.out.size; simp; omega) ?_)
   intro v' w10 ho hg10 _
   have HO1 := hid_intro ho
   have HG1 := hid_intro (grown_app5 HG.out HO.out (Nat.le_refl _) hg10)
   have hs1 : w.heap.size < w10.heap.size := by have := hg10.size; simp at this; omega
   clear ho hg10 HO HG c0
   go_wp2
   go_roundw
   case rel => exact ⟨i + 1, by omega, by go_num, by rw [HTK.out]; exact HO1.out, HG1.out, hs1⟩
   case measure => simp [zOf]; omega
  ·have hin : i = n := by omega
   subst hin
   have e : (K.map (Value.int .i64)).take i = K.map (Value.int .i64) := List.take_of_length_le (by rw [List.length_map]; omega)
   rw [e] at HO
   go_wp2
   go_ret
   exact ⟨⟨_, rfl, HO.out⟩, HG.out, hs⟩
set_option maxHeartbeats 400000 in
theorem fits_any (k : Int) (a : Option Addr) (n cap : Nat) (w : World) : Calls Tryz.prog 5 #[.int .i64 k, .slice a n cap] w fun e w' => e = .returned (.bool (decide (k ≤ 20000) && decide (n ≤ 4000))) ∧ w' = w := by
 by_cases h1 : k ≤ 20000
 ·by_cases h2 : n ≤ 4000
  ·have h2' : (n : Int) ≤ 4000 := by omega
   have HE : Hid ((decide (k ≤ 20000) && decide (n ≤ 4000)) = true) := by show _ = _; simp [h1, h2]
   go_enter Tryz.func5, Tryz.ntmps5
   go_wp2
   go_ret
   first | exact ⟨by rw [HE.out]; rfl, rfl⟩ | trivial | simp
  ·have h2' : ¬ (n : Int) ≤ 4000 := by omega
   have HE : Hid ((decide (k ≤ 20000) && decide (n ≤ 4000)) = false) := by show _ = _; simp [h2]
   go_enter Tryz.func5, Tryz.ntmps5
   go_wp2
   go_ret
   first | exact ⟨by rw [HE.out]; rfl, rfl⟩ | trivial | simp
 ·have HE : Hid ((decide (k ≤ 20000) && decide (n ≤ 4000)) = false) := by show _ = _; simp [h1]
  go_enter Tryz.func5, Tryz.ntmps5
  go_wp2
  go_ret
  first | exact ⟨by rw [HE.out]; rfl, rfl⟩ | trivial | simp
theorem RisZ.at {L : List Int} (h : RisZ L) {j : Nat} (hj : j + 1 < L.length) : L.getD j 0 < L.getD (j + 1) 0 := by
 have := List.pairwise_iff_getElem.1 h j (j + 1) (by omega) hj (by omega)
 simpa [List.getD, List.getElem?_eq_getElem (show j < L.length by omega), List.getElem?_eq_getElem hj] using this
theorem below_of {w w' : World} (h : w.grownBy w' none) : Below w.heap.size w w' := ⟨h.os, h.tape, h.output, h.size, fun k hk => h.block k hk (by simp)⟩
end Go.Proofs.YtcfmkpgfeodhaaaGreatDoor
namespace Go.Proofs.YtcfmkpgfeodhaaaGreatDoor
open Go.RowKit Go.Maps
set_option maxHeartbeats 2000000 in
set_option maxRecDepth 100000 in
theorem rises_any (a : Option Addr) (n cap : Nat) (c : Int) (L : List Int) (w : World) (hl : Nt w a L) (hn : L.length = n) (hm : n ≤ 9223372036854775806) :
  Calls Tryz.prog 22 #[.slice a n cap, .int .i64 c] w fun en w' => en = .returned (.bool (rp 1 c L)) ∧ Qt w w' := by
 have HL := hid_intro hl
 clear hl
 go_enter Tryz.func22, Tryz.ntmps22
 go_wp2
 go_loopw [5] (fun si wr => ∃ (i : Nat) (last : Int), i ≤ n ∧ si = .int .i64 i ∧ rp 1 c L = rp last c (L.drop i) ∧ (i = 0 → last = 1) ∧ (0 < i → last = L.getD (i - 1) 0 ∧ 2 ≤ last) ∧ Qt w wr) (fun si _ => n - (zOf si).toNat)
 case atStart => exact ⟨0, 1, Nat.zero_le _, rfl, rfl, fun _ => rfl, fun h => by omega, Qt.refl _⟩
 case round =>
  obtain ⟨i, last, hi, rfl, hr, h0, h1, hq⟩ := hrel
  have HQ := hid_intro hq
  clear hq
  by_cases hlt : i < n
  ·obtain ⟨b, off, rfl, q0⟩ := HL.out.row i (by omega)
   have c0 := (HQ.out.cell _).trans q0
   have HR : Hid (rp 1 c L = (decide (last < L.getD i 0) && decide (L.getD i 0 < c) && rp (L.getD i 0) c (L.drop (i + 1)))) := by
    show _ = _
    rw [hr, drop_cons (by omega)]
    rfl
   have g1 : (i : Int) < (n : Int) := by omega
   have g0 : (0 : Int) ≤ (i : Int) := by omega
   have HX : Hid (L.getD (i + 1 - 1) 0 = L.getD i 0) := by show _ = _; rw [Nat.add_sub_cancel]
   rcases Nat.eq_zero_or_pos i with hz | hpos
   ·have hl1 := h0 hz
    subst hl1
    have gp : decide (0 < i) = false := by simp; omega
    have gp2 : decide ((0 : Int) < (i : Int)) = false := by simp; omega
    clear h0 h1 hr q0 hz
    generalize L.getD i 0 = x at *
    by_cases e1 : x < 2
    ·have d1 : decide (x < 2) = true := by simp [e1]
     have HE : Hid (rp 1 c L = false) := by show _ = _; rw [HR.out]; simp [show ¬ 1 < x by omega]
     clear HR e1
     go_wp2
     go_quiet (fail)
     go_wp2
     go_ret
     exact ⟨by rw [HE.out]; rfl, HQ.out.trans (Qt.drewN _ _)⟩
    ·have d1 : decide (x < 2) = false := by simp; omega
     by_cases e2 : c ≤ x
     ·have d2 : decide (c ≤ x) = true := by simp [e2]
      have HE : Hid (rp 1 c L = false) := by show _ = _; rw [HR.out]; simp [show ¬ x < c by omega]
      clear HR e1 e2
      go_wp2
      go_quiet (fail)
      go_wp2
      go_ret
      exact ⟨by rw [HE.out]; rfl, HQ.out.trans (Qt.drewN _ _)⟩
     ·have d2 : decide (c ≤ x) = false := by simp; omega
      have HE : Hid (rp 1 c L = rp x c (L.drop (i + 1))) := by show _ = _; rw [HR.out]; simp [show 1 < x by omega, show x < c by omega]
      have hx2 : 2 ≤ x := by omega
      clear HR e1 e2
      go_wp2
      go_quiet (fail)
      go_wp2
      go_roundw
      case rel => exact ⟨i + 1, x, by omega, by go_num, HE.out, fun h => by omega, fun _ => ⟨HX.out.symm, hx2⟩, HQ.out.trans (Qt.drewN _ _)⟩
      case measure => simp [zOf]; omega
   ·obtain ⟨hl1, hl2⟩ := h1 hpos
    obtain ⟨j, hj⟩ : ∃ j, j = i - 1 := ⟨_, rfl⟩
    rw [← hj] at hl1
    obtain ⟨b2, off2, e2, q1⟩ := HL.out.row j (by omega)
    simp only [Option.some.injEq, Addr.mk.injEq] at e2
    obtain ⟨rfl, rfl, _⟩ := e2
    have c1 := (HQ.out.cell _).trans q1
    rw [← hl1] at c1
    have hij : (i : Int) - 1 = (j : Int) := by omega
    have hwk : IntKind.i64.wrap (j : Int) = (j : Int) := by simp [IntKind.wrap, IntKind.signed, IntKind.bits]; omega
    have g3 : (j : Int) < (n : Int) := by omega
    have g2 : (0 : Int) ≤ (j : Int) := by omega
    have gp : decide (0 < i) = true := by simp [hpos]
    have gp2 : decide ((0 : Int) < (i : Int)) = true := by simp; omega
    have HP := hid_intro hpos
    clear h0 h1 hr q0 q1 hl1 hj hpos
    generalize L.getD i 0 = x at *
    by_cases e1 : x < 2
    ·have d1 : decide (x < 2) = true := by simp [e1]
     have HE : Hid (rp 1 c L = false) := by show _ = _; rw [HR.out]; simp [show ¬ last < x by omega]
     clear HR e1 hl2
     go_wp2
     go_quiet (fail)
     go_wp2
     go_ret
     exact ⟨by rw [HE.out]; rfl, HQ.out.trans (Qt.drewN _ _)⟩
    ·have d1 : decide (x < 2) = false := by simp; omega
     by_cases e2 : c ≤ x
     ·have d2 : decide (c ≤ x) = true := by simp [e2]
      have HE : Hid (rp 1 c L = false) := by show _ = _; rw [HR.out]; simp [show ¬ x < c by omega]
      clear HR e1 e2 hl2
      go_wp2
      go_quiet (fail)
      go_wp2
      go_ret
      exact ⟨by rw [HE.out]; rfl, HQ.out.trans (Qt.drewN _ _)⟩
     ·have d2 : decide (c ≤ x) = false := by simp; omega
      by_cases e3 : x ≤ last
      ·have d3 : decide (x ≤ last) = true := by simp [e3]
       have HE : Hid (rp 1 c L = false) := by show _ = _; rw [HR.out]; simp [show ¬ last < x by omega]
       clear HR e1 e2 e3 hl2
       go_wp2
       go_quiet (fail)
       go_wp2
       go_ret
       exact ⟨by rw [HE.out]; rfl, HQ.out.trans (Qt.drewN _ _)⟩
      ·have d3 : decide (x ≤ last) = false := by simp; omega
       have HE : Hid (rp 1 c L = rp x c (L.drop (i + 1))) := by show _ = _; rw [HR.out]; simp [show last < x by omega, show x < c by omega]
       have hx2 : Hid (2 ≤ x) := by show 2 ≤ x; omega
       clear HR e1 e2 e3 hl2
       go_wp2
       go_quiet (fail)
       go_wp2
       go_roundw
       case rel => exact ⟨i + 1, x, by omega, by go_num, HE.out, fun h => by omega, fun _ => ⟨HX.out.symm, hx2.out⟩, HQ.out.trans (Qt.drewN _ _)⟩
       case measure => simp [zOf]; omega
  ·have hin : i = n := by omega
   have HE : Hid (rp 1 c L = true) := by
    show _ = _
    rw [hr, List.drop_of_length_le (by omega)]
    rfl
   clear h0 h1 hr
   subst hin
   go_wp2
   go_ret
   exact ⟨by rw [HE.out]; rfl, HQ.out⟩
end Go.Proofs.YtcfmkpgfeodhaaaGreatDoor
namespace Go.Proofs.YtcfmkpgfeodhaaaGreatDoor
open Go.RowKit Go.Maps
structure Ro where
 c : Int
 k : Int
 l : List (Int × Int)
 ps : List Int
def fcs (l : List (Int × Int)) : List Value := l.flatMap fun p => [.int .i64 p.1, .int .i64 p.2]
structure Rf (w : World) (F : Nat → Prop) (R : Nat) (r : Ro) (vL vP : Value) : Prop where
 bx : w.heap[R]? = some (.cells #[.int .i64 r.c, .int .i64 r.k, vL, vP] 67 (0, 0))
 lr : w.ownsRow 0 69 2 vL r.l.length (fcs r.l)
 pr : w.ownsRow 0 3 1 vP r.ps.length (r.ps.map (Value.int .i64))
 fR : F R
 fL : ∀ g, vL.ownBlock = some g → F g
 fP : ∀ g, vP.ownBlock = some g → F g
 low : ∀ i, F i → i < w.heap.size
theorem Rf.cell {w : World} {F : Nat → Prop} {R : Nat} {r : Ro} {vL vP : Value} (h : Rf w F R r vL vP) (i : Nat) : w.cell? ⟨R, i, none⟩ = (#[.int .i64 r.c, .int .i64 r.k, vL, vP] : Array Value)[i]? := cell_of_row w R i _ _ _ h.bx
theorem Rf.c0 {w : World} {F : Nat → Prop} {R : Nat} {r : Ro} {vL vP : Value} (h : Rf w F R r vL vP) : w.cell? ⟨R, 0, none⟩ = some (.int .i64 r.c) := h.cell 0
theorem Rf.c1 {w : World} {F : Nat → Prop} {R : Nat} {r : Ro} {vL vP : Value} (h : Rf w F R r vL vP) : w.cell? ⟨R, 1, none⟩ = some (.int .i64 r.k) := h.cell 1
theorem Rf.c2 {w : World} {F : Nat → Prop} {R : Nat} {r : Ro} {vL vP : Value} (h : Rf w F R r vL vP) : w.cell? ⟨R, 2, none⟩ = some vL := h.cell 2
theorem Rf.c3 {w : World} {F : Nat → Prop} {R : Nat} {r : Ro} {vL vP : Value} (h : Rf w F R r vL vP) : w.cell? ⟨R, 3, none⟩ = some vP := h.cell 3
theorem Rf.fz {w : World} {F : Nat → Prop} {R : Nat} {r : Ro} {vL vP : Value} (h : Rf w F R r vL vP) (i : Nat) : w.frozen? ⟨R, i, none⟩ = false := frozen_of_row w R i _ _ h.bx
theorem own_same {w w' : World} {base sz n : Nat} {e : TypeId} {v : Value} {xs : List Value} (h : w.ownsRow base e sz v n xs) (hs : ∀ g, v.ownBlock = some g → w'.heap[g]? = w.heap[g]?) : w'.ownsRow base e sz v n xs := by
 refine ⟨h.1, ?_⟩
 rcases h.2 with h0 | ⟨g, cap, cur, rfl, hb, hc, r⟩
 ·exact .inl h0
 ·exact .inr ⟨g, cap, cur, rfl, hb, (hs g rfl).trans hc, r⟩
theorem Rf.same {w w' : World} {F : Nat → Prop} {R : Nat} {r : Ro} {vL vP : Value} (h : Rf w F R r vL vP) (hs : w.heap.size ≤ w'.heap.size) (e : ∀ i, F i → w'.heap[i]? = w.heap[i]?) : Rf w' F R r vL vP :=
 ⟨(e R h.fR).trans h.bx, own_same h.lr (fun g hg => e g (h.fL g hg)), own_same h.pr (fun g hg => e g (h.fP g hg)), h.fR, h.fL, h.fP, fun i hi => Nat.lt_of_lt_of_le (h.low i hi) hs⟩
theorem Rf.keptN {w w' : World} {F : Nat → Prop} {R : Nat} {r : Ro} {vL vP : Value} (h : Rf w F R r vL vP) (hg : w.grownBy w' none) : Rf w' F R r vL vP := h.same hg.size fun i hi => hg.block i (h.low i hi) (by simp)
theorem Rf.fr {w w' : World} {F G : Nat → Prop} {R : Nat} {r : Ro} {vL vP : Value} (h : Rf w F R r vL vP) (hf : Fr w w' G) (hd : ∀ i, F i → ¬ G i) : Rf w' F R r vL vP := h.same hf.size fun i hi => hf.block i (h.low i hi) (hd i hi)
def Rz (w : World) (F : Nat → Prop) (R : Nat) (r : Ro) : Prop := ∃ vL vP, Rf w F R r vL vP
theorem Rz.keptN {w w' : World} {F : Nat → Prop} {R : Nat} {r : Ro} (h : Rz w F R r) (hg : w.grownBy w' none) : Rz w' F R r := by
 obtain ⟨vL, vP, h⟩ := h
 exact ⟨vL, vP, h.keptN hg⟩
theorem Rz.fr {w w' : World} {F G : Nat → Prop} {R : Nat} {r : Ro} (h : Rz w F R r) (hf : Fr w w' G) (hd : ∀ i, F i → ¬ G i) : Rz w' F R r := by
 obtain ⟨vL, vP, h⟩ := h
 exact ⟨vL, vP, h.fr hf hd⟩
theorem Rz.low {w : World} {F : Nat → Prop} {R : Nat} {r : Ro} (h : Rz w F R r) : ∀ i, F i → i < w.heap.size := by
 obtain ⟨vL, vP, h⟩ := h
 exact h.low
end Go.Proofs.YtcfmkpgfeodhaaaGreatDoor
namespace Go.Proofs.YtcfmkpgfeodhaaaGreatDoor
open Go.RowKit Go.Maps
def Rb (w : World) (R : Nat) (c k : Int) (vL vP : Value) : Prop := w.heap[R]? = some (.cells #[.int .i64 c, .int .i64 k, vL, vP] 67 (0, 0))
theorem Rb.lt {w : World} {R : Nat} {c k : Int} {vL vP : Value} (h : Rb w R c k vL vP) : R < w.heap.size := (Array.getElem?_eq_some_iff.1 h).1
theorem Rb.cell {w : World} {R : Nat} {c k : Int} {vL vP : Value} (h : Rb w R c k vL vP) (i : Nat) : w.cell? ⟨R, i, none⟩ = (#[.int .i64 c, .int .i64 k, vL, vP] : Array Value)[i]? := cell_of_row w R i _ _ _ h
theorem Rb.c2 {w : World} {R : Nat} {c k : Int} {vL vP : Value} (h : Rb w R c k vL vP) : w.cell? ⟨R, 2, none⟩ = some vL := h.cell 2
theorem Rb.c3 {w : World} {R : Nat} {c k : Int} {vL vP : Value} (h : Rb w R c k vL vP) : w.cell? ⟨R, 3, none⟩ = some vP := h.cell 3
theorem Rb.fz {w : World} {R : Nat} {c k : Int} {vL vP : Value} (h : Rb w R c k vL vP) (i : Nat) : w.frozen? ⟨R, i, none⟩ = false := frozen_of_row w R i _ _ h
theorem Rb.keptN {w w' : World} {R : Nat} {c k : Int} {vL vP : Value} (h : Rb w R c k vL vP) (hg : w.grownBy w' none) : Rb w' R c k vL vP := (hg.block R h.lt (by simp)).trans h
theorem Rb.kept {w w' : World} {R : Nat} {c k : Int} {vL vP : Value} {row : Option Nat} (h : Rb w R c k vL vP) (hg : w.grownBy w' row) (hne : some R ≠ row) : Rb w' R c k vL vP := (hg.block R h.lt hne).trans h
theorem Rb.set0 {w : World} {R : Nat} {c k : Int} {vL vP : Value} (h : Rb w R c k vL vP) (x : Int) : Rb (w.setCell ⟨R, 0, none⟩ (.int .i64 x)) R x k vL vP := heap_setCell_same w R 0 _ _ _ h
set_option maxHeartbeats 1000000 in
set_option maxRecDepth 100000 in
theorem rnew_no (c k : Int) (a : Option Addr) (n cap : Nat) (g : List Int) (w : World) (hl : Nt w a g) (hn : g.length = n) (hm : n ≤ 9223372036854775806) (hk : newOk c k g = false) :
  Calls Tryz.prog 8 #[.int .i64 c, .int .i64 k, .slice a n cap] w fun e w' => e = .returned (.pointer none) ∧ w.grownBy w' none := by
 have HC := hid_intro (rises_any a n cap c g w hl hn hm)
 clear hl
 by_cases h1 : c < 2
 ·go_enter Tryz.func8, Tryz.ntmps8
  go_wp2
  go_ret
  exact ⟨rfl, World.grownBy.refl _ _⟩
 ·by_cases h2 : k < c
  ·go_enter Tryz.func8, Tryz.ntmps8
   go_wp2
   go_ret
   exact ⟨rfl, World.grownBy.refl _ _⟩
  ·by_cases h3 : 524287 < k
   ·go_enter Tryz.func8, Tryz.ntmps8
    go_wp2
    go_ret
    exact ⟨rfl, World.grownBy.refl _ _⟩
   ·have hr : rp 1 c g = false := by
     unfold newOk at hk
     simp only [show 2 ≤ c by omega, show c ≤ k by omega, show k ≤ 524287 by omega, decide_true, Bool.true_and] at hk
     exact hk
    rw [hr] at HC
    clear hr hk
    go_enter Tryz.func8, Tryz.ntmps8
    go_wp2_with (go_at_call 22; refine HC.out.mono ?_; rintro en w2 ⟨rfl, hq2⟩)
    go_ret
    exact ⟨rfl, hq2.grown none⟩
def usR (r : Ro) : List Int := (r.l.filter fun x => r.ps.all fun y => decide (x.2 ≤ y)).map (·.1)
def rmR (r : Ro) : Int := (usR r).length + r.k - r.c
end Go.Proofs.YtcfmkpgfeodhaaaGreatDoor
namespace Go.Proofs.YtcfmkpgfeodhaaaGreatDoor
open Go.RowKit Go.Maps
structure Pq (q : List (Int × Int)) (ps : List Int) : Prop where
 ris : Ris q
 cnt : ∀ v, getI q v = (ps.count v : Nat)
 pos : ∀ x ∈ q, 1 ≤ x.2
theorem Pq.has {q : List (Int × Int)} {ps : List Int} (h : Pq q ps) (v : Int) : v ∈ ps ↔ ∃ x ∈ q, x.1 = v := by
 constructor
 ·intro hv
  have h1 : 0 < ps.count v := List.count_pos_iff.2 hv
  have h2 := h.cnt v
  cases hh : hasI q v with
  | true => exact (hasI_iff q v).1 hh
  | false =>
   rw [getI_none hh] at h2
   omega
 ·rintro ⟨x, hx, rfl⟩
  have h1 := h.pos x hx
  have h2 := h.cnt x.1
  rw [getI_mem h.ris hx] at h2
  exact List.count_pos_iff.1 (by omega)
theorem Pq.nil : Pq [] [] := ⟨Ris.nil, fun v => by simp [getI], fun x hx => by simp at hx⟩
structure Ag (p : Po) (r : Ro) : Prop where
 c : r.c = p.c
 k : r.k = p.k
 l : r.l = p.l
 q : Pq p.q r.ps
theorem Ag.us {p : Po} {r : Ro} (h : Ag p r) : usR r = us p := by
 unfold usR Go.Proofs.YtcfmkpgfeodhaaaGreatDoor.us usb
 rw [h.l]
 congr 1
 apply List.filter_congr
 intro x _
 rw [Bool.eq_iff_iff, List.all_eq_true, List.all_eq_true]
 simp only [decide_eq_true_eq]
 constructor
 ·intro h1 y hy
  exact h1 y.1 ((h.q.has y.1).2 ⟨y, hy, rfl⟩)
 ·intro h1 v hv
  obtain ⟨y, hy, rfl⟩ := (h.q.has v).1 hv
  exact h1 y hy
theorem Ag.rm {p : Po} {r : Ro} (h : Ag p r) : rmR r = rm p := by
 unfold rmR Go.Proofs.YtcfmkpgfeodhaaaGreatDoor.rm
 rw [h.us, h.k, h.c]
theorem newP_okR {c k : Int} {fr : List Int} (h : newOk c k fr = true) : Ok (newP c k fr) := by
 simp only [newOk, Bool.and_eq_true, decide_eq_true_eq, rp_iff] at h
 obtain ⟨⟨⟨h1, h2⟩, h3⟩, h4, h5⟩ := h
 refine ⟨h1, h2, h3, fun x hx => ?_⟩
 obtain ⟨y, hy, rfl⟩ := List.mem_map.1 hx
 have := h5 y hy
 exact ⟨by show 2 ≤ y; omega, this.2⟩
end Go.Proofs.YtcfmkpgfeodhaaaGreatDoor
namespace Go.Proofs.YtcfmkpgfeodhaaaGreatDoor
open Go.RowKit Go.Maps
structure Ow7 (w0 w : World) (g cap : Nat) : Prop where
 row : ∃ cur, w.heap[g]? = some (.cells cur 3 (0, 0)) ∧ cur.size = cap
 fr : Fr w0 w (fun j => j = g)
theorem Ow7.cell {w0 w : World} {g cap : Nat} (h : Ow7 w0 w g cap) {i : Nat} (hi : i < cap) : (∃ v, w.cell? ⟨g, i, none⟩ = some v) ∧ w.frozen? ⟨g, i, none⟩ = false := by
 obtain ⟨cur, hc, hs⟩ := h.row
 refine ⟨⟨cur[i]'(by omega), ?_⟩, frozen_of_row w g i _ _ hc⟩
 rw [cell_of_row w g i _ _ _ hc]
 simp [Array.getElem?_eq_getElem (show i < cur.size by omega)]
theorem Ow7.put {w0 w : World} {g cap : Nat} (h : Ow7 w0 w g cap) (i : Nat) (v : Value) : Ow7 w0 (w.setCell ⟨g, i, none⟩ v) g cap := by
 obtain ⟨cur, hc, hs⟩ := h.row
 exact ⟨⟨_, heap_setCell_same w g i _ _ v hc, by simp [hs]⟩, h.fr.trans (Fr.of (grown_cellP w g i v) (fun j e => .inr (Option.some.inj e).symm))⟩
end Go.Proofs.YtcfmkpgfeodhaaaGreatDoor
