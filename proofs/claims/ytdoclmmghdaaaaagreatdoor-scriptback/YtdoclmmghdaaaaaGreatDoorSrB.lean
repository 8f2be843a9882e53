import Derived.Test.YtdoclmmghdaaaaaGreatDoorSrA
namespace Go.Proofs.YtdoclmmghdaaaaaGreatDoor
open Go.RowKit

/-! Print, pure. -/
def wrd (k : Int) : List UInt8 := if 0 ≤ k ∧ k < 23 then (stT.getD k.toNat ([], [])).1 else []
def fds (k : Int) : List UInt8 := (stT.getD k.toNat ([], [])).2
def isz (o : Opq) (c : UInt8) : Bool :=
  if c = 65 then decide (o.a = 0) else if c = 66 then decide (o.b = 0) else if c = 67 then decide (o.c = 0)
  else if c = 75 then decide (o.key.length = 0) else if c = 86 then decide (o.val.length = 0) else if c = 72 then decide (o.hi.length = 0) else decide (o.f.length = 0)
def nvl (o : Opq) (c : UInt8) : Option Int := if c = 65 then some o.a else if c = 66 then some o.b else if c = 67 then some o.c else none
def bvl (o : Opq) (c : UInt8) : Option (List Int) := if c = 75 then some o.key else if c = 86 then some o.val else if c = 72 then some o.hi else none
def jdF (p : Int × Int) : Int := if p.1 = 0 ∨ p.1 = 1 then (if p.2 = 0 then 0 else 244) else if p.1 = 2 then (if smn p.2 = true then 0 else 232) else 231
def jd1 (o : Opq) (fs : List UInt8) : List UInt8 → Int
  | [] => 0
  | c :: cs => if fs.contains c = false ∧ isz o c = false then 244 else jd1 o fs cs
def jd2 (o : Opq) : List UInt8 → Int
  | [] => 0
  | c :: cs => match nvl o c with
    | some n => if smn n = true then jd2 o cs else 232
    | none => jd2 o cs
def jd3 : List (Int × Int) → Int
  | [] => 0
  | p :: ps => if jdF p = 0 then jd3 ps else jdF p
def ltr : List UInt8 := [65, 66, 67, 75, 86, 72, 70]
/-- The fault of a step. -/
def jdS (o : Opq) : Int := if wrd o.k = [] then 231 else if jd1 o (fds o.k) ltr ≠ 0 then 244 else if jd2 o (fds o.k) ≠ 0 then 232 else jd3 o.f
def jdA : List Opq → Int
  | [] => 0
  | o :: l => if jdS o = 0 then jdA l else jdS o
/-- The fault of a script. -/
def jdg23 (n : Int) (l : List Opq) : Int := if smn n = true then (if 2000 < l.length then 234 else jdA l) else 232
/-- Fates in memory. -/
def FtR (w : World) (ao : Option Addr) (l : List (Int × Int)) : Prop := ∀ i p, l[i]? = some p → ∃ g off, ao = some ⟨g, off, none⟩ ∧ w.cell? ⟨g, off + i * 2, none⟩ = some (.int .i64 p.1) ∧ w.cell? ⟨g, off + i * 2 + 1, none⟩ = some (.int .i64 p.2)
/-- A step's value, read. -/
structure OpR (w : World) (o : Opq) (ka : Option Addr) (kc : Nat) (va : Option Addr) (vc : Nat) (ha : Option Addr) (hc : Nat) (fa : Option Addr) (fc : Nat) : Prop where
  key : Byt w ka o.key.length kc o.key
  val : Byt w va o.val.length vc o.val
  hi : Byt w ha o.hi.length hc o.hi
  f : FtR w fa o.f
  bk : Bt o.key
  bv : Bt o.val
  bh : Bt o.hi
theorem FtR.keptN {w w' : World} {ao : Option Addr} {l : List (Int × Int)} (h : FtR w ao l) (hg : w.grownBy w' none) : FtR w' ao l := fun i p hp => by
  obtain ⟨g, off, e, h1, h2⟩ := h i p hp
  exact ⟨g, off, e, cell_keptS h1 hg, cell_keptS h2 hg⟩
theorem OpR.keptN {w w' : World} {o : Opq} {ka : Option Addr} {kc : Nat} {va : Option Addr} {vc : Nat} {ha : Option Addr} {hc : Nat} {fa : Option Addr} {fc : Nat} (h : OpR w o ka kc va vc ha hc fa fc) (hg : w.grownBy w' none) : OpR w' o ka kc va vc ha hc fa fc :=
  ⟨h.key.keptN hg, h.val.keptN hg, h.hi.keptN hg, h.f.keptN hg, h.bk, h.bv, h.bh⟩

set_option maxHeartbeats 1000000 in
set_option maxRecDepth 100000 in
theorem word_any (k : Int) (w : World) (hL : Sts w) : Calls Tryz.prog 15 #[.int .i64 k] w fun en w' => en = .returned (.string (tstr (wrd k))) ∧ w' = w := by
  unfold wrd
  by_cases h0 : k < 0
  · rw [if_neg (by omega)]
    go_enter Tryz.func15, Tryz.ntmps15
    go_wp2
    go_ret
    exact ⟨rfl, rfl⟩
  · by_cases h1 : 23 ≤ k
    · rw [if_neg (by omega)]
      go_enter Tryz.func15, Tryz.ntmps15
      go_wp2
      go_ret
      exact ⟨rfl, rfl⟩
    · rw [if_pos (by omega)]
      obtain ⟨i, rfl⟩ : ∃ i : Nat, k = i := ⟨k.toNat, by omega⟩
      obtain ⟨p, hp⟩ : ∃ p, stT[i]? = some p := ⟨_, List.getElem?_eq_getElem (l := stT) (i := i) (by rw [stT_len]; omega)⟩
      have c0 := (hL i p hp).1
      have e : (stT.getD ((i : Int)).toNat ([], [])).1 = p.1 := by rw [List.getD_eq_getElem?_getD, Int.toNat_natCast, hp]; rfl
      rw [e]
      clear hL hp e
      generalize tstr p.1 = s at *
      go_enter Tryz.func15, Tryz.ntmps15
      go_wp2
      go_ret
      exact ⟨rfl, rfl⟩
set_option maxHeartbeats 2000000 in
set_option maxRecDepth 100000 in
theorem isZero_a (o : Opq) (ka : Option Addr) (kc : Nat) (va : Option Addr) (vc : Nat) (ha : Option Addr) (hc : Nat) (fa : Option Addr) (fc : Nat) (w : World) : Calls Tryz.prog 71 #[.agg #[.int .i64 o.k, .int .i64 o.a, .int .i64 o.b, .int .i64 o.c, .slice ka o.key.length kc, .slice va o.val.length vc, .slice ha o.hi.length hc, .slice fa o.f.length fc], .int .i32 65] w fun en w' => en = .returned (.bool (isz o 65)) ∧ w.grownBy w' none := by
  have xb := heap_at0S w #[.int .i64 o.k, .int .i64 o.a, .int .i64 o.b, .int .i64 o.c, .slice ka o.key.length kc, .slice va o.val.length vc, .slice ha o.hi.length hc, .slice fa o.f.length fc] 49
  have dx := cell_heapS (i := 1) xb rfl
  have HN : Hid (∀ W, Calls Tryz.prog 49 #[.pointer (some ⟨w.heap.size, 0, none⟩), .int .i32 65] W fun en w' => en = .returned (.pointer (some ⟨w.heap.size, 1, none⟩)) ∧ w' = W) := fun W => numberAt_any w.heap.size 65 W
  have HB : Hid (∀ W, Calls Tryz.prog 50 #[.pointer (some ⟨w.heap.size, 0, none⟩), .int .i32 65] W fun en w' => en = .returned (.pointer (none)) ∧ w' = W) := fun W => bytesAt_any w.heap.size 65 W
  have HZ : Hid (isz o 65 = decide (o.a = 0)) := rfl
  have G1 := hid_intro (World.grownBy_alloc w (.cells #[.int .i64 o.k, .int .i64 o.a, .int .i64 o.b, .int .i64 o.c, .slice ka o.key.length kc, .slice va o.val.length vc, .slice ha o.hi.length hc, .slice fa o.f.length fc] 49) none)
  generalize isz o 65 = z at *
  clear xb
  go_enter Tryz.func71, Tryz.ntmps71
  go_wp2_with fail
  refine (HN.out _).mono ?_
  rintro en w2 ⟨rfl, rfl⟩
  go_wp2
  go_ret
  refine ⟨?_, G1.out⟩
  rw [HZ.out]
  rfl
set_option maxHeartbeats 2000000 in
set_option maxRecDepth 100000 in
theorem isZero_b (o : Opq) (ka : Option Addr) (kc : Nat) (va : Option Addr) (vc : Nat) (ha : Option Addr) (hc : Nat) (fa : Option Addr) (fc : Nat) (w : World) : Calls Tryz.prog 71 #[.agg #[.int .i64 o.k, .int .i64 o.a, .int .i64 o.b, .int .i64 o.c, .slice ka o.key.length kc, .slice va o.val.length vc, .slice ha o.hi.length hc, .slice fa o.f.length fc], .int .i32 66] w fun en w' => en = .returned (.bool (isz o 66)) ∧ w.grownBy w' none := by
  have xb := heap_at0S w #[.int .i64 o.k, .int .i64 o.a, .int .i64 o.b, .int .i64 o.c, .slice ka o.key.length kc, .slice va o.val.length vc, .slice ha o.hi.length hc, .slice fa o.f.length fc] 49
  have dx := cell_heapS (i := 2) xb rfl
  have HN : Hid (∀ W, Calls Tryz.prog 49 #[.pointer (some ⟨w.heap.size, 0, none⟩), .int .i32 66] W fun en w' => en = .returned (.pointer (some ⟨w.heap.size, 2, none⟩)) ∧ w' = W) := fun W => numberAt_any w.heap.size 66 W
  have HB : Hid (∀ W, Calls Tryz.prog 50 #[.pointer (some ⟨w.heap.size, 0, none⟩), .int .i32 66] W fun en w' => en = .returned (.pointer (none)) ∧ w' = W) := fun W => bytesAt_any w.heap.size 66 W
  have HZ : Hid (isz o 66 = decide (o.b = 0)) := rfl
  have G1 := hid_intro (World.grownBy_alloc w (.cells #[.int .i64 o.k, .int .i64 o.a, .int .i64 o.b, .int .i64 o.c, .slice ka o.key.length kc, .slice va o.val.length vc, .slice ha o.hi.length hc, .slice fa o.f.length fc] 49) none)
  generalize isz o 66 = z at *
  clear xb
  go_enter Tryz.func71, Tryz.ntmps71
  go_wp2_with fail
  refine (HN.out _).mono ?_
  rintro en w2 ⟨rfl, rfl⟩
  go_wp2
  go_ret
  refine ⟨?_, G1.out⟩
  rw [HZ.out]
  rfl
set_option maxHeartbeats 2000000 in
set_option maxRecDepth 100000 in
theorem isZero_c (o : Opq) (ka : Option Addr) (kc : Nat) (va : Option Addr) (vc : Nat) (ha : Option Addr) (hc : Nat) (fa : Option Addr) (fc : Nat) (w : World) : Calls Tryz.prog 71 #[.agg #[.int .i64 o.k, .int .i64 o.a, .int .i64 o.b, .int .i64 o.c, .slice ka o.key.length kc, .slice va o.val.length vc, .slice ha o.hi.length hc, .slice fa o.f.length fc], .int .i32 67] w fun en w' => en = .returned (.bool (isz o 67)) ∧ w.grownBy w' none := by
  have xb := heap_at0S w #[.int .i64 o.k, .int .i64 o.a, .int .i64 o.b, .int .i64 o.c, .slice ka o.key.length kc, .slice va o.val.length vc, .slice ha o.hi.length hc, .slice fa o.f.length fc] 49
  have dx := cell_heapS (i := 3) xb rfl
  have HN : Hid (∀ W, Calls Tryz.prog 49 #[.pointer (some ⟨w.heap.size, 0, none⟩), .int .i32 67] W fun en w' => en = .returned (.pointer (some ⟨w.heap.size, 3, none⟩)) ∧ w' = W) := fun W => numberAt_any w.heap.size 67 W
  have HB : Hid (∀ W, Calls Tryz.prog 50 #[.pointer (some ⟨w.heap.size, 0, none⟩), .int .i32 67] W fun en w' => en = .returned (.pointer (none)) ∧ w' = W) := fun W => bytesAt_any w.heap.size 67 W
  have HZ : Hid (isz o 67 = decide (o.c = 0)) := rfl
  have G1 := hid_intro (World.grownBy_alloc w (.cells #[.int .i64 o.k, .int .i64 o.a, .int .i64 o.b, .int .i64 o.c, .slice ka o.key.length kc, .slice va o.val.length vc, .slice ha o.hi.length hc, .slice fa o.f.length fc] 49) none)
  generalize isz o 67 = z at *
  clear xb
  go_enter Tryz.func71, Tryz.ntmps71
  go_wp2_with fail
  refine (HN.out _).mono ?_
  rintro en w2 ⟨rfl, rfl⟩
  go_wp2
  go_ret
  refine ⟨?_, G1.out⟩
  rw [HZ.out]
  rfl
set_option maxHeartbeats 2000000 in
set_option maxRecDepth 100000 in
theorem isZero_key (o : Opq) (ka : Option Addr) (kc : Nat) (va : Option Addr) (vc : Nat) (ha : Option Addr) (hc : Nat) (fa : Option Addr) (fc : Nat) (w : World) : Calls Tryz.prog 71 #[.agg #[.int .i64 o.k, .int .i64 o.a, .int .i64 o.b, .int .i64 o.c, .slice ka o.key.length kc, .slice va o.val.length vc, .slice ha o.hi.length hc, .slice fa o.f.length fc], .int .i32 75] w fun en w' => en = .returned (.bool (isz o 75)) ∧ w.grownBy w' none := by
  have xb := heap_at0S w #[.int .i64 o.k, .int .i64 o.a, .int .i64 o.b, .int .i64 o.c, .slice ka o.key.length kc, .slice va o.val.length vc, .slice ha o.hi.length hc, .slice fa o.f.length fc] 49
  have dx := cell_heapS (i := 4) xb rfl
  have HN : Hid (∀ W, Calls Tryz.prog 49 #[.pointer (some ⟨w.heap.size, 0, none⟩), .int .i32 75] W fun en w' => en = .returned (.pointer (none)) ∧ w' = W) := fun W => numberAt_any w.heap.size 75 W
  have HB : Hid (∀ W, Calls Tryz.prog 50 #[.pointer (some ⟨w.heap.size, 0, none⟩), .int .i32 75] W fun en w' => en = .returned (.pointer (some ⟨w.heap.size, 4, none⟩)) ∧ w' = W) := fun W => bytesAt_any w.heap.size 75 W
  have HZ : Hid (isz o 75 = decide (o.key.length = 0)) := rfl
  have G1 := hid_intro (World.grownBy_alloc w (.cells #[.int .i64 o.k, .int .i64 o.a, .int .i64 o.b, .int .i64 o.c, .slice ka o.key.length kc, .slice va o.val.length vc, .slice ha o.hi.length hc, .slice fa o.f.length fc] 49) none)
  generalize isz o 75 = z at *
  clear xb
  go_enter Tryz.func71, Tryz.ntmps71
  go_wp2_with fail
  refine (HN.out _).mono ?_
  rintro en w2 ⟨rfl, rfl⟩
  go_wp2_with fail
  refine (HB.out _).mono ?_
  rintro en w3 ⟨rfl, rfl⟩
  go_wp2
  go_ret
  refine ⟨?_, G1.out⟩
  rw [HZ.out]
  show Ending.returned (.bool (((o.key.length : Nat) : Int) == 0)) = _; congr 2; apply Bool.eq_iff_iff.2; simp
set_option maxHeartbeats 2000000 in
set_option maxRecDepth 100000 in
theorem isZero_val (o : Opq) (ka : Option Addr) (kc : Nat) (va : Option Addr) (vc : Nat) (ha : Option Addr) (hc : Nat) (fa : Option Addr) (fc : Nat) (w : World) : Calls Tryz.prog 71 #[.agg #[.int .i64 o.k, .int .i64 o.a, .int .i64 o.b, .int .i64 o.c, .slice ka o.key.length kc, .slice va o.val.length vc, .slice ha o.hi.length hc, .slice fa o.f.length fc], .int .i32 86] w fun en w' => en = .returned (.bool (isz o 86)) ∧ w.grownBy w' none := by
  have xb := heap_at0S w #[.int .i64 o.k, .int .i64 o.a, .int .i64 o.b, .int .i64 o.c, .slice ka o.key.length kc, .slice va o.val.length vc, .slice ha o.hi.length hc, .slice fa o.f.length fc] 49
  have dx := cell_heapS (i := 5) xb rfl
  have HN : Hid (∀ W, Calls Tryz.prog 49 #[.pointer (some ⟨w.heap.size, 0, none⟩), .int .i32 86] W fun en w' => en = .returned (.pointer (none)) ∧ w' = W) := fun W => numberAt_any w.heap.size 86 W
  have HB : Hid (∀ W, Calls Tryz.prog 50 #[.pointer (some ⟨w.heap.size, 0, none⟩), .int .i32 86] W fun en w' => en = .returned (.pointer (some ⟨w.heap.size, 5, none⟩)) ∧ w' = W) := fun W => bytesAt_any w.heap.size 86 W
  have HZ : Hid (isz o 86 = decide (o.val.length = 0)) := rfl
  have G1 := hid_intro (World.grownBy_alloc w (.cells #[.int .i64 o.k, .int .i64 o.a, .int .i64 o.b, .int .i64 o.c, .slice ka o.key.length kc, .slice va o.val.length vc, .slice ha o.hi.length hc, .slice fa o.f.length fc] 49) none)
  generalize isz o 86 = z at *
  clear xb
  go_enter Tryz.func71, Tryz.ntmps71
  go_wp2_with fail
  refine (HN.out _).mono ?_
  rintro en w2 ⟨rfl, rfl⟩
  go_wp2_with fail
  refine (HB.out _).mono ?_
  rintro en w3 ⟨rfl, rfl⟩
  go_wp2
  go_ret
  refine ⟨?_, G1.out⟩
  rw [HZ.out]
  show Ending.returned (.bool (((o.val.length : Nat) : Int) == 0)) = _; congr 2; apply Bool.eq_iff_iff.2; simp
set_option maxHeartbeats 2000000 in
set_option maxRecDepth 100000 in
theorem isZero_hi (o : Opq) (ka : Option Addr) (kc : Nat) (va : Option Addr) (vc : Nat) (ha : Option Addr) (hc : Nat) (fa : Option Addr) (fc : Nat) (w : World) : Calls Tryz.prog 71 #[.agg #[.int .i64 o.k, .int .i64 o.a, .int .i64 o.b, .int .i64 o.c, .slice ka o.key.length kc, .slice va o.val.length vc, .slice ha o.hi.length hc, .slice fa o.f.length fc], .int .i32 72] w fun en w' => en = .returned (.bool (isz o 72)) ∧ w.grownBy w' none := by
  have xb := heap_at0S w #[.int .i64 o.k, .int .i64 o.a, .int .i64 o.b, .int .i64 o.c, .slice ka o.key.length kc, .slice va o.val.length vc, .slice ha o.hi.length hc, .slice fa o.f.length fc] 49
  have dx := cell_heapS (i := 6) xb rfl
  have HN : Hid (∀ W, Calls Tryz.prog 49 #[.pointer (some ⟨w.heap.size, 0, none⟩), .int .i32 72] W fun en w' => en = .returned (.pointer (none)) ∧ w' = W) := fun W => numberAt_any w.heap.size 72 W
  have HB : Hid (∀ W, Calls Tryz.prog 50 #[.pointer (some ⟨w.heap.size, 0, none⟩), .int .i32 72] W fun en w' => en = .returned (.pointer (some ⟨w.heap.size, 6, none⟩)) ∧ w' = W) := fun W => bytesAt_any w.heap.size 72 W
  have HZ : Hid (isz o 72 = decide (o.hi.length = 0)) := rfl
  have G1 := hid_intro (World.grownBy_alloc w (.cells #[.int .i64 o.k, .int .i64 o.a, .int .i64 o.b, .int .i64 o.c, .slice ka o.key.length kc, .slice va o.val.length vc, .slice ha o.hi.length hc, .slice fa o.f.length fc] 49) none)
  generalize isz o 72 = z at *
  clear xb
  go_enter Tryz.func71, Tryz.ntmps71
  go_wp2_with fail
  refine (HN.out _).mono ?_
  rintro en w2 ⟨rfl, rfl⟩
  go_wp2_with fail
  refine (HB.out _).mono ?_
  rintro en w3 ⟨rfl, rfl⟩
  go_wp2
  go_ret
  refine ⟨?_, G1.out⟩
  rw [HZ.out]
  show Ending.returned (.bool (((o.hi.length : Nat) : Int) == 0)) = _; congr 2; apply Bool.eq_iff_iff.2; simp
set_option maxHeartbeats 2000000 in
set_option maxRecDepth 100000 in
theorem isZero_f (o : Opq) (ka : Option Addr) (kc : Nat) (va : Option Addr) (vc : Nat) (ha : Option Addr) (hc : Nat) (fa : Option Addr) (fc : Nat) (w : World) : Calls Tryz.prog 71 #[.agg #[.int .i64 o.k, .int .i64 o.a, .int .i64 o.b, .int .i64 o.c, .slice ka o.key.length kc, .slice va o.val.length vc, .slice ha o.hi.length hc, .slice fa o.f.length fc], .int .i32 70] w fun en w' => en = .returned (.bool (isz o 70)) ∧ w.grownBy w' none := by
  have xb := heap_at0S w #[.int .i64 o.k, .int .i64 o.a, .int .i64 o.b, .int .i64 o.c, .slice ka o.key.length kc, .slice va o.val.length vc, .slice ha o.hi.length hc, .slice fa o.f.length fc] 49
  have dx := cell_heapS (i := 7) xb rfl
  have HN : Hid (∀ W, Calls Tryz.prog 49 #[.pointer (some ⟨w.heap.size, 0, none⟩), .int .i32 70] W fun en w' => en = .returned (.pointer (none)) ∧ w' = W) := fun W => numberAt_any w.heap.size 70 W
  have HB : Hid (∀ W, Calls Tryz.prog 50 #[.pointer (some ⟨w.heap.size, 0, none⟩), .int .i32 70] W fun en w' => en = .returned (.pointer (none)) ∧ w' = W) := fun W => bytesAt_any w.heap.size 70 W
  have HZ : Hid (isz o 70 = decide (o.f.length = 0)) := rfl
  have G1 := hid_intro (World.grownBy_alloc w (.cells #[.int .i64 o.k, .int .i64 o.a, .int .i64 o.b, .int .i64 o.c, .slice ka o.key.length kc, .slice va o.val.length vc, .slice ha o.hi.length hc, .slice fa o.f.length fc] 49) none)
  generalize isz o 70 = z at *
  clear xb
  go_enter Tryz.func71, Tryz.ntmps71
  go_wp2_with fail
  refine (HN.out _).mono ?_
  rintro en w2 ⟨rfl, rfl⟩
  go_wp2_with fail
  refine (HB.out _).mono ?_
  rintro en w3 ⟨rfl, rfl⟩
  go_wp2
  go_ret
  refine ⟨?_, G1.out⟩
  rw [HZ.out]
  show Ending.returned (.bool (((o.f.length : Nat) : Int) == 0)) = _; congr 2; apply Bool.eq_iff_iff.2; simp
theorem isZero_any (x : UInt8) (hx : x ∈ ltr) (o : Opq) (ka : Option Addr) (kc : Nat) (va : Option Addr) (vc : Nat) (ha : Option Addr) (hc : Nat) (fa : Option Addr) (fc : Nat) (w : World) : Calls Tryz.prog 71 #[.agg #[.int .i64 o.k, .int .i64 o.a, .int .i64 o.b, .int .i64 o.c, .slice ka o.key.length kc, .slice va o.val.length vc, .slice ha o.hi.length hc, .slice fa o.f.length fc], .int .i32 (x.toNat : Nat)] w fun en w' => en = .returned (.bool (isz o x)) ∧ w.grownBy w' none := by
  simp only [ltr, List.mem_cons, List.not_mem_nil, or_false] at hx
  rcases hx with rfl | rfl | rfl | rfl | rfl | rfl | rfl
  · exact isZero_a o ka kc va vc ha hc fa fc w
  · exact isZero_b o ka kc va vc ha hc fa fc w
  · exact isZero_c o ka kc va vc ha hc fa fc w
  · exact isZero_key o ka kc va vc ha hc fa fc w
  · exact isZero_val o ka kc va vc ha hc fa fc w
  · exact isZero_hi o ka kc va vc ha hc fa fc w
  · exact isZero_f o ka kc va vc ha hc fa fc w
set_option maxHeartbeats 1000000 in
set_option maxRecDepth 100000 in
theorem judgeFate_any (a b : Int) (w : World) : Calls Tryz.prog 72 #[.agg #[.int .i64 a, .int .i64 b]] w fun en w' => en = .returned (.int .i64 (jdF (a, b))) ∧ w.grownBy w' none := by
  have G1 := hid_intro (World.grownBy_alloc w (.cells #[.int .i64 a, .int .i64 b] 51) none)
  have HN := hid_intro (fun W => isNumber_any b W)
  unfold jdF
  by_cases h0 : a = 0
  · subst h0
    rw [if_pos (.inl rfl)]
    by_cases hb : b = 0
    · subst hb
      rw [if_pos rfl]
      go_enter Tryz.func72, Tryz.ntmps72
      go_wp2
      go_ret
      exact ⟨rfl, G1.out⟩
    · have gb : (b == 0) = false := by rw [beq_eq_false_iff_ne]; exact hb
      rw [if_neg hb]
      go_enter Tryz.func72, Tryz.ntmps72
      go_wp2
      go_ret
      exact ⟨rfl, G1.out⟩
  · have g0 : (a == 0) = false := by rw [beq_eq_false_iff_ne]; exact h0
    by_cases h1 : a = 1
    · subst h1
      rw [if_pos (.inr rfl)]
      by_cases hb : b = 0
      · subst hb
        rw [if_pos rfl]
        go_enter Tryz.func72, Tryz.ntmps72
        go_wp2
        go_ret
        exact ⟨rfl, G1.out⟩
      · have gb : (b == 0) = false := by rw [beq_eq_false_iff_ne]; exact hb
        rw [if_neg hb]
        go_enter Tryz.func72, Tryz.ntmps72
        go_wp2
        go_ret
        exact ⟨rfl, G1.out⟩
    · have g1 : (a == 1) = false := by rw [beq_eq_false_iff_ne]; exact h1
      rw [if_neg (by simp only; omega)]
      by_cases h2 : a = 2
      · subst h2
        rw [if_pos rfl]
        cases hs : smn b with
        | true =>
          rw [if_pos rfl]
          rw [hs] at HN
          go_enter Tryz.func72, Tryz.ntmps72
          go_wp2_with fail
          refine (HN.out _).mono ?_
          rintro en w2 ⟨rfl, rfl⟩
          go_wp2
          go_ret
          exact ⟨rfl, G1.out⟩
        | false =>
          rw [if_neg (by simp)]
          rw [hs] at HN
          go_enter Tryz.func72, Tryz.ntmps72
          go_wp2_with fail
          refine (HN.out _).mono ?_
          rintro en w2 ⟨rfl, rfl⟩
          go_wp2
          go_ret
          exact ⟨rfl, G1.out⟩
      · have g2 : (a == 2) = false := by rw [beq_eq_false_iff_ne]; exact h2
        rw [if_neg h2]
        go_enter Tryz.func72, Tryz.ntmps72
        go_wp2
        go_ret
        exact ⟨rfl, G1.out⟩
end Go.Proofs.YtdoclmmghdaaaaaGreatDoor
