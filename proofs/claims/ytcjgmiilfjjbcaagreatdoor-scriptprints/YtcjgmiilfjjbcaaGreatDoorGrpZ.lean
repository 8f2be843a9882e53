import Derived.Test.YtcjgmiilfjjbcaaGreatDoorSrA
namespace Go.Proofs.YtcjgmiilfjjbcaaGreatDoor
open Go.RowKit

/-! Print, pure. -/
def wrd (k : Int) : List UInt8 := if 0 ≤ k ∧ k < 23 then (stT.getD k.toNat ([], [])).1 else []
def fds (k : Int) : List UInt8 := (stT.getD k.toNat ([], [])).2
def isz (o : Opq) (c : UInt8) : Bool :=
  if c = 65 then decide (o.a = 0) else if c = 66 then decide (o.b = 0) else if c = 67 then decide (o.c = 0)
  else if c = 75 then decide (o.key.length = 0) else if c = 86 then decide (o.val.length = 0) else if c = 72 then decide (o.hi.length = 0) else decide (o.f.length = 0)
def nvl (o : Opq) (c : UInt8) : Option Int := if c = 65 then some o.a else if c = 66 then some o.b else if c = 67 then some o.c else none
def bvl (o : Opq) (c : UInt8) : Option (List Int) := if c = 75 then some o.key else if c = 86 then some o.val else if c = 72 then some o.hi else none
def jdF (p : Int × Int) : Int := if p.1 = 0 ∨ p.1 = 1 then (if p.2 = 0 then 0 else 244) else if p.1 = 2 then (if smn p.2 = true then 0 else 232) else 231
def jd1 (o : Opq) (fs : List UInt8) : List UInt8 → Int
  | [] => 0
  | c :: cs => if fs.contains c = false ∧ isz o c = false then 244 else jd1 o fs cs
def jd2 (o : Opq) : List UInt8 → Int
  | [] => 0
  | c :: cs => match nvl o c with
    | some n => if smn n = true then jd2 o cs else 232
    | none => jd2 o cs
def jd3 : List (Int × Int) → Int
  | [] => 0
  | p :: ps => if jdF p = 0 then jd3 ps else jdF p
def ltr : List UInt8 := [65, 66, 67, 75, 86, 72, 70]
/-- The fault of a step. -/
def jdS (o : Opq) : Int := if wrd o.k = [] then 231 else if jd1 o (fds o.k) ltr ≠ 0 then 244 else if jd2 o (fds o.k) ≠ 0 then 232 else jd3 o.f
def jdA : List Opq → Int
  | [] => 0
  | o :: l => if jdS o = 0 then jdA l else jdS o
/-- The fault of a script. -/
def jdg23 (n : Int) (l : List Opq) : Int := if smn n = true then (if 2000 < l.length then 234 else jdA l) else 232
/-- Fates in memory. -/
def FtR (w : World) (ao : Option Addr) (l : List (Int × Int)) : Prop := ∀ i p, l[i]? = some p → ∃ g off, ao = some ⟨g, off, none⟩ ∧ w.cell? ⟨g, off + i * 2, none⟩ = some (.int .i64 p.1) ∧ w.cell? ⟨g, off + i * 2 + 1, none⟩ = some (.int .i64 p.2)
/-- A step's value, read. -/
structure OpR (w : World) (o : Opq) (ka : Option Addr) (kc : Nat) (va : Option Addr) (vc : Nat) (ha : Option Addr) (hc : Nat) (fa : Option Addr) (fc : Nat) : Prop where
  key : Byt w ka o.key.length kc o.key
  val : Byt w va o.val.length vc o.val
  hi : Byt w ha o.hi.length hc o.hi
  f : FtR w fa o.f
  bk : Bt o.key
  bv : Bt o.val
  bh : Bt o.hi
theorem FtR.keptN {w w' : World} {ao : Option Addr} {l : List (Int × Int)} (h : FtR w ao l) (hg : w.grownBy w' none) : FtR w' ao l := fun i p hp => by
  obtain ⟨g, off, e, h1, h2⟩ := h i p hp
  exact ⟨g, off, e, cell_keptS h1 hg, cell_keptS h2 hg⟩
theorem OpR.keptN {w w' : World} {o : Opq} {ka : Option Addr} {kc : Nat} {va : Option Addr} {vc : Nat} {ha : Option Addr} {hc : Nat} {fa : Option Addr} {fc : Nat} (h : OpR w o ka kc va vc ha hc fa fc) (hg : w.grownBy w' none) : OpR w' o ka kc va vc ha hc fa fc :=
  ⟨h.key.keptN hg, h.val.keptN hg, h.hi.keptN hg, h.f.keptN hg, h.bk, h.bv, h.bh⟩

set_option maxHeartbeats 1000000 in
set_option maxRecDepth 100000 in
theorem word_any (k : Int) (w : World) (hL : Sts w) : Calls Tryz.prog 14 #[.int .i64 k] w fun en w' => en = .returned (.string (tstr (wrd k))) ∧ w' = w := by
  unfold wrd
  by_cases h0 : k < 0
  · rw [if_neg (by omega)]
    go_enter Tryz.func14, Tryz.ntmps14
    go_wp2
    go_ret
    exact ⟨rfl, rfl⟩
  · by_cases h1 : 23 ≤ k
    · rw [if_neg (by omega)]
      go_enter Tryz.func14, Tryz.ntmps14
      go_wp2
      go_ret
      exact ⟨rfl, rfl⟩
    · rw [if_pos (by omega)]
      obtain ⟨i, rfl⟩ : ∃ i : Nat, k = i := ⟨k.toNat, by omega⟩
      obtain ⟨p, hp⟩ : ∃ p, stT[i]? = some p := ⟨_, List.getElem?_eq_getElem (l := stT) (i := i) (by rw [stT_len]; omega)⟩
      have c0 := (hL i p hp).1
      have e : (stT.getD ((i : Int)).toNat ([], [])).1 = p.1 := by rw [List.getD_eq_getElem?_getD, Int.toNat_natCast, hp]; rfl
      rw [e]
      clear hL hp e
      generalize tstr p.1 = s at *
      go_enter Tryz.func14, Tryz.ntmps14
      go_wp2
      go_ret
      exact ⟨rfl, rfl⟩
set_option maxHeartbeats 2000000 in
set_option maxRecDepth 100000 in
theorem isZero_a (o : Opq) (ka : Option Addr) (kc : Nat) (va : Option Addr) (vc : Nat) (ha : Option Addr) (hc : Nat) (fa : Option Addr) (fc : Nat) (w : World) : Calls Tryz.prog 58 #[.agg #[.int .i64 o.k, .int .i64 o.a, .int .i64 o.b, .int .i64 o.c, .slice ka o.key.length kc, .slice va o.val.length vc, .slice ha o.hi.length hc, .slice fa o.f.length fc], .int .i32 65] w fun en w' => en = .returned (.bool (isz o 65)) ∧ w.grownBy w' none := by
  have xb := heap_at0S w #[.int .i64 o.k, .int .i64 o.a, .int .i64 o.b, .int .i64 o.c, .slice ka o.key.length kc, .slice va o.val.length vc, .slice ha o.hi.length hc, .slice fa o.f.length fc] 35
  have dx := cell_heapS (i := 1) xb rfl
  have HN : Hid (∀ W, Calls Tryz.prog 42 #[.pointer (some ⟨w.heap.size, 0, none⟩), .int .i32 65] W fun en w' => en = .returned (.pointer (some ⟨w.heap.size, 1, none⟩)) ∧ w' = W) := fun W => numberAt_any w.heap.size 65 W
  have HB : Hid (∀ W, Calls Tryz.prog 43 #[.pointer (some ⟨w.heap.size, 0, none⟩), .int .i32 65] W fun en w' => en = .returned (.pointer (none)) ∧ w' = W) := fun W => bytesAt_any w.heap.size 65 W
  have HZ : Hid (isz o 65 = decide (o.a = 0)) := rfl
  have G1 := hid_intro (World.grownBy_alloc w (.cells #[.int .i64 o.k, .int .i64 o.a, .int .i64 o.b, .int .i64 o.c, .slice ka o.key.length kc, .slice va o.val.length vc, .slice ha o.hi.length hc, .slice fa o.f.length fc] 35) none)
  generalize isz o 65 = z at *
  clear xb
  go_enter Tryz.func58, Tryz.ntmps58
  go_wp2_with fail
  refine (HN.out _).mono ?_
  rintro en w2 ⟨rfl, rfl⟩
  go_wp2
  go_ret
  refine ⟨?_, G1.out⟩
  rw [HZ.out]
  rfl
set_option maxHeartbeats 2000000 in
set_option maxRecDepth 100000 in
theorem isZero_b (o : Opq) (ka : Option Addr) (kc : Nat) (va : Option Addr) (vc : Nat) (ha : Option Addr) (hc : Nat) (fa : Option Addr) (fc : Nat) (w : World) : Calls Tryz.prog 58 #[.agg #[.int .i64 o.k, .int .i64 o.a, .int .i64 o.b, .int .i64 o.c, .slice ka o.key.length kc, .slice va o.val.length vc, .slice ha o.hi.length hc, .slice fa o.f.length fc], .int .i32 66] w fun en w' => en = .returned (.bool (isz o 66)) ∧ w.grownBy w' none := by
  have xb := heap_at0S w #[.int .i64 o.k, .int .i64 o.a, .int .i64 o.b, .int .i64 o.c, .slice ka o.key.length kc, .slice va o.val.length vc, .slice ha o.hi.length hc, .slice fa o.f.length fc] 35
  have dx := cell_heapS (i := 2) xb rfl
  have HN : Hid (∀ W, Calls Tryz.prog 42 #[.pointer (some ⟨w.heap.size, 0, none⟩), .int .i32 66] W fun en w' => en = .returned (.pointer (some ⟨w.heap.size, 2, none⟩)) ∧ w' = W) := fun W => numberAt_any w.heap.size 66 W
  have HB : Hid (∀ W, Calls Tryz.prog 43 #[.pointer (some ⟨w.heap.size, 0, none⟩), .int .i32 66] W fun en w' => en = .returned (.pointer (none)) ∧ w' = W) := fun W => bytesAt_any w.heap.size 66 W
  have HZ : Hid (isz o 66 = decide (o.b = 0)) := rfl
  have G1 := hid_intro (World.grownBy_alloc w (.cells #[.int .i64 o.k, .int .i64 o.a, .int .i64 o.b, .int .i64 o.c, .slice ka o.key.length kc, .slice va o.val.length vc, .slice ha o.hi.length hc, .slice fa o.f.length fc] 35) none)
  generalize isz o 66 = z at *
  clear xb
  go_enter Tryz.func58, Tryz.ntmps58
  go_wp2_with fail
  refine (HN.out _).mono ?_
  rintro en w2 ⟨rfl, rfl⟩
  go_wp2
  go_ret
  refine ⟨?_, G1.out⟩
  rw [HZ.out]
  rfl
set_option maxHeartbeats 2000000 in
set_option maxRecDepth 100000 in
theorem isZero_c (o : Opq) (ka : Option Addr) (kc : Nat) (va : Option Addr) (vc : Nat) (ha : Option Addr) (hc : Nat) (fa : Option Addr) (fc : Nat) (w : World) : Calls Tryz.prog 58 #[.agg #[.int .i64 o.k, .int .i64 o.a, .int .i64 o.b, .int .i64 o.c, .slice ka o.key.length kc, .slice va o.val.length vc, .slice ha o.hi.length hc, .slice fa o.f.length fc], .int .i32 67] w fun en w' => en = .returned (.bool (isz o 67)) ∧ w.grownBy w' none := by
  have xb := heap_at0S w #[.int .i64 o.k, .int .i64 o.a, .int .i64 o.b, .int .i64 o.c, .slice ka o.key.length kc, .slice va o.val.length vc, .slice ha o.hi.length hc, .slice fa o.f.length fc] 35
  have dx := cell_heapS (i := 3) xb rfl
  have HN : Hid (∀ W, Calls Tryz.prog 42 #[.pointer (some ⟨w.heap.size, 0, none⟩), .int .i32 67] W fun en w' => en = .returned (.pointer (some ⟨w.heap.size, 3, none⟩)) ∧ w' = W) := fun W => numberAt_any w.heap.size 67 W
  have HB : Hid (∀ W, Calls Tryz.prog 43 #[.pointer (some ⟨w.heap.size, 0, none⟩), .int .i32 67] W fun en w' => en = .returned (.pointer (none)) ∧ w' = W) := fun W => bytesAt_any w.heap.size 67 W
  have HZ : Hid (isz o 67 = decide (o.c = 0)) := rfl
  have G1 := hid_intro (World.grownBy_alloc w (.cells #[.int .i64 o.k, .int .i64 o.a, .int .i64 o.b, .int .i64 o.c, .slice ka o.key.length kc, .slice va o.val.length vc, .slice ha o.hi.length hc, .slice fa o.f.length fc] 35) none)
  generalize isz o 67 = z at *
  clear xb
  go_enter Tryz.func58, Tryz.ntmps58
  go_wp2_with fail
  refine (HN.out _).mono ?_
  rintro en w2 ⟨rfl, rfl⟩
  go_wp2
  go_ret
  refine ⟨?_, G1.out⟩
  rw [HZ.out]
  rfl
set_option maxHeartbeats 2000000 in
set_option maxRecDepth 100000 in
theorem isZero_key (o : Opq) (ka : Option Addr) (kc : Nat) (va : Option Addr) (vc : Nat) (ha : Option Addr) (hc : Nat) (fa : Option Addr) (fc : Nat) (w : World) : Calls Tryz.prog 58 #[.agg #[.int .i64 o.k, .int .i64 o.a, .int .i64 o.b, .int .i64 o.c, .slice ka o.key.length kc, .slice va o.val.length vc, .slice ha o.hi.length hc, .slice fa o.f.length fc], .int .i32 75] w fun en w' => en = .returned (.bool (isz o 75)) ∧ w.grownBy w' none := by
  have xb := heap_at0S w #[.int .i64 o.k, .int .i64 o.a, .int .i64 o.b, .int .i64 o.c, .slice ka o.key.length kc, .slice va o.val.length vc, .slice ha o.hi.length hc, .slice fa o.f.length fc] 35
  have dx := cell_heapS (i := 4) xb rfl
  have HN : Hid (∀ W, Calls Tryz.prog 42 #[.pointer (some ⟨w.heap.size, 0, none⟩), .int .i32 75] W fun en w' => en = .returned (.pointer (none)) ∧ w' = W) := fun W => numberAt_any w.heap.size 75 W
  have HB : Hid (∀ W, Calls Tryz.prog 43 #[.pointer (some ⟨w.heap.size, 0, none⟩), .int .i32 75] W fun en w' => en = .returned (.pointer (some ⟨w.heap.size, 4, none⟩)) ∧ w' = W) := fun W => bytesAt_any w.heap.size 75 W
  have HZ : Hid (isz o 75 = decide (o.key.length = 0)) := rfl
  have G1 := hid_intro (World.grownBy_alloc w (.cells #[.int .i64 o.k, .int .i64 o.a, .int .i64 o.b, .int .i64 o.c, .slice ka o.key.length kc, .slice va o.val.length vc, .slice ha o.hi.length hc, .slice fa o.f.length fc] 35) none)
  generalize isz o 75 = z at *
  clear xb
  go_enter Tryz.func58, Tryz.ntmps58
  go_wp2_with fail
  refine (HN.out _).mono ?_
  rintro en w2 ⟨rfl, rfl⟩
  go_wp2_with fail
  refine (HB.out _).mono ?_
  rintro en w3 ⟨rfl, rfl⟩
  go_wp2
  go_ret
  refine ⟨?_, G1.out⟩
  rw [HZ.out]
  show Ending.returned (.bool (((o.key.length : Nat) : Int) == 0)) = _; congr 2; apply Bool.eq_iff_iff.2; simp
set_option maxHeartbeats 2000000 in
set_option maxRecDepth 100000 in
theorem isZero_val (o : Opq) (ka : Option Addr) (kc : Nat) (va : Option Addr) (vc : Nat) (ha : Option Addr) (hc : Nat) (fa : Option Addr) (fc : Nat) (w : World) : Calls Tryz.prog 58 #[.agg #[.int .i64 o.k, .int .i64 o.a, .int .i64 o.b, .int .i64 o.c, .slice ka o.key.length kc, .slice va o.val.length vc, .slice ha o.hi.length hc, .slice fa o.f.length fc], .int .i32 86] w fun en w' => en = .returned (.bool (isz o 86)) ∧ w.grownBy w' none := by
  have xb := heap_at0S w #[.int .i64 o.k, .int .i64 o.a, .int .i64 o.b, .int .i64 o.c, .slice ka o.key.length kc, .slice va o.val.length vc, .slice ha o.hi.length hc, .slice fa o.f.length fc] 35
  have dx := cell_heapS (i := 5) xb rfl
  have HN : Hid (∀ W, Calls Tryz.prog 42 #[.pointer (some ⟨w.heap.size, 0, none⟩), .int .i32 86] W fun en w' => en = .returned (.pointer (none)) ∧ w' = W) := fun W => numberAt_any w.heap.size 86 W
  have HB : Hid (∀ W, Calls Tryz.prog 43 #[.pointer (some ⟨w.heap.size, 0, none⟩), .int .i32 86] W fun en w' => en = .returned (.pointer (some ⟨w.heap.size, 5, none⟩)) ∧ w' = W) := fun W => bytesAt_any w.heap.size 86 W
  have HZ : Hid (isz o 86 = decide (o.val.length = 0)) := rfl
  have G1 := hid_intro (World.grownBy_alloc w (.cells #[.int .i64 o.k, .int .i64 o.a, .int .i64 o.b, .int .i64 o.c, .slice ka o.key.length kc, .slice va o.val.length vc, .slice ha o.hi.length hc, .slice fa o.f.length fc] 35) none)
  generalize isz o 86 = z at *
  clear xb
  go_enter Tryz.func58, Tryz.ntmps58
  go_wp2_with fail
  refine (HN.out _).mono ?_
  rintro en w2 ⟨rfl, rfl⟩
  go_wp2_with fail
  refine (HB.out _).mono ?_
  rintro en w3 ⟨rfl, rfl⟩
  go_wp2
  go_ret
  refine ⟨?_, G1.out⟩
  rw [HZ.out]
  show Ending.returned (.bool (((o.val.length : Nat) : Int) == 0)) = _; congr 2; apply Bool.eq_iff_iff.2; simp
set_option maxHeartbeats 2000000 in
set_option maxRecDepth 100000 in
theorem isZero_hi (o : Opq) (ka : Option Addr) (kc : Nat) (va : Option Addr) (vc : Nat) (ha : Option Addr) (hc : Nat) (fa : Option Addr) (fc : Nat) (w : World) : Calls Tryz.prog 58 #[.agg #[.int .i64 o.k, .int .i64 o.a, .int .i64 o.b, .int .i64 o.c, .slice ka o.key.length kc, .slice va o.val.length vc, .slice ha o.hi.length hc, .slice fa o.f.length fc], .int .i32 72] w fun en w' => en = .returned (.bool (isz o 72)) ∧ w.grownBy w' none := by
  have xb := heap_at0S w #[.int .i64 o.k, .int .i64 o.a, .int .i64 o.b, .int .i64 o.c, .slice ka o.key.length kc, .slice va o.val.length vc, .slice ha o.hi.length hc, .slice fa o.f.length fc] 35
  have dx := cell_heapS (i := 6) xb rfl
  have HN : Hid (∀ W, Calls Tryz.prog 42 #[.pointer (some ⟨w.heap.size, 0, none⟩), .int .i32 72] W fun en w' => en = .returned (.pointer (none)) ∧ w' = W) := fun W => numberAt_any w.heap.size 72 W
  have HB : Hid (∀ W, Calls Tryz.prog 43 #[.pointer (some ⟨w.heap.size, 0, none⟩), .int .i32 72] W fun en w' => en = .returned (.pointer (some ⟨w.heap.size, 6, none⟩)) ∧ w' = W) := fun W => bytesAt_any w.heap.size 72 W
  have HZ : Hid (isz o 72 = decide (o.hi.length = 0)) := rfl
  have G1 := hid_intro (World.grownBy_alloc w (.cells #[.int .i64 o.k, .int .i64 o.a, .int .i64 o.b, .int .i64 o.c, .slice ka o.key.length kc, .slice va o.val.length vc, .slice ha o.hi.length hc, .slice fa o.f.length fc] 35) none)
  generalize isz o 72 = z at *
  clear xb
  go_enter Tryz.func58, Tryz.ntmps58
  go_wp2_with fail
  refine (HN.out _).mono ?_
  rintro en w2 ⟨rfl, rfl⟩
  go_wp2_with fail
  refine (HB.out _).mono ?_
  rintro en w3 ⟨rfl, rfl⟩
  go_wp2
  go_ret
  refine ⟨?_, G1.out⟩
  rw [HZ.out]
  show Ending.returned (.bool (((o.hi.length : Nat) : Int) == 0)) = _; congr 2; apply Bool.eq_iff_iff.2; simp
set_option maxHeartbeats 2000000 in
set_option maxRecDepth 100000 in
theorem isZero_f (o : Opq) (ka : Option Addr) (kc : Nat) (va : Option Addr) (vc : Nat) (ha : Option Addr) (hc : Nat) (fa : Option Addr) (fc : Nat) (w : World) : Calls Tryz.prog 58 #[.agg #[.int .i64 o.k, .int .i64 o.a, .int .i64 o.b, .int .i64 o.c, .slice ka o.key.length kc, .slice va o.val.length vc, .slice ha o.hi.length hc, .slice fa o.f.length fc], .int .i32 70] w fun en w' => en = .returned (.bool (isz o 70)) ∧ w.grownBy w' none := by
  have xb := heap_at0S w #[.int .i64 o.k, .int .i64 o.a, .int .i64 o.b, .int .i64 o.c, .slice ka o.key.length kc, .slice va o.val.length vc, .slice ha o.hi.length hc, .slice fa o.f.length fc] 35
  have dx := cell_heapS (i := 7) xb rfl
  have HN : Hid (∀ W, Calls Tryz.prog 42 #[.pointer (some ⟨w.heap.size, 0, none⟩), .int .i32 70] W fun en w' => en = .returned (.pointer (none)) ∧ w' = W) := fun W => numberAt_any w.heap.size 70 W
  have HB : Hid (∀ W, Calls Tryz.prog 43 #[.pointer (some ⟨w.heap.size, 0, none⟩), .int .i32 70] W fun en w' => en = .returned (.pointer (none)) ∧ w' = W) := fun W => bytesAt_any w.heap.size 70 W
  have HZ : Hid (isz o 70 = decide (o.f.length = 0)) := rfl
  have G1 := hid_intro (World.grownBy_alloc w (.cells #[.int .i64 o.k, .int .i64 o.a, .int .i64 o.b, .int .i64 o.c, .slice ka o.key.length kc, .slice va o.val.length vc, .slice ha o.hi.length hc, .slice fa o.f.length fc] 35) none)
  generalize isz o 70 = z at *
  clear xb
  go_enter Tryz.func58, Tryz.ntmps58
  go_wp2_with fail
  refine (HN.out _).mono ?_
  rintro en w2 ⟨rfl, rfl⟩
  go_wp2_with fail
  refine (HB.out _).mono ?_
  rintro en w3 ⟨rfl, rfl⟩
  go_wp2
  go_ret
  refine ⟨?_, G1.out⟩
  rw [HZ.out]
  show Ending.returned (.bool (((o.f.length : Nat) : Int) == 0)) = _; congr 2; apply Bool.eq_iff_iff.2; simp
theorem isZero_any (x : UInt8) (hx : x ∈ ltr) (o : Opq) (ka : Option Addr) (kc : Nat) (va : Option Addr) (vc : Nat) (ha : Option Addr) (hc : Nat) (fa : Option Addr) (fc : Nat) (w : World) : Calls Tryz.prog 58 #[.agg #[.int .i64 o.k, .int .i64 o.a, .int .i64 o.b, .int .i64 o.c, .slice ka o.key.length kc, .slice va o.val.length vc, .slice ha o.hi.length hc, .slice fa o.f.length fc], .int .i32 (x.toNat : Nat)] w fun en w' => en = .returned (.bool (isz o x)) ∧ w.grownBy w' none := by
  simp only [ltr, List.mem_cons, List.not_mem_nil, or_false] at hx
  rcases hx with rfl | rfl | rfl | rfl | rfl | rfl | rfl
  · exact isZero_a o ka kc va vc ha hc fa fc w
  · exact isZero_b o ka kc va vc ha hc fa fc w
  · exact isZero_c o ka kc va vc ha hc fa fc w
  · exact isZero_key o ka kc va vc ha hc fa fc w
  · exact isZero_val o ka kc va vc ha hc fa fc w
  · exact isZero_hi o ka kc va vc ha hc fa fc w
  · exact isZero_f o ka kc va vc ha hc fa fc w
set_option maxHeartbeats 1000000 in
set_option maxRecDepth 100000 in
theorem judgeFate_any (a b : Int) (w : World) : Calls Tryz.prog 59 #[.agg #[.int .i64 a, .int .i64 b]] w fun en w' => en = .returned (.int .i64 (jdF (a, b))) ∧ w.grownBy w' none := by
  have G1 := hid_intro (World.grownBy_alloc w (.cells #[.int .i64 a, .int .i64 b] 43) none)
  have HN := hid_intro (fun W => isNumber_any b W)
  unfold jdF
  by_cases h0 : a = 0
  · subst h0
    rw [if_pos (.inl rfl)]
    by_cases hb : b = 0
    · subst hb
      rw [if_pos rfl]
      go_enter Tryz.func59, Tryz.ntmps59
      go_wp2
      go_ret
      exact ⟨rfl, G1.out⟩
    · have gb : (b == 0) = false := by rw [beq_eq_false_iff_ne]; exact hb
      rw [if_neg hb]
      go_enter Tryz.func59, Tryz.ntmps59
      go_wp2
      go_ret
      exact ⟨rfl, G1.out⟩
  · have g0 : (a == 0) = false := by rw [beq_eq_false_iff_ne]; exact h0
    by_cases h1 : a = 1
    · subst h1
      rw [if_pos (.inr rfl)]
      by_cases hb : b = 0
      · subst hb
        rw [if_pos rfl]
        go_enter Tryz.func59, Tryz.ntmps59
        go_wp2
        go_ret
        exact ⟨rfl, G1.out⟩
      · have gb : (b == 0) = false := by rw [beq_eq_false_iff_ne]; exact hb
        rw [if_neg hb]
        go_enter Tryz.func59, Tryz.ntmps59
        go_wp2
        go_ret
        exact ⟨rfl, G1.out⟩
    · have g1 : (a == 1) = false := by rw [beq_eq_false_iff_ne]; exact h1
      rw [if_neg (by simp only; omega)]
      by_cases h2 : a = 2
      · subst h2
        rw [if_pos rfl]
        cases hs : smn b with
        | true =>
          rw [if_pos rfl]
          rw [hs] at HN
          go_enter Tryz.func59, Tryz.ntmps59
          go_wp2_with fail
          refine (HN.out _).mono ?_
          rintro en w2 ⟨rfl, rfl⟩
          go_wp2
          go_ret
          exact ⟨rfl, G1.out⟩
        | false =>
          rw [if_neg (by simp)]
          rw [hs] at HN
          go_enter Tryz.func59, Tryz.ntmps59
          go_wp2_with fail
          refine (HN.out _).mono ?_
          rintro en w2 ⟨rfl, rfl⟩
          go_wp2
          go_ret
          exact ⟨rfl, G1.out⟩
      · have g2 : (a == 2) = false := by rw [beq_eq_false_iff_ne]; exact h2
        rw [if_neg h2]
        go_enter Tryz.func59, Tryz.ntmps59
        go_wp2
        go_ret
        exact ⟨rfl, G1.out⟩
end Go.Proofs.YtcjgmiilfjjbcaaGreatDoor

namespace Go.Proofs.YtcjgmiilfjjbcaaGreatDoor
open Go.RowKit

theorem ixb_mem (x : UInt8) : ∀ t : List UInt8, decide (0 ≤ Lib.indexByte t x) = t.contains x
  | [] => by simp [Lib.indexByte]
  | c :: t => by
    have ih := ixb_mem x t
    have hg := Lib.indexByte_ge t x
    unfold Lib.indexByte
    by_cases e : c = x
    · subst e; simp
    · have e1 : (c == x) = false := by rw [beq_eq_false_iff_ne]; exact e
      have e2 : (x == c) = false := by rw [beq_eq_false_iff_ne]; exact fun h => e h.symm
      rw [List.contains_cons, e2, Bool.false_or, ← ih]
      rw [e1]
      simp only [Bool.false_eq_true, if_false]
      by_cases h : Lib.indexByte t x = -1
      · rw [h]; simp
      · have : (Lib.indexByte t x == -1) = false := by rw [beq_eq_false_iff_ne]; exact h
        rw [this]
        simp only [Bool.false_eq_true, if_false]
        rw [decide_eq_decide]
        omega
theorem nAt_cases (x : UInt8) (hx : x ∈ ltr) (b : Nat) (o : Opq) (ka : Option Addr) (kc : Nat) (va : Option Addr) (vc : Nat) (ha : Option Addr) (hc : Nat) (fa : Option Addr) (fc : Nat) : (∃ j n, nAt b (x.toNat : Nat) = some ⟨b, j, none⟩ ∧ nvl o x = some n ∧ (#[.int .i64 o.k, .int .i64 o.a, .int .i64 o.b, .int .i64 o.c, .slice ka o.key.length kc, .slice va o.val.length vc, .slice ha o.hi.length hc, .slice fa o.f.length fc] : Array Value)[j]? = some (.int .i64 n)) ∨ (nAt b (x.toNat : Nat) = none ∧ nvl o x = none) := by
  simp only [ltr, List.mem_cons, List.not_mem_nil, or_false] at hx
  rcases hx with rfl | rfl | rfl | rfl | rfl | rfl | rfl
  · exact .inl ⟨1, o.a, rfl, rfl, rfl⟩
  · exact .inl ⟨2, o.b, rfl, rfl, rfl⟩
  · exact .inl ⟨3, o.c, rfl, rfl, rfl⟩
  all_goals exact .inr ⟨rfl, rfl⟩
theorem fds_mem (k : Int) : ∀ c ∈ fds k, c ∈ ltr := by
  unfold fds
  intro c hc
  by_cases hk : k.toNat < 23
  · have : ∀ k : Fin 23, ∀ c ∈ (stT.getD k.1 ([], [])).2, c ∈ ltr := by decide
    exact this ⟨k.toNat, hk⟩ c hc
  · rw [List.getD_eq_getElem?_getD, List.getElem?_eq_none (by rw [stT_len]; omega)] at hc
    cases hc
theorem ltr_asc : ∀ c ∈ ltr, c.toNat < 128 := by decide
set_option maxHeartbeats 16000000 in
set_option maxRecDepth 100000 in
theorem judgeStep_any (o : Opq) (ka : Option Addr) (kc : Nat) (va : Option Addr) (vc : Nat) (ha : Option Addr) (hc : Nat) (fa : Option Addr) (fc : Nat) (w : World) (hL : Lv w) (hR : OpR w o ka kc va vc ha hc fa fc) (hm : o.f.length ≤ 1000000000000) : Calls Tryz.prog 37 #[.agg #[.int .i64 o.k, .int .i64 o.a, .int .i64 o.b, .int .i64 o.c, .slice ka o.key.length kc, .slice va o.val.length vc, .slice ha o.hi.length hc, .slice fa o.f.length fc]] w fun en w' => en = .returned (.int .i64 (jdS o)) ∧ w.grownBy w' none := by
  have HL : Hid (Lv w) := hL
  have HR := hid_intro hR
  have HM := hid_intro hm
  have xb := heap_at0S w #[.int .i64 o.k, .int .i64 o.a, .int .i64 o.b, .int .i64 o.c, .slice ka o.key.length kc, .slice va o.val.length vc, .slice ha o.hi.length hc, .slice fa o.f.length fc] 35
  have g1 := World.grownBy_alloc w (.cells #[.int .i64 o.k, .int .i64 o.a, .int .i64 o.b, .int .i64 o.c, .slice ka o.key.length kc, .slice va o.val.length vc, .slice ha o.hi.length hc, .slice fa o.f.length fc] 35) none
  have G1 := hid_intro g1
  have XB := hid_intro xb
  have HW := hid_intro (fun W hW => word_any o.k W hW)
  have LS := hid_intro (hL.keptN g1).stp
  have dk := cell_heapS (i := 0) xb rfl
  have hem := str_nil (wrd o.k)
  have HJ : Hid (jdS o = if wrd o.k = [] then 231 else if jd1 o (fds o.k) ltr ≠ 0 then 244 else if jd2 o (fds o.k) ≠ 0 then 232 else jd3 o.f) := rfl
  clear hL hR hm xb g1
  generalize jdS o = J at *
  by_cases hw : wrd o.k = []
  · have b0 : ((tstr (wrd o.k)).toList == []) = true := by rw [hem]; simp [hw]
    have HJ2 : Hid (J = 231) := by show _ = _; rw [HJ.out, if_pos hw]
    clear HJ hem hw
    generalize tstr (wrd o.k) = sw at *
    go_enter Tryz.func37, Tryz.ntmps37
    go_wp2_with fail
    refine (HW.out _ LS.out).mono ?_
    rintro en w2 ⟨rfl, rfl⟩
    go_wp2
    go_ret
    exact ⟨by rw [HJ2.out]; rfl, G1.out⟩
  · have b0 : ((tstr (wrd o.k)).toList == []) = false := by rw [hem]; simp [hw]
    have HJ2 : Hid (J = if jd1 o (fds o.k) ltr ≠ 0 then 244 else if jd2 o (fds o.k) ≠ 0 then 232 else jd3 o.f) := by show _ = _; rw [HJ.out, if_neg hw]
    have hk : 0 ≤ o.k ∧ o.k < 23 := by
      unfold wrd at hw
      by_cases h : 0 ≤ o.k ∧ o.k < 23
      · exact h
      · rw [if_neg h] at hw; exact absurd rfl hw
    obtain ⟨hk0, hk1⟩ := hk
    obtain ⟨p, hp⟩ : ∃ p, stT[o.k.toNat]? = some p := ⟨_, List.getElem?_eq_getElem (l := stT) (i := o.k.toNat) (by rw [stT_len]; omega)⟩
    have hfd : fds o.k = p.2 := by unfold fds; rw [List.getD_eq_getElem?_getD, hp]; rfl
    have cf := (LS.out o.k.toNat p hp).2
    rw [← hfd] at cf
    have hfm := fds_mem o.k
    have HFM := hid_intro hfm
    clear HJ hem hw hp hfd hfm
    have htd := tstr_data (fds o.k)
    have HTD := hid_intro htd
    generalize tstr (wrd o.k) = sw at *
    generalize fds o.k = fs at *
    clear htd
    go_enter Tryz.func37, Tryz.ntmps37
    go_wp2_with fail
    refine (HW.out _ LS.out).mono ?_
    rintro en w2 ⟨rfl, rfl⟩
    go_wp2
    clear dk cf hk0 hk1
    generalize hs7 : (⟨#[65, 66, 67, 75, 86, 72, 70]⟩ : ByteArray) = s7 at *
    have HS7 : Hid (s7.data.toList = ltr) := by rw [← hs7]; rfl
    have hz7 : s7.size = 7 := by rw [← hs7]; rfl
    clear hs7
    generalize hb0 : w.alloc (.cells #[.int .i64 o.k, .int .i64 o.a, .int .i64 o.b, .int .i64 o.c, .slice ka o.key.length kc, .slice va o.val.length vc, .slice ha o.hi.length hc, .slice fa o.f.length fc] 35) = wb at *
    have hpb : wb.heap.size = w.heap.size + 1 := by rw [← hb0]; simp
    clear hb0
    have IT0 := World.iter_heap wb s7 0
    rw [hpb] at IT0
    generalize hK : w.heap.size + 1 = Kb at *
    have IT : Hid ((wb.iter s7 0).heap[Kb]? = some (.stringIter s7 0)) := IT0
    have gi : wb.grownBy (wb.iter s7 0) none := World.grownBy_alloc wb _ none
    have G2 := hid_intro (grown_trans G1.out gi)
    have X2 := hid_intro (heap_keptS XB.out gi)
    have HK : Hid (w.heap.size < Kb) := by show _ < _; omega
    clear gi hK hpb IT0 G1 XB LS HW
    generalize wb.iter s7 0 = w3 at *
    go_loopw [5] (fun _ wr => ∃ pos : Nat, pos ≤ 7 ∧ w.grownBy wr none ∧ wr.heap[Kb]? = some (.stringIter s7 pos) ∧ wr.heap[w.heap.size]? = some (.cells #[.int .i64 o.k, .int .i64 o.a, .int .i64 o.b, .int .i64 o.c, .slice ka o.key.length kc, .slice va o.val.length vc, .slice ha o.hi.length hc, .slice fa o.f.length fc] 35 (0, 0)) ∧ jd1 o fs ltr = jd1 o fs (ltr.drop pos)) (fun _ wr => s7.size - wr.iterPos Kb)
    case atStart => exact ⟨0, by omega, G2.out, IT.out, X2.out, rfl⟩
    case round =>
      obtain ⟨pos, hp', hg, hit, hx, hj⟩ := hrel
      have HG := hid_intro hg
      have HIT := hid_intro hit
      have HX := hid_intro hx
      have HJ1 := hid_intro hj
      clear G2 IT X2 hg hit hx hj
      by_cases hp : pos < 7
      · have hps : pos < s7.size := by omega
        have hnx : ∀ ty, (Instr.next (.pointer (some ⟨Kb, 0, none⟩)) true ty).run Tryz.prog wr = _ := fun ty => Lib.run_next_any_at wr Kb s7 pos ty HIT.out hps
        have hgd := getD_data s7 pos hps
        rw [HS7.out] at hgd
        have hlp : pos < ltr.length := hp
        have hfc : ltr[pos]'hlp = s7[pos]'hps := by rw [← hgd, List.getD, List.getElem?_eq_getElem hlp]; rfl
        have hcm : (s7[pos]'hps) ∈ ltr := by rw [← hfc]; exact List.getElem_mem hlp
        have hasc := ltr_asc _ hcm
        have hdec := decode_ascii s7 pos hps hasc
        rw [hdec] at hnx
        have hjs : jd1 o fs (ltr.drop pos) = if fs.contains (s7[pos]'hps) = false ∧ isz o (s7[pos]'hps) = false then 244 else jd1 o fs (ltr.drop (pos + 1)) := by
          rw [List.drop_eq_getElem_cons hlp, hfc]
          rfl
        have HJS := hid_intro hjs
        have gi := grown_iter1 wr Kb s7 (pos + 1)
        have GI := hid_intro (grown_iter HG.out (k := Kb) (by have := HK.out; omega) s7 (pos + 1))
        have II := hid_intro (Lib.iterAt_heap wr Kb s7 pos (pos + 1) HIT.out)
        have XI := hid_intro (heap_iterS HX.out HIT.out gi)
        have HCM := hid_intro hcm
        have HCC : Hid (∀ W, Calls Tryz.prog 57 #[.string (tstr fs), .int .i32 ((s7[pos]'hps).toNat : Nat)] W fun e w' => e = .returned (.bool (fs.contains (s7[pos]'hps))) ∧ w' = W) := fun W => by
          have hh := containsRune_call (tstr fs) ((s7[pos]'hps).toNat : Nat) W (by omega) (by omega)
          rw [tstr_data, show (((s7[pos]'hps).toNat : Int)).toNat.toUInt8 = s7[pos]'hps by simp, ixb_mem] at hh
          exact hh
        clear hgd hlp hfc hdec hjs gi hcm
        generalize s7[pos]'hps = c at *
        have HMS : Hid (∀ w7 : World, w7.heap[Kb]? = some (.stringIter s7 (pos + 1)) → s7.size - w7.iterPos Kb < s7.size - wr.iterPos Kb) := fun w7 h7 => by
          simp only [World.iterPos, h7, HIT.out]
          omega
        cases hcon : fs.contains c with
        | true =>
          rw [hcon] at HCC
          have HJ3 : Hid (jd1 o fs ltr = jd1 o fs (ltr.drop (pos + 1))) := by show _ = _; rw [HJ1.out, HJS.out, hcon, if_neg (by simp)]
          clear HJS HJ1
          go_wp2_with fail
          refine (HCC.out _).mono ?_
          rintro en w6 ⟨rfl, rfl⟩
          go_wp2
          go_roundw
          case rel => exact ⟨pos + 1, by omega, GI.out, II.out, XI.out, HJ3.out⟩
          case measure => exact HMS.out _ II.out
        | false =>
          rw [hcon] at HCC
          have HIZ := hid_intro (fun W => isZero_any c HCM.out o ka kc va vc ha hc fa fc W)
          have x0 := cell_heapS (i := 0) XI.out rfl
          have x1 := cell_heapS (i := 1) XI.out rfl
          have x2 := cell_heapS (i := 2) XI.out rfl
          have x3 := cell_heapS (i := 3) XI.out rfl
          have x4 := cell_heapS (i := 4) XI.out rfl
          have x5 := cell_heapS (i := 5) XI.out rfl
          have x6 := cell_heapS (i := 6) XI.out rfl
          have x7 := cell_heapS (i := 7) XI.out rfl
          cases hiz : isz o c with
          | true =>
            rw [hiz] at HIZ
            have HJ3 : Hid (jd1 o fs ltr = jd1 o fs (ltr.drop (pos + 1))) := by show _ = _; rw [HJ1.out, HJS.out, hiz, if_neg (by simp)]
            clear HJS HJ1
            go_wp2_with fail
            refine (HCC.out _).mono ?_
            rintro en w6 ⟨rfl, rfl⟩
            go_wp2_with fail
            refine (HIZ.out _).mono ?_
            rintro en w7 ⟨rfl, hg7⟩
            have G7 := hid_intro (grown_trans GI.out hg7)
            have I7 := hid_intro (heap_keptS II.out hg7)
            have X7 := hid_intro (heap_keptS XI.out hg7)
            clear hg7
            go_wp2
            go_roundw
            case rel => exact ⟨pos + 1, by omega, G7.out, I7.out, X7.out, HJ3.out⟩
            case measure => exact HMS.out _ I7.out
          | false =>
            rw [hiz] at HIZ
            have HJ3 : Hid (J = 244) := by show _ = _; rw [HJ2.out, HJ1.out, HJS.out, hiz, hcon]; rfl
            clear HJS HJ1
            go_wp2_with fail
            refine (HCC.out _).mono ?_
            rintro en w6 ⟨rfl, rfl⟩
            go_wp2_with fail
            refine (HIZ.out _).mono ?_
            rintro en w7 ⟨rfl, hg7⟩
            have G7 := hid_intro (grown_trans GI.out hg7)
            clear hg7
            go_wp2
            go_ret
            exact ⟨by rw [HJ3.out]; rfl, G7.out⟩
      · obtain rfl : pos = 7 := by omega
        have hps : ¬ 7 < s7.size := by omega
        have hnx : ∀ ty, (Instr.next (.pointer (some ⟨Kb, 0, none⟩)) true ty).run Tryz.prog wr = _ := fun ty => Lib.run_next_end_at wr Kb s7 7 ty HIT.out hps
        have HJ3 : Hid (J = if jd2 o fs ≠ 0 then 232 else jd3 o.f) := by show _ = _; rw [HJ2.out, HJ1.out, if_neg (by simp [ltr, jd1])]
        clear HJ2 HJ1
        go_wp2
        have hzf := tstr_size fs
        generalize tstr fs = s at *
        generalize hK2 : wr.heap.size = Kc
        have IT2 : Hid ((wr.iter s 0).heap[Kc]? = some (.stringIter s 0)) := by rw [← hK2]; exact World.iter_heap wr s 0
        have gi2 : wr.grownBy (wr.iter s 0) none := World.grownBy_alloc wr _ none
        have G4 := hid_intro (grown_trans HG.out gi2)
        have X4 := hid_intro (heap_keptS HX.out gi2)
        have HKc : Hid (w.heap.size < Kc) := by have := (Array.getElem?_eq_some_iff.1 HX.out).1; show _ < _; omega
        clear gi2 hK2 HIT HG HX hps hnx hp hp'
        generalize wr.iter s 0 = w4 at *
        go_loopw [7, 8] (fun _ _ wr => ∃ pos : Nat, pos ≤ s.size ∧ w.grownBy wr none ∧ wr.heap[Kc]? = some (.stringIter s pos) ∧ wr.heap[w.heap.size]? = some (.cells #[.int .i64 o.k, .int .i64 o.a, .int .i64 o.b, .int .i64 o.c, .slice ka o.key.length kc, .slice va o.val.length vc, .slice ha o.hi.length hc, .slice fa o.f.length fc] 35 (0, 0)) ∧ jd2 o fs = jd2 o (fs.drop pos)) (fun _ _ wr => s.size - wr.iterPos Kc)
        case atStart => exact ⟨0, Nat.zero_le _, G4.out, IT2.out, X4.out, rfl⟩
        case round =>
          obtain ⟨pos, hp', hg, hit, hx, hj⟩ := hrel
          have HG := hid_intro hg
          have HIT := hid_intro hit
          have HX := hid_intro hx
          have HJ1 := hid_intro hj
          clear G4 IT2 X4 hg hit hx hj
          by_cases hps : pos < s.size
          · have hnx : ∀ ty, (Instr.next (.pointer (some ⟨Kc, 0, none⟩)) true ty).run Tryz.prog wr = _ := fun ty => Lib.run_next_any_at wr Kc s pos ty HIT.out hps
            have hgd := getD_data s pos hps
            rw [HTD.out] at hgd
            have hlp : pos < fs.length := by omega
            have hfc : fs[pos]'hlp = s[pos]'hps := by rw [← hgd, List.getD, List.getElem?_eq_getElem hlp]; rfl
            have hcm : (s[pos]'hps) ∈ ltr := HFM.out _ (by rw [← hfc]; exact List.getElem_mem hlp)
            have hasc := ltr_asc _ hcm
            have hdec := decode_ascii s pos hps hasc
            rw [hdec] at hnx
            have hjs : jd2 o (fs.drop pos) = match nvl o (s[pos]'hps) with
                | some n => if smn n = true then jd2 o (fs.drop (pos + 1)) else 232
                | none => jd2 o (fs.drop (pos + 1)) := by
              rw [List.drop_eq_getElem_cons hlp, hfc]
              rfl
            have HJS := hid_intro hjs
            have gi := grown_iter1 wr Kc s (pos + 1)
            have GI := hid_intro (grown_iter HG.out (k := Kc) (by have := HKc.out; omega) s (pos + 1))
            have II := hid_intro (Lib.iterAt_heap wr Kc s pos (pos + 1) HIT.out)
            have XI := hid_intro (heap_iterS HX.out HIT.out gi)
            have hnc := nAt_cases (s[pos]'hps) hcm w.heap.size o ka kc va vc ha hc fa fc
            have HNA := hid_intro (fun W => numberAt_any w.heap.size ((s[pos]'hps).toNat : Nat) W)
            have HMS : Hid (∀ w7 : World, w7.heap[Kc]? = some (.stringIter s (pos + 1)) → s.size - w7.iterPos Kc < s.size - wr.iterPos Kc) := fun w7 h7 => by
              simp only [World.iterPos, h7, HIT.out]
              omega
            clear hgd hlp hfc hdec hjs gi hcm
            generalize s[pos]'hps = c at *
            rcases hnc with ⟨j, n, n1, n2, n3⟩ | ⟨n1, n2⟩
            · rw [n1] at HNA
              rw [n2] at HJS
              have cj := cell_heapS (i := j) XI.out n3
              have HIN := hid_intro (fun W => isNumber_any n W)
              clear n1 n2 n3
              cases hsn : smn n with
              | true =>
                rw [hsn] at HIN
                have HJ4 : Hid (jd2 o fs = jd2 o (fs.drop (pos + 1))) := by show _ = _; rw [HJ1.out, HJS.out]; simp [hsn]
                clear HJS HJ1
                go_wp2_with fail
                refine (HNA.out _).mono ?_
                rintro en w6 ⟨rfl, rfl⟩
                go_wp2_with fail
                refine (HIN.out _).mono ?_
                rintro en w7 ⟨rfl, rfl⟩
                go_wp2
                go_roundw
                case rel => exact ⟨pos + 1, by omega, GI.out, II.out, XI.out, HJ4.out⟩
                case measure => exact HMS.out _ II.out
              | false =>
                rw [hsn] at HIN
                have HJ4 : Hid (J = 232) := by show _ = _; rw [HJ3.out, HJ1.out, HJS.out]; simp [hsn]
                clear HJS HJ1
                go_wp2_with fail
                refine (HNA.out _).mono ?_
                rintro en w6 ⟨rfl, rfl⟩
                go_wp2_with fail
                refine (HIN.out _).mono ?_
                rintro en w7 ⟨rfl, rfl⟩
                go_wp2
                go_ret
                exact ⟨by rw [HJ4.out]; rfl, GI.out⟩
            · rw [n1] at HNA
              rw [n2] at HJS
              have HJ4 : Hid (jd2 o fs = jd2 o (fs.drop (pos + 1))) := by show _ = _; rw [HJ1.out, HJS.out]
              clear HJS HJ1 n1 n2
              go_wp2_with fail
              refine (HNA.out _).mono ?_
              rintro en w6 ⟨rfl, rfl⟩
              go_wp2
              go_roundw
              case rel => exact ⟨pos + 1, by omega, GI.out, II.out, XI.out, HJ4.out⟩
              case measure => exact HMS.out _ II.out
          · obtain rfl : pos = s.size := by omega
            have hnx : ∀ ty, (Instr.next (.pointer (some ⟨Kc, 0, none⟩)) true ty).run Tryz.prog wr = _ := fun ty => Lib.run_next_end_at wr Kc s s.size ty HIT.out hps
            have HJ4 : Hid (J = jd3 o.f) := by show _ = _; rw [HJ3.out, HJ1.out, hzf, List.drop_length, if_neg (by simp [jd2])]
            have d7 := cell_heapS (i := 7) HX.out rfl
            have HF := hid_intro (HR.out.f.keptN HG.out)
            obtain ⟨m, hm⟩ : ∃ m, o.f.length = m := ⟨_, rfl⟩
            rw [hm] at d7
            have HMN := hid_intro hm
            have hmz : (m : Int) ≤ 1000000000000 := by have := HM.out; omega
            clear HJ3 HJ1 hm
            go_wp2
            generalize hwz : wr = wz at *
            clear hwz
            go_loopw [10, 11, 54] (fun _ _ s54 wr => ∃ i : Nat, i ≤ m ∧ s54 = .int .i64 (i : Nat) ∧ w.grownBy wr none ∧ FtR wr fa o.f ∧ jd3 o.f = jd3 (o.f.drop i)) (fun _ _ s54 _ => m - (intOf s54).toNat)
            case atStart => exact ⟨0, Nat.zero_le _, rfl, HG.out, HF.out, rfl⟩
            case round =>
              obtain ⟨i, hi, rfl, hg, hf, hj⟩ := hrel
              have HG5 := hid_intro hg
              have HF5 := hid_intro hf
              have HJ5 := hid_intro hj
              clear hg hf hj
              by_cases him : i < m
              · have e1 : (i : Int) < (m : Int) := by omega
                have e2 : (0 : Int) ≤ (i : Int) := by omega
                have hil : i < o.f.length := by rw [HMN.out]; exact him
                obtain ⟨pp, hpp⟩ : ∃ pp, o.f[i]? = some pp := ⟨_, List.getElem?_eq_getElem hil⟩
                obtain ⟨gf, off, ef, cf1, cf2⟩ := HF5.out i pp hpp
                obtain ⟨pa, pb⟩ := pp
                have hjs : jd3 (o.f.drop i) = if jdF (pa, pb) = 0 then jd3 (o.f.drop (i + 1)) else jdF (pa, pb) := by
                  rw [List.drop_eq_getElem_cons hil, (List.getElem?_eq_some_iff.1 hpp).2]
                  rfl
                have HJS := hid_intro hjs
                subst ef
                have ga := World.grownBy_alloc wr (.cells #[.int .i64 pa, .int .i64 pb] 43) none
                have G6 := hid_intro (grown_trans HG5.out ga)
                have F6 := hid_intro (HF5.out.keptN ga)
                have HJF := hid_intro (fun W => judgeFate_any pa pb W)
                have hwr : IntKind.i64.wrap ((i : Int) + 1) = (i : Int) + 1 := wrap_small _ (by omega) (by omega)
                simp only at cf1 cf2
                clear ga hjs hpp hil
                generalize jdF (pa, pb) = jf at *
                by_cases h0 : jf = 0
                · subst h0
                  have HJ6 : Hid (jd3 o.f = jd3 (o.f.drop (i + 1))) := by show _ = _; rw [HJ5.out, HJS.out, if_pos rfl]
                  clear HJS HJ5
                  go_wp2_with fail
                  refine (HJF.out _).mono ?_
                  rintro en w7 ⟨rfl, hg7⟩
                  have G7 := hid_intro (grown_trans G6.out hg7)
                  have F7 := hid_intro (F6.out.keptN hg7)
                  clear hg7
                  go_wp2
                  go_roundw
                  case rel => exact ⟨i + 1, by omega, by go_num, G7.out, F7.out, HJ6.out⟩
                  case measure => simp [intOf]; omega
                · have gj : (jf == 0) = false := by rw [beq_eq_false_iff_ne]; exact h0
                  have HJ6 : Hid (J = jf) := by show _ = _; rw [HJ4.out, HJ5.out, HJS.out, if_neg h0]
                  clear HJS HJ5
                  go_wp2_with fail
                  refine (HJF.out _).mono ?_
                  rintro en w7 ⟨rfl, hg7⟩
                  have G7 := hid_intro (grown_trans G6.out hg7)
                  clear hg7
                  go_wp2
                  go_ret
                  exact ⟨by rw [HJ6.out]; rfl, G7.out⟩
              · obtain rfl : i = m := by omega
                have HJ6 : Hid (J = 0) := by show _ = _; rw [HJ4.out, HJ5.out, ← HMN.out, List.drop_length]; rfl
                go_wp2
                go_ret
                exact ⟨by rw [HJ6.out]; rfl, HG5.out⟩
end Go.Proofs.YtcjgmiilfjjbcaaGreatDoor

namespace Go.Proofs.YtcjgmiilfjjbcaaGreatDoor
open Go.RowKit

/-- Steps in memory, read. -/
def OpsR (w : World) (ao : Option Addr) (l : List Opq) : Prop := ∀ i o, l[i]? = some o → ∃ g off ka kc va vc ha hc fa fc, ao = some ⟨g, off, none⟩ ∧ (∀ j u, ([.int .i64 o.k, .int .i64 o.a, .int .i64 o.b, .int .i64 o.c, .slice ka o.key.length kc, .slice va o.val.length vc, .slice ha o.hi.length hc, .slice fa o.f.length fc] : List Value)[j]? = some u → w.cell? ⟨g, off + i * 8 + j, none⟩ = some u) ∧ OpR w o ka kc va vc ha hc fa fc
theorem OpsR.keptN {w w' : World} {ao : Option Addr} {l : List Opq} (h : OpsR w ao l) (hg : w.grownBy w' none) : OpsR w' ao l := fun i o ho => by
  obtain ⟨g, off, ka, kc, va, vc, ha, hc, fa, fc, h1, h2, h3⟩ := h i o ho
  exact ⟨g, off, ka, kc, va, vc, ha, hc, fa, fc, h1, fun j u hj => cell_keptS (h2 j u hj) hg, h3.keptN hg⟩
def Fnw (l : List Opq) : Prop := ∀ o ∈ l, o.f.length ≤ 1000000000000
set_option maxHeartbeats 8000000 in
set_option maxRecDepth 100000 in
theorem judge_any (n : Int) (l : List Opq) (ao : Option Addr) (c : Nat) (w : World) (hL : Lv w) (hR : OpsR w ao l) (hf : Fnw l) (hm : l.length ≤ 140737488355328) : Calls Tryz.prog 18 #[.agg #[.int .i64 n, .slice ao l.length c]] w fun en w' => en = .returned (.int .i64 (jdg23 n l)) ∧ w.grownBy w' none := by
  have HL : Hid (Lv w) := hL
  have g1 := World.grownBy_alloc w (.cells #[.int .i64 n, .slice ao l.length c] 24) none
  have G1 := hid_intro g1
  have HR := hid_intro (hR.keptN g1)
  have HF := hid_intro hf
  have HN := hid_intro (fun W => isNumber_any n W)
  have HJ : Hid (jdg23 n l = if smn n = true then (if 2000 < l.length then 234 else jdA l) else 232) := rfl
  obtain ⟨m, hmn⟩ : ∃ m, l.length = m := ⟨_, rfl⟩
  have HMN := hid_intro hmn
  rw [hmn] at hm HJ ⊢
  rw [hmn] at G1 HR
  clear hL hR hf g1 hmn
  generalize jdg23 n l = J at *
  cases hs : smn n with
  | false =>
    rw [hs] at HN HJ
    go_enter Tryz.func18, Tryz.ntmps18
    go_wp2_with fail
    refine (HN.out _).mono ?_
    rintro en w2 ⟨rfl, rfl⟩
    go_wp2
    go_ret
    exact ⟨by rw [HJ.out]; rfl, G1.out⟩
  | true =>
    rw [hs] at HN
    by_cases h2 : 2000 < m
    · have e2 : (2000 : Int) < (m : Int) := by omega
      have HJ2 : Hid (J = 234) := by show _ = _; rw [HJ.out, if_pos hs, if_pos h2]
      go_enter Tryz.func18, Tryz.ntmps18
      go_wp2_with fail
      refine (HN.out _).mono ?_
      rintro en w2 ⟨rfl, rfl⟩
      go_wp2
      go_ret
      exact ⟨by rw [HJ2.out]; rfl, G1.out⟩
    · have e2 : ¬ (2000 : Int) < (m : Int) := by omega
      have e3 : (m : Int) ≤ 2000 := by omega
      have HJ2 : Hid (J = jdA l) := by show _ = _; rw [HJ.out, if_pos hs, if_neg h2]
      clear HJ h2 hm hs
      go_enter Tryz.func18, Tryz.ntmps18
      go_wp2_with fail
      refine (HN.out _).mono ?_
      rintro en w2 ⟨rfl, rfl⟩
      go_wp2
      generalize w.alloc (.cells #[.int .i64 n, .slice ao m c] 24) = w3 at *
      go_loopw [4, 5, 17] (fun _ _ s17 wr => ∃ i : Nat, i ≤ m ∧ s17 = .int .i64 (i : Nat) ∧ w.grownBy wr none ∧ OpsR wr ao l ∧ jdA l = jdA (l.drop i)) (fun _ _ s17 _ => m - (intOf s17).toNat)
      case atStart => exact ⟨0, Nat.zero_le _, rfl, G1.out, HR.out, rfl⟩
      case round =>
        obtain ⟨i, hi, rfl, hg, hr, hj⟩ := hrel
        have HG := hid_intro hg
        have HR2 := hid_intro hr
        have HJ3 := hid_intro hj
        clear hg hr hj G1 HR
        by_cases him : i < m
        · have e4 : (i : Int) < (m : Int) := by omega
          have e5 : (0 : Int) ≤ (i : Int) := by omega
          have hil : i < l.length := by rw [HMN.out]; exact him
          obtain ⟨o, ho⟩ : ∃ o, l[i]? = some o := ⟨_, List.getElem?_eq_getElem hil⟩
          obtain ⟨g, off, ka, kc, va, vc, ha, hc, fa, fc, ea, hcell, hopr⟩ := HR2.out i o ho
          have hjs : jdA (l.drop i) = if jdS o = 0 then jdA (l.drop (i + 1)) else jdS o := by
            rw [List.drop_eq_getElem_cons hil, (List.getElem?_eq_some_iff.1 ho).2]
            rfl
          have HJS := hid_intro hjs
          have hof := HF.out o (List.mem_of_getElem? ho)
          subst ea
          have y0 := hcell 0 _ rfl
          have y1 := hcell 1 _ rfl
          have y2 := hcell 2 _ rfl
          have y3 := hcell 3 _ rfl
          have y4 := hcell 4 _ rfl
          have y5 := hcell 5 _ rfl
          have y6 := hcell 6 _ rfl
          have y7 := hcell 7 _ rfl
          simp only [Nat.add_zero] at y0
          have ga := World.grownBy_alloc wr (.cells #[.int .i64 o.k, .int .i64 o.a, .int .i64 o.b, .int .i64 o.c, .slice ka o.key.length kc, .slice va o.val.length vc, .slice ha o.hi.length hc, .slice fa o.f.length fc] 35) none
          have G6 := hid_intro (grown_trans HG.out ga)
          have R6 := hid_intro (HR2.out.keptN ga)
          have HJT := hid_intro (judgeStep_any o ka kc va vc ha hc fa fc _ (HL.out.keptN G6.out) (hopr.keptN ga) hof)
          have hwr : IntKind.i64.wrap ((i : Int) + 1) = (i : Int) + 1 := wrap_small _ (by omega) (by omega)
          clear hjs ho hcell hopr hof hil
          generalize jdS o = js at *
          by_cases h0 : js = 0
          · subst h0
            have HJ6 : Hid (jdA l = jdA (l.drop (i + 1))) := by show _ = _; rw [HJ3.out, HJS.out, if_pos rfl]
            clear HJS HJ3 ga
            go_wp2_with fail
            refine HJT.out.mono ?_
            rintro en w7 ⟨rfl, hg7⟩
            have G7 := hid_intro (grown_trans G6.out hg7)
            have R7 := hid_intro (R6.out.keptN hg7)
            clear hg7
            go_wp2
            go_roundw
            case rel => exact ⟨i + 1, by omega, by go_num, G7.out, R7.out, HJ6.out⟩
            case measure => simp [intOf]; omega
          · have gj : (js == 0) = false := by rw [beq_eq_false_iff_ne]; exact h0
            have HJ6 : Hid (J = js) := by show _ = _; rw [HJ2.out, HJ3.out, HJS.out, if_neg h0]
            clear HJS HJ3 ga
            go_wp2_with fail
            refine HJT.out.mono ?_
            rintro en w7 ⟨rfl, hg7⟩
            have G7 := hid_intro (grown_trans G6.out hg7)
            clear hg7
            go_wp2
            go_ret
            exact ⟨by rw [HJ6.out]; rfl, G7.out⟩
        · obtain rfl : i = m := by omega
          have HJ6 : Hid (J = 0) := by show _ = _; rw [HJ2.out, HJ3.out, ← HMN.out, List.drop_length]; rfl
          go_wp2
          go_ret
          exact ⟨by rw [HJ6.out]; rfl, HG.out⟩

/-! The words of a step. -/
def fwd (p : Int × Int) : List UInt8 := if p.1 = 0 then [108] else if p.1 = 1 then [107] else 116 :: Lib.itoa p.2
def wlt (o : Opq) (c : UInt8) : List (List UInt8) := match nvl o c with
  | some n => [Lib.itoa n]
  | none => match bvl o c with
    | some b => [hx b]
    | none => []
def stw (o : Opq) : List (List UInt8) := wrd o.k :: ((fds o.k).flatMap (wlt o) ++ o.f.map fwd)
def lsz (o : Opq) : Nat := o.key.length + o.val.length + o.hi.length + o.f.length
def lnw (ws : List (List UInt8)) : List UInt8 := Lib.join ws [32] ++ [10]
set_option maxHeartbeats 1000000 in
set_option maxRecDepth 100000 in
theorem leastSize_any (o : Opq) (ka : Option Addr) (kc : Nat) (va : Option Addr) (vc : Nat) (ha : Option Addr) (hc : Nat) (fa : Option Addr) (fc : Nat) (w : World) (h : o.key.length + o.val.length + o.hi.length + o.f.length ≤ 140737488355328) : Calls Tryz.prog 22 #[.agg #[.int .i64 o.k, .int .i64 o.a, .int .i64 o.b, .int .i64 o.c, .slice ka o.key.length kc, .slice va o.val.length vc, .slice ha o.hi.length hc, .slice fa o.f.length fc]] w fun en w' => en = .returned (.int .i64 ((lsz o : Nat) : Int)) ∧ w.grownBy w' none := by
  have G1 := hid_intro (World.grownBy_alloc w (.cells #[.int .i64 o.k, .int .i64 o.a, .int .i64 o.b, .int .i64 o.c, .slice ka o.key.length kc, .slice va o.val.length vc, .slice ha o.hi.length hc, .slice fa o.f.length fc] 35) none)
  have HE : Hid (((lsz o : Nat) : Int) = (o.key.length : Int) + (o.val.length : Int) + (o.hi.length : Int) + (o.f.length : Int)) := by show _ = _; unfold lsz; omega
  have w1 : IntKind.i64.wrap ((o.key.length : Int) + (o.val.length : Int)) = (o.key.length : Int) + (o.val.length : Int) := wrap_small _ (by omega) (by omega)
  have w2 : IntKind.i64.wrap ((o.key.length : Int) + (o.val.length : Int) + (o.hi.length : Int)) = (o.key.length : Int) + (o.val.length : Int) + (o.hi.length : Int) := wrap_small _ (by omega) (by omega)
  have w3 : IntKind.i64.wrap ((o.key.length : Int) + (o.val.length : Int) + (o.hi.length : Int) + (o.f.length : Int)) = (o.key.length : Int) + (o.val.length : Int) + (o.hi.length : Int) + (o.f.length : Int) := wrap_small _ (by omega) (by omega)
  go_enter Tryz.func22, Tryz.ntmps22
  go_wp2
  go_ret
  exact ⟨by rw [HE.out]; rfl, G1.out⟩
theorem itoa_len (n : Int) (h0 : -9223372036854775808 ≤ n) (h1 : n ≤ 9223372036854775807) : (Lib.itoa n).length ≤ 20 := by
  unfold Lib.itoa
  split
  · have := dec_len 18 n.natAbs (by omega)
    simp; omega
  · have := dec_len 18 n.toNat (by omega)
    omega
set_option maxHeartbeats 1000000 in
set_option maxRecDepth 100000 in
theorem fateWord_any (a b : Int) (w : World) (hL : Tzd w) (h0 : -9223372036854775808 ≤ b) (h1 : b ≤ 9223372036854775807) : Calls Tryz.prog 45 #[.agg #[.int .i64 a, .int .i64 b]] w fun en w' => en = .returned (.string (tstr (fwd (a, b)))) ∧ w.grownBy w' none := by
  have g1 := World.grownBy_alloc w (.cells #[.int .i64 a, .int .i64 b] 43) none
  have G1 := hid_intro g1
  unfold fwd
  by_cases ha : a = 0
  · subst ha
    rw [if_pos rfl]
    go_enter Tryz.func45, Tryz.ntmps45
    go_wp2
    go_ret
    exact ⟨rfl, G1.out⟩
  · have ga : (a == 0) = false := by rw [beq_eq_false_iff_ne]; exact ha
    rw [if_neg ha]
    by_cases hb : a = 1
    · subst hb
      rw [if_pos rfl]
      go_enter Tryz.func45, Tryz.ntmps45
      go_wp2
      go_ret
      exact ⟨rfl, G1.out⟩
    · have gb : (a == 1) = false := by rw [beq_eq_false_iff_ne]; exact hb
      rw [if_neg hb]
      have HI := hid_intro (itoa_any b h0 h1 _ (hL.keptN g1))
      have hlz := itoa_len b h0 h1
      rw [← tstr_size] at hlz
      have HC : Hid ((⟨#[116]⟩ : ByteArray) ++ tstr (Lib.itoa b) = tstr (116 :: Lib.itoa b)) := tstr_app [116] (Lib.itoa b)
      generalize tstr (116 :: Lib.itoa b) = st at *
      generalize tstr (Lib.itoa b) = si at *
      have hc := HC.out
      have hl1 : ¬ 9223372036854775807 < 1 + si.size := by omega
      clear hL h0 h1 g1 HC
      go_enter Tryz.func45, Tryz.ntmps45
      go_wp2_with fail
      refine HI.out.mono ?_
      rintro en w2 ⟨rfl, hg2⟩
      have G2 := hid_intro (grown_trans G1.out hg2)
      clear hg2
      go_wp2
      go_ret
      exact ⟨rfl, G2.out⟩
end Go.Proofs.YtcjgmiilfjjbcaaGreatDoor
