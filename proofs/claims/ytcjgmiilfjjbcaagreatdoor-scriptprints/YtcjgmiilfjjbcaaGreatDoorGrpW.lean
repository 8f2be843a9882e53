import Derived.Test.YtcjgmiilfjjbcaaGreatDoorGrpV
import Derived.BigQuiet
import Derived.Test.YtcjgmiilfjjbcaaGreatDoorGrpU
import Derived.Test.YtcjgmiilfjjbcaaGreatDoorSrL
import Derived.Laws.BitsAllLaws
namespace Go.Proofs.YtcjgmiilfjjbcaaGreatDoor
open Go.RowKit

set_option maxHeartbeats 8000000 in
set_option maxRecDepth 100000 in
theorem stays23 (B M mc n : Nat) (cur : Array Value) (bd : Nat → Nat) (ao : Option Addr) (cap : Nat) (l : List Opq) (w : World) (hN : Lnt w B M mc cur bd l n) (hR : OpsR w ao l) (hl : l.length = n) (hF : FitP l) :
    Calls Tryz.prog 15 #[.slice (some ⟨M, 0, none⟩) n mc, .slice ao n cap] w fun en w' => en = .returned (.bool true) ∧ w.grownBy w' none := by
  have hn : n ≤ 3000 := by have := hF.len; omega
  have hS := sameOps_any (some ⟨M, 0, none⟩) ao mc cap l l w (hN.opsR hl hR.bts) hR hF.fnw23 (by omega)
  rw [hl] at hS
  have HS := hid_intro hS
  have HN := hid_intro hN
  have HL := hid_intro hl
  have hFE := hF.el
  have HFE := hid_intro hFE
  have hc1 : n + 1 ≤ mc := by have := hN.cap; omega
  have hc2 := hN.top
  clear hS hN hF hR hFE
  go_enter Tryz.func15, Tryz.ntmps15
  go_wp2_with fail
  refine HS.out.mono ?_
  rintro en w1 ⟨b, rfl, hb, hg1⟩
  obtain rfl : b = true := hb.2 trivial
  have G1 := hid_intro hg1
  have N1 := hid_intro (HN.out.keptN hg1)
  clear hb hg1
  have xm : w1.cell? ⟨M, n * 8, none⟩ = some (.int .i64 201) := cell_heapS N1.out.row (by have := N1.out.mark; rw [HL.out] at this; exact this)
  have e1 : (n : Int) + 1 ≤ (mc : Int) := by omega
  have e2 : (0 : Int) ≤ (n : Int) + 1 := by omega
  have e3 : (n : Int) < (n : Int) + 1 := by omega
  have e4 : (0 : Int) ≤ (n : Int) := by omega
  have wn : IntKind.i64.wrap ((n : Int) + 1) = (n : Int) + 1 := wrap_small _ (by omega) (by omega)
  have t1 : ((n : Int) + 1).toNat = n + 1 := by omega
  go_wp2_with fail
  go_loopw [5, 6, 7, 8, 9] (fun s5 si _ _ _ wr => ∃ (k : Nat), k ≤ n ∧ s5 = .bool true ∧ si = .int .i64 (k : Int) ∧ w1.grownBy wr none) (fun _ si _ _ _ _ => n - (intOf si).toNat)
  case atStart => exact ⟨0, Nat.zero_le _, rfl, rfl, World.grownBy.refl _ _⟩
  case round =>
    obtain ⟨k, hk, rfl, rfl, hg⟩ := hrel
    have HG := hid_intro hg
    have N2 := hid_intro (N1.out.keptN hg)
    clear hg
    by_cases hlt : k < n
    · have hlt' : (k : Int) < (n : Int) := by omega
      have hk0 : (0 : Int) ≤ (k : Int) := by omega
      have wk : IntKind.i64.wrap ((k : Int) + 1) = (k : Int) + 1 := wrap_small _ (by omega) (by omega)
      obtain ⟨o, ho⟩ : ∃ o, l[k]? = some o := ⟨_, List.getElem?_eq_getElem (by have := HL.out; omega)⟩
      obtain ⟨g1, c1, g2, c2, g3, c3, g4, c4, q⟩ := N2.out.el k o hlt ho
      obtain ⟨b1, b2, b3, b4⟩ := HFE.out o (List.mem_of_getElem? ho)
      have Q := hid_intro q
      have d4 : wr.cell? ⟨M, k * 8 + 4, none⟩ = _ := cell_heapS N2.out.row q.k1
      clear q
      go_wp2_with fail
      refine (mark23 g1 _ c1 o.key wr Q.out.o1 rfl).mono ?_
      rintro en w2 ⟨rfl, hg2⟩
      have G2 := hid_intro hg2
      have d5 : w2.cell? ⟨M, k * 8 + 5, none⟩ = _ := cell_keptS (cell_heapS N2.out.row Q.out.k2) hg2
      clear hg2
      go_wp2_with fail
      refine (mark23 g2 _ c2 o.val w2 (Q.out.o2.keptN G2.out) rfl).mono ?_
      rintro en w3 ⟨rfl, hg3⟩
      have G3 := hid_intro (grown_trans G2.out hg3)
      have d6 : w3.cell? ⟨M, k * 8 + 6, none⟩ = _ := cell_keptS (cell_heapS N2.out.row Q.out.k3) G3.out
      clear hg3
      go_wp2_with fail
      refine (mark23 g3 _ c3 o.hi w3 (Q.out.o3.keptN G3.out) rfl).mono ?_
      rintro en w4 ⟨rfl, hg4⟩
      have G4 := hid_intro (grown_trans G3.out hg4)
      have d7 : w4.cell? ⟨M, k * 8 + 7, none⟩ = _ := cell_keptS (cell_heapS N2.out.row Q.out.k4) G4.out
      obtain ⟨f1, f2, f3⟩ := Q.out.fate
      have fm := cell_keptS f1 G4.out
      have G5 := hid_intro (grown_trans HG.out G4.out)
      clear hg4
      obtain ⟨fn, hfn⟩ : ∃ n, o.f.length = n := ⟨_, rfl⟩
      rw [hfn] at fm d7 f2 b4
      have i1 : (fn : Int) + 1 ≤ (c4 : Int) := by omega
      have i2 : (0 : Int) ≤ (fn : Int) + 1 := by omega
      have i3 : (fn : Int) < (fn : Int) + 1 := by omega
      have i4 : (0 : Int) ≤ (fn : Int) := by omega
      have wf : IntKind.i64.wrap ((fn : Int) + 1) = (fn : Int) + 1 := wrap_small _ (by omega) (by omega)
      have t2 : ((fn : Int) + 1).toNat = fn + 1 := by omega
      go_upto_region 8 with fail
      go_quiet (fail)
      go_wp2
      go_roundw
      case rel => exact ⟨k + 1, by omega, by go_num, by go_num, grown_trans G5.out ((Qt.drewN _ _).grown _)⟩
      case measure => simp [intOf]; omega
    · obtain rfl : k = n := by omega
      go_wp2
      go_ret
      exact ⟨rfl, grown_trans G1.out HG.out⟩
end Go.Proofs.YtcjgmiilfjjbcaaGreatDoor

namespace Go.Proofs.YtcjgmiilfjjbcaaGreatDoor
open Go.RowKit

/-- What Print hands back: the text and the error's number. -/
def prv : Except Int (List UInt8) → List UInt8 × Int
  | .ok t => (t, 0)
  | .error e => ([], e)
theorem PrP.val {w w' : World} {r : Except Int (List UInt8)} {en : Ending} (h : PrP w r en w') : en = .returned (.tuple #[.string (tstr (prv r).1), .int .i64 (prv r).2]) ∧ w.grownBy w' none := by
  obtain ⟨hg, h⟩ := h
  rcases h with ⟨t, h1, h2⟩ | ⟨e, h1, h2, h3⟩
  · subst h1; exact ⟨h2, hg⟩
  · subst h1; exact ⟨h3, hg⟩
theorem FitP.szs23 {l : List Opq} (h : FitP l) : ∀ o ∈ l, lsz o ≤ 140737488355328 := fun o ho => by
  obtain ⟨h1, h2, h3, h4⟩ := h.el o ho
  unfold lsz
  omega
set_option maxHeartbeats 8000000 in
set_option maxRecDepth 100000 in
theorem prints23 (x : Int) (l : List Opq) (ao : Option Addr) (n cap : Nat) (w : World) (hL : Lv w) (hR : OpsR w ao l) (hl : l.length = n) (hF : FitP l) : Calls Tryz.prog 6 #[.agg #[.int .i64 x, .slice ao n cap]] w fun en w' => en = .returned (.bool true) ∧ w.grownBy w' none := by
  have HL : Hid (Lv w) := hL
  have HR := hid_intro hR
  have HN := hid_intro hl
  have HF := hid_intro hF
  have HBT := hid_intro hR.bts
  have hn : n ≤ 3000 := by have := hF.len; omega
  have g1 := World.grownBy_alloc w (.cells #[.int .i64 x, .slice ao n cap] 24) none
  have X1 := hid_intro (heap_at0S w #[.int .i64 x, .slice ao n cap] 24)
  have G1 := hid_intro g1
  clear hL hR hl hF g1
  go_enter Tryz.func6, Tryz.ntmps6
  go_upto_region 1 with fail
  generalize w.alloc (.cells #[.int .i64 x, .slice ao n cap] 24) = w1 at *
  generalize w.heap.size = S0 at *
  have c0 := cell_heapS (i := 0) X1.out rfl
  have c1 := cell_heapS (i := 1) X1.out rfl
  go_wp2_with fail
  refine (lent23 ao n cap l w1 (HR.out.keptN G1.out) HN.out HF.out).mono ?_
  rintro en w2 ⟨M, mc, cur, bd, rfl, hg2, hN2⟩
  have N2 := hid_intro hN2
  have X2 := hid_intro (heap_keptS X1.out hg2)
  have G2 := hid_intro (grown_trans G1.out hg2)
  clear hg2 hN2 c0 c1 X1 G1
  have c0 := cell_heapS (i := 0) X2.out rfl
  have c1 := cell_heapS (i := 1) X2.out rfl
  go_wp2_with fail
  have hP := print_any x l (some ⟨M, 0, none⟩) mc w2 (HL.out.keptN G2.out) (N2.out.opsR HN.out HBT.out) HF.out.fnw23 HF.out.szs23 (by have := HN.out; omega)
  rw [HN.out] at hP
  refine hP.mono ?_
  clear hP
  intro en w3 hp3
  obtain ⟨rfl, hg3⟩ := hp3.val
  have N3 := hid_intro (N2.out.keptN hg3)
  have X3 := hid_intro (heap_keptS X2.out hg3)
  have G3 := hid_intro (grown_trans G2.out hg3)
  clear hg3 hp3 c0 c1 X2 G2 N2
  have c0 := cell_heapS (i := 0) X3.out rfl
  have c1 := cell_heapS (i := 1) X3.out rfl
  go_wp2_with fail
  refine (refPrint23 x l ao n cap w3 (HR.out.keptN G3.out) HN.out HF.out).mono ?_
  intro en w4 hp4
  obtain ⟨rfl, hg4⟩ := hp4.val
  have N4 := hid_intro (N3.out.keptN hg4)
  have X4 := hid_intro (heap_keptS X3.out hg4)
  have G4 := hid_intro (grown_trans G3.out hg4)
  clear hg4 hp4 c0 c1 X3 G3 N3
  have c0 := cell_heapS (i := 0) X4.out rfl
  have c1 := cell_heapS (i := 1) X4.out rfl
  go_wp2_with fail
  refine (stays23 _ M mc n cur bd ao cap l w4 N4.out (HR.out.keptN G4.out) HN.out HF.out).mono ?_
  rintro en w5 ⟨rfl, hg5⟩
  have G5 := hid_intro (grown_trans G4.out hg5)
  generalize tstr (prv (prt x l)).1 = tt at *
  generalize (prv (prt x l)).2 = ee at *
  go_wp2_with (go_at_call 11; refine (num23_any _ _).mono ?_; rintro en wz ⟨rfl, rfl⟩)
  go_wp2
  go_ret
  exact ⟨rfl, G5.out⟩
end Go.Proofs.YtcjgmiilfjjbcaaGreatDoor

namespace Go.Proofs.YtcjgmiilfjjbcaaGreatDoor
open Go.RowKit

theorem xor_byte23 {z x : Int} (hz : 0 ≤ z ∧ z ≤ 255) (hx : 0 ≤ x ∧ x ≤ 255) : 0 ≤ bits .xor .u8 z x ∧ bits .xor .u8 z x ≤ 255 := by
  have e := u8_xor z x hz.1 (by omega) hx.1 (by omega)
  have hlt := Nat.xor_lt_two_pow (x := z.toNat) (y := x.toNat) (n := 8) (by omega) (by omega)
  rw [e]
  omega
theorem wrap_u8_23 {z : Int} (h : 0 ≤ z ∧ z ≤ 255) : IntKind.u8.wrap z = z := by
  simp [IntKind.wrap, IntKind.signed, IntKind.bits]
  omega
theorem Bt.set23 {zs : List Int} (h : Bt zs) (j : Nat) (z : Int) (hz : 0 ≤ z ∧ z ≤ 255) : Bt (zs.set j z) := by
  intro y hy
  rcases List.mem_or_eq_of_mem_set hy with h1 | h1
  · exact h y h1
  · subst h1; exact hz
theorem placeN23 (x : Int) (n : Nat) (h : 0 < n) : ∃ (k : Nat) (y : Int), k < n ∧ Int.tmod x (n : Int) = y ∧ -(n : Int) < y ∧ y < (n : Int) ∧ Int.tmod (y + (n : Int)) (n : Int) = (k : Int) := by
  have h1 := Int.tmod_lt_of_pos x (show (0 : Int) < (n : Int) by omega)
  have h2 := Int.lt_tmod_of_pos x (show (0 : Int) < (n : Int) by omega)
  have h3 := Int.emod_nonneg (Int.tmod x n + n) (show (n : Int) ≠ 0 by omega)
  have h4 := Int.emod_lt_of_pos (Int.tmod x n + n) (show (0 : Int) < (n : Int) by omega)
  refine ⟨((Int.tmod x n + n) % n).toNat, _, by omega, rfl, h2, h1, ?_⟩
  rw [Int.tmod_eq_emod_of_nonneg (by omega)]
  omega
theorem Lnt.bd_le {w : World} {B M mc n : Nat} {cur : Array Value} {bd : Nat → Nat} {l : List Opq} (h : Lnt w B M mc cur bd l n) : ∀ {a b : Nat}, a ≤ b → b ≤ n → bd a ≤ bd b := by
  intro a b hab
  induction b with
  | zero => intro _; obtain rfl : a = 0 := by omega
            exact Nat.le_refl _
  | succ b ih =>
    intro hb
    by_cases e : a = b + 1
    · subst e; exact Nat.le_refl _
    · exact Nat.le_trans (ih (by omega) (by omega)) (h.mono b (by omega))
/-- A step's number changed, in the row. -/
theorem Lnt.setA {w : World} {B M mc n j : Nat} {cur : Array Value} {bd : Nat → Nat} {l : List Opq} {o : Opq} (h : Lnt w B M mc cur bd l n) (ho : l[j]? = some o) (v : Int) :
    Lnt (w.setCell ⟨M, j * 8 + 1, none⟩ (.int .i64 v)) B M mc (cur.setIfInBounds (j * 8 + 1) (.int .i64 v)) bd (l.set j { o with a := v }) n := by
  have hj := (List.getElem?_eq_some_iff.1 ho).1
  have hg := grown_cell w M (j * 8 + 1) (.int .i64 v)
  have hs := h.size
  have hc := h.cap
  refine ⟨heap_setCell_same w M _ _ _ _ h.row, by simpa using hs, by simpa using hc, h.top, fun i o' hi => ?_, ?_, fun i o' hik hi => ?_, h.mono, h.lo, Nat.le_trans h.hi hg.size, h.new⟩
  · by_cases e : j = i
    · subst e
      rw [List.getElem?_set_self hj] at hi
      obtain rfl := Option.some.inj hi
      obtain ⟨i1, i2, i3, i4⟩ := h.ints j o ho
      exact ⟨(Array.getElem?_setIfInBounds_ne (by omega)).trans i1, Array.getElem?_setIfInBounds_self_of_lt (by omega), (Array.getElem?_setIfInBounds_ne (by omega)).trans i3, (Array.getElem?_setIfInBounds_ne (by omega)).trans i4⟩
    · rw [List.getElem?_set_ne e] at hi
      obtain ⟨i1, i2, i3, i4⟩ := h.ints i o' hi
      exact ⟨(Array.getElem?_setIfInBounds_ne (by omega)).trans i1, (Array.getElem?_setIfInBounds_ne (by omega)).trans i2, (Array.getElem?_setIfInBounds_ne (by omega)).trans i3, (Array.getElem?_setIfInBounds_ne (by omega)).trans i4⟩
  · rw [List.length_set]
    exact (Array.getElem?_setIfInBounds_ne (by omega)).trans h.mark
  · have hcur : ∀ q, i * 8 + 4 ≤ q → q < i * 8 + 8 → (cur.setIfInBounds (j * 8 + 1) (.int .i64 v))[q]? = cur[q]? := fun q _ _ => Array.getElem?_setIfInBounds_ne (by omega)
    by_cases e : j = i
    · subst e
      rw [List.getElem?_set_self hj] at hi
      obtain rfl := Option.some.inj hi
      obtain ⟨g1, c1, g2, c2, g3, c3, g4, c4, q⟩ := (h.el j o hik ho).kept h.row hg hcur
      exact ⟨g1, c1, g2, c2, g3, c3, g4, c4, q.k1, q.k2, q.k3, q.k4, q.o1, q.o2, q.o3, q.o4, q.b1, q.b2, q.b3, q.b4⟩
    · rw [List.getElem?_set_ne e] at hi
      exact (h.el i o' hik hi).kept h.row hg hcur
theorem LnO.keptU {w w' : World} {cur cs : Array Value} {p lo hi G : Nat} {o : Opq} (h : LnO w cur p lo hi o) (k : w.heap[G]? = some (.cells cs 5 (0, 0))) (hg : w.grownBy w' (some G)) (hc : G < lo ∨ hi ≤ G) : LnO w' cur p lo hi o := by
  obtain ⟨g1, c1, g2, c2, g3, c3, g4, c4, q⟩ := h
  have b1 := q.b1
  have b2 := q.b2
  have b3 := q.b3
  have b4 := q.b4
  exact ⟨g1, c1, g2, c2, g3, c3, g4, c4, q.k1, q.k2, q.k3, q.k4,
    q.o1.kept hg (fun e => by have := Option.some.inj e; omega), q.o2.kept hg (fun e => by have := Option.some.inj e; omega), q.o3.kept hg (fun e => by have := Option.some.inj e; omega), OpI.own q.o4 k (by decide) hg, q.b1, q.b2, q.b3, q.b4⟩
/-- A byte of a step's key changed. -/
theorem Lnt.setK {w : World} {B M mc n j g1 c1 g2 c2 g3 c3 g4 c4 : Nat} {cur : Array Value} {bd : Nat → Nat} {l : List Opq} {o : Opq} (h : Lnt w B M mc cur bd l n) (hl : l.length = n) (ho : l[j]? = some o) (q : LnQ w cur (j * 8) (bd j) (bd (j + 1)) o g1 c1 g2 c2 g3 c3 g4 c4) (v : Int) (hk : 0 < o.key.length) :
    Lnt (w.setCell ⟨g1, 0, none⟩ (.int .u8 v)) B M mc cur bd (l.set j { o with key := o.key.set 0 v }) n := by
  have hj := (List.getElem?_eq_some_iff.1 ho).1
  have hg := grown_cell w g1 0 (.int .u8 v)
  have hM := q.o1.neM h.row
  obtain ⟨cs, hcs, _⟩ := q.o1.ex
  have b1 := q.b1
  have b2 := q.b2
  have b3 := q.b3
  have b4 := q.b4
  refine ⟨(hg.block M (Array.getElem?_eq_some_iff.1 h.row).1 (fun e => hM (Option.some.inj e).symm)).trans h.row, h.size, by simpa using h.cap, h.top, fun i o' hi => ?_, by rw [List.length_set]; exact h.mark, fun i o' hik hi => ?_, h.mono, h.lo, Nat.le_trans h.hi hg.size, h.new⟩
  · by_cases e : j = i
    · subst e
      rw [List.getElem?_set_self hj] at hi
      obtain rfl := Option.some.inj hi
      exact h.ints j o ho
    · rw [List.getElem?_set_ne e] at hi
      exact h.ints i o' hi
  · by_cases e : j = i
    · subst e
      rw [List.getElem?_set_self hj] at hi
      obtain rfl := Option.some.inj hi
      have o1 := q.o1.set 0 v (by simp)
      rw [List.set_append_left _ _ hk] at o1
      exact ⟨g1, c1, g2, c2, g3, c3, g4, c4, by rw [q.k1, List.length_set], q.k2, q.k3, q.k4, o1, q.o2.kept hg (fun e => by have := Option.some.inj e; omega), q.o3.kept hg (fun e => by have := Option.some.inj e; omega), OpI.own q.o4 hcs (by decide) hg, b1, b2, b3, b4⟩
    · rw [List.getElem?_set_ne e] at hi
      refine (h.el i o' hik hi).keptU hcs hg ?_
      rcases Nat.lt_or_gt_of_ne e with hlt | hlt
      · exact .inl (Nat.lt_of_lt_of_le (by omega : g1 < bd (j + 1)) (h.bd_le (by omega) (by omega)))
      · exact .inr (Nat.le_trans (h.bd_le (show i + 1 ≤ j by omega) (by omega)) b1)
theorem FitP.set23 {l : List Opq} {o o' : Opq} {j : Nat} (h : FitP l) (ho : l[j]? = some o) (h1 : o'.key.length = o.key.length) (h2 : o'.val = o.val) (h3 : o'.hi = o.hi) (h4 : o'.f = o.f) : FitP (l.set j o') := by
  refine ⟨by rw [List.length_set]; exact h.len, fun x hx => ?_⟩
  rcases List.mem_or_eq_of_mem_set hx with hm | hm
  · exact h.el x hm
  · subst hm
    rw [h1, h2, h3, h4]
    exact h.el o (List.mem_of_getElem? ho)
theorem Bts.set23 {l : List Opq} {o' : Opq} {j : Nat} (h : Bts l) (h1 : Bt o'.key ∧ Bt o'.val ∧ Bt o'.hi) : Bts (l.set j o') := fun i x hx => by
  by_cases e : j = i
  · subst e
    have hj : j < l.length := by have := (List.getElem?_eq_some_iff.1 hx).1; simpa using this
    rw [List.getElem?_set_self hj] at hx
    obtain rfl := Option.some.inj hx
    exact h1
  · rw [List.getElem?_set_ne e] at hx
    exact h i x hx
end Go.Proofs.YtcjgmiilfjjbcaaGreatDoor
