import Derived.Test.YtlfhonlifgpnhaaBase
import Derived.Test.YtlfhonlifgpnhaaKeysM
import Derived.Lib.SliceRun
import Derived.Deep.RegionLaw
namespace Go.Proofs.Ytlfhonlifgpnhaa
open Go.RowKit

set_option maxHeartbeats 400000 in
set_option maxRecDepth 100000 in
theorem bytesCompare_any (ao bo : Option Addr) (n m c d : Nat) (za zb : List Int) (w : World) (ha : Byt w ao n c za) (hb : Byt w bo m d zb) (ba : Bt za) (bb : Bt zb) :
    Calls Try.prog 88 #[.slice ao n c, .slice bo m d] w fun en w' => en = .returned (.int .i64 (cmpZ za zb)) ∧ w' = w := by
  have hr := run_compareByt (P := Try.prog) ha hb ba bb
  clear ha hb
  go_enter Try.func88, Try.ntmps88
  go_wp2
  rw [run_callFunc_extern Try.func91 (by kernel_rfl) (by kernel_rfl) (by kernel_rfl) (e := Extern.BytealgCompare.compare) (by kernel_rfl), hr]
  simp only [Result.andThen]
  rw [Oper.upon_value]
  go_wp2
  go_ret
  exact ⟨rfl, rfl⟩

set_option maxHeartbeats 400000 in
set_option maxRecDepth 100000 in
theorem compare_any (ao bo : Option Addr) (n m c d : Nat) (za zb : List Int) (w : World) (ha : Byt w ao n c za) (hb : Byt w bo m d zb) (ba : Bt za) (bb : Bt zb) :
    Calls Try.prog 78 #[.slice ao n c, .slice bo m d] w fun en w' => en = .returned (.int .i64 (cmpZ za zb)) ∧ w' = w := by
  have HA := hid_intro ha
  have HB := hid_intro hb
  clear ha hb
  go_enter Try.func78, Try.ntmps78
  go_wp2_with fail
  refine (bytesCompare_any ao bo n m c d za zb w HA.out HB.out ba bb).mono ?_
  rintro en w' ⟨rfl, rfl⟩
  go_wp2
  go_ret
  exact ⟨rfl, rfl⟩

end Go.Proofs.Ytlfhonlifgpnhaa

namespace Go.Proofs.Ytlfhonlifgpnhaa
open Go.RowKit

theorem ret_int {x y : Int} (h : x = y) : Ending.returned (Value.int IntKind.i64 x) = .returned (.int .i64 y) := by rw [h]

/-- Nothing but draws, counted. -/
def Dr (w w' : World) : Prop := ∃ q, w' = w.drewN q
theorem Dr.refl (w : World) : Dr w w := ⟨0, rfl⟩
theorem Dr.more {w w' : World} (h : Dr w w') (n : Nat) : Dr w (w'.drewN n) := by obtain ⟨q, rfl⟩ := h; exact ⟨q + n, World.drewN_drewN ..⟩
theorem Dr.trans {a b c : World} (h : Dr a b) (k : Dr b c) : Dr a c := by obtain ⟨n, rfl⟩ := k; exact h.more n
theorem Dr.qt {w w' : World} (h : Dr w w') : Qt w w' := by obtain ⟨q, rfl⟩ := h; exact Qt.drewN w q
theorem Dr.cell {w w' : World} (h : Dr w w') (a : Addr) : w'.cell? a = w.cell? a := h.qt.cell a

set_option maxHeartbeats 2000000 in
set_option maxRecDepth 100000 in
theorem common_any (ao bo : Option Addr) (n m c d : Nat) (za zb : List Int) (w : World) (ha : Byt w ao n c za) (hb : Byt w bo m d zb) (hn : n ≤ 9223372036854775807) (hm : m ≤ 9223372036854775807) :
    Calls Try.prog 73 #[.slice ao n c, .slice bo m d] w fun en w' => en = .returned (.int .i64 ((com za zb : Nat) : Int)) ∧ Dr w w' := by
  have hl1 := ha.len
  have hl2 := hb.len
  have HA := hid_intro ha
  have HB := hid_intro hb
  clear ha hb
  go_enter Try.func73, Try.ntmps73
  go_wp2
  all_goals
    go_loopw [6, 13] (fun _ si wr => ∃ i : Nat, i ≤ n ∧ i ≤ m ∧ si = .int .i64 i ∧ com (za.drop i) (zb.drop i) + i = com za zb ∧ Dr w wr) (fun _ si _ => n - (intOf si).toNat)
    case atStart => exact ⟨0, Nat.zero_le _, Nat.zero_le _, rfl, rfl, Dr.refl _⟩
    case round =>
      obtain ⟨i, hi, hj, rfl, he, hq⟩ := hrel
      have HE := hid_intro he
      have HQ := hid_intro hq
      clear he hq
      by_cases hlt : i < n ∧ i < m
      · obtain ⟨h1, h2⟩ := hlt
        obtain ⟨b1, o1, rfl, _, k1⟩ := HA.out.at (by omega)
        obtain ⟨b2, o2, rfl, _, k2⟩ := HB.out.at (by omega)
        have c1 := (HQ.out.cell _).trans (k1 i h1)
        have c2 := (HQ.out.cell _).trans (k2 i h2)
        have e1 : Hid (za.getD i 0 = zb.getD i 0 → com (za.drop i) (zb.drop i) = com (za.drop (i + 1)) (zb.drop (i + 1)) + 1) := fun h => com_on (by omega) (by omega) h
        have e2 : Hid (za.getD i 0 ≠ zb.getD i 0 → com (za.drop i) (zb.drop i) = 0) := fun h => com_off (by omega) (by omega) h
        have g1 : (i : Int) < (n : Int) := by omega
        have g2 : (i : Int) < (m : Int) := by omega
        have g0 : (0 : Int) ≤ (i : Int) := by omega
        clear k1 k2
        generalize za.getD i 0 = x at *
        generalize zb.getD i 0 = y at *
        by_cases hxy : x = y
        · subst hxy
          have E1 := hid_intro (e1.out rfl)
          clear e1 e2
          have hd : (x != x) = false := by simp
          go_wp2
          go_quiet (fail)
          go_wp2
          go_roundw
          case rel => exact ⟨i + 1, by omega, by omega, by go_num, by have := E1.out; have := HE.out; omega, HQ.out.more _⟩
          case measure => simp [intOf]; omega
        · have hd : (x != y) = true := by simpa using hxy
          go_wp2
          go_quiet (fail)
          go_wp2
          go_ret
          exact ⟨ret_int (by have := e2.out hxy; have := HE.out; omega), HQ.out.more _⟩
      · have hend := com_end (a := za) (b := zb) (i := i) (by omega)
        have hci : com za zb = i := by have := HE.out; omega
        have HC := hid_intro hci
        have hle : i = n ∨ i = m := by omega
        clear hci hend
        have hlt' : ¬ ((i : Int) < (n : Int) ∧ (i : Int) < (m : Int)) := by omega
        go_wp2
        go_ret
        exact ⟨ret_int (by have := HC.out; omega), HQ.out⟩

end Go.Proofs.Ytlfhonlifgpnhaa

namespace Go.Proofs.Ytlfhonlifgpnhaa
open Go.RowKit

theorem grown_dr {a b c : World} {row : Option Nat} (h : Dr a b) (k : b.grownBy c row) : a.grownBy c row := grown_trans (h.qt.grown row) k

theorem neg_of {x : Int} (h : ¬ 0 ≤ x) : x < 0 := by omega

/-- Where a separator ends. -/
theorem sep_room {a b : List Int} (h : cmpZ a b < 0) : com a b + 1 ≤ b.length := com_lt h

theorem ret_bool {x y : Bool} (h : x = y) : Ending.returned (Value.bool x) = .returned (.bool y) := by rw [h]

/-- A string of 1 to 255 bytes. -/
def valid (n : Nat) : Bool := decide (1 ≤ n) && decide (n ≤ 255)
/-- Not ahead of lo, and ahead of hi or hi is empty. -/
def within (k lo hi : List Int) : Bool := decide (0 ≤ cmpZ k lo) && (hi.length == 0 || decide (cmpZ k hi < 0))

set_option maxHeartbeats 400000 in
set_option maxRecDepth 100000 in
theorem valid_any (ao : Option Addr) (n c : Nat) (w : World) : Calls Try.prog 77 #[.slice ao n c] w fun en w' => en = .returned (.bool (valid n)) ∧ w' = w := by
  have HV1 : Hid (1 ≤ n → decide ((n : Int) ≤ 255) = valid n) := fun h => by unfold valid; rw [decide_eq_true h, Bool.true_and]; exact decide_eq_decide.2 (by omega)
  have HV2 : Hid (¬ 1 ≤ n → false = valid n) := fun h => by unfold valid; rw [decide_eq_false h]; rfl
  by_cases h1 : 1 ≤ n
  · go_enter Try.func77, Try.ntmps77
    go_wp2
    go_ret
    exact ⟨ret_bool (HV1.out h1), rfl⟩
  · go_enter Try.func77, Try.ntmps77
    go_wp2
    go_ret
    exact ⟨ret_bool (HV2.out h1), rfl⟩

theorem within_1 {k lo hi : List Int} (h1 : ¬ 0 ≤ cmpZ k lo) : within k lo hi = false := by unfold within; rw [decide_eq_false h1, Bool.false_and]
theorem within_2 {k lo hi : List Int} (h1 : 0 ≤ cmpZ k lo) (h2 : hi.length = 0) : within k lo hi = true := by unfold within; rw [decide_eq_true h1, h2, Bool.true_and, beq_self_eq_true, Bool.true_or]
theorem within_3 {k lo hi : List Int} (h1 : 0 ≤ cmpZ k lo) (h3 : cmpZ k hi < 0) : within k lo hi = true := by unfold within; rw [decide_eq_true h1, decide_eq_true h3, Bool.or_true, Bool.and_true]
theorem within_4 {k lo hi : List Int} (h2 : hi.length ≠ 0) (h3 : ¬ cmpZ k hi < 0) : within k lo hi = false := by unfold within; rw [decide_eq_false h3, beq_eq_false_iff_ne.2 h2, Bool.or_false, Bool.and_false]

end Go.Proofs.Ytlfhonlifgpnhaa

namespace Go.Proofs.Ytlfhonlifgpnhaa
open Go.RowKit

/-- A list of strings: each cell a slice of bytes. -/
structure Lz (w : World) (a : Option Addr) (L : List (List Int)) : Prop where
  row : ∀ i, i < L.length → ∃ b off ao n c, a = some ⟨b, off, none⟩ ∧ w.cell? ⟨b, off + i, none⟩ = some (.slice ao n c) ∧ Byt w ao n c (L.getD i []) ∧ n ≤ c ∧ c ≤ 9223372036854775807

theorem Lz.heap {w w' : World} {a : Option Addr} {L : List (List Int)} (h : Lz w a L) (e : w'.heap = w.heap) : Lz w' a L := by
  refine ⟨fun i hi => ?_⟩
  obtain ⟨b, off, ao, n, c, h1, h2, h3, h4, h5⟩ := h.row i hi
  exact ⟨b, off, ao, n, c, h1, (World.cell?_of_block (by rw [e])).trans h2, h3.heap e, h4, h5⟩
theorem Lz.keptN {w w' : World} {a : Option Addr} {L : List (List Int)} (h : Lz w a L) (hg : w.grownBy w' none) : Lz w' a L := by
  refine ⟨fun i hi => ?_⟩
  obtain ⟨b, off, ao, n, c, h1, h2, h3, h4, h5⟩ := h.row i hi
  exact ⟨b, off, ao, n, c, h1, hg.cell h2 (by simp), h3.keptN hg, h4, h5⟩
theorem Lz.tail {w : World} {b off : Nat} {z : List Int} {L : List (List Int)} (h : Lz w (some ⟨b, off, none⟩) (z :: L)) : Lz w (some ⟨b, off + 1, none⟩) L := by
  refine ⟨fun i hi => ?_⟩
  obtain ⟨b', off', ao, n, c, h1, h2, h3, h4, h5⟩ := h.row (i + 1) (by simpa using hi)
  simp only [Option.some.injEq, Addr.mk.injEq] at h1
  obtain ⟨rfl, rfl, _⟩ := h1
  exact ⟨b, off + 1, ao, n, c, rfl, by rw [show off + 1 + i = off + (i + 1) by omega]; exact h2, by simpa using h3, h4, h5⟩
theorem Lz.zero (w : World) (a : Option Addr) : Lz w a [] := ⟨fun i hi => by simp at hi⟩

theorem comAll_snoc (f : List Int) (k : Nat) (L : List (List Int)) (i : Nat) (h : i < L.length) : comAll f k (L.take (i + 1)) = min (comAll f k (L.take i)) (com f (L.getD i [])) := by
  have e : L.getD i [] = L[i] := by simp [List.getD, List.getElem?_eq_getElem h]
  unfold comAll
  rw [List.take_add_one, List.getElem?_eq_getElem h, List.foldl_append, e]
  rfl

set_option maxHeartbeats 1000000 in
set_option maxRecDepth 100000 in
/-- The step of the fold: what all so far have in common, and the next. -/
theorem step_any (B k : Nat) (ao : Option Addr) (n c : Nat) (zf : List Int) (bo : Option Addr) (m d : Nat) (zs : List Int) (w : World) (hc : w.cell? ⟨B, 0, none⟩ = some (.slice ao n c)) (hf : Byt w ao n c zf) (hk : k ≤ n) (hnc : n ≤ c) (hc2 : c ≤ 9223372036854775807) (hb : Byt w bo m d zs) (hm : m ≤ 9223372036854775807) :
    Calls Try.prog 72 #[.int .i64 k, .slice bo m d, .pointer (some ⟨B, 0, none⟩)] w fun en w' => en = .returned (.int .i64 ((min k (com zf zs) : Nat) : Int)) ∧ Dr w w' := by
  rw [← com_take]
  have HB := hid_intro hb
  clear hb
  cases ao with
  | none =>
    obtain ⟨rfl, rfl⟩ := hf.nil rfl
    obtain rfl : k = 0 := by omega
    have HF := hid_intro (hf.take 0 0 (Nat.le_refl _) (fun _ => rfl))
    clear hf
    go_enter Try.func72, Try.ntmps72
    go_wp2_with fail
    refine (common_any _ _ _ _ _ _ _ _ _ HF.out HB.out (by omega) hm).mono ?_
    rintro en w1 ⟨rfl, hq⟩
    have HQ := hid_intro hq
    clear hq
    go_wp2
    go_ret
    exact ⟨rfl, HQ.out⟩
  | some ad =>
    have HF := hid_intro (hf.take k c hk (fun e => by cases e))
    clear hf
    go_enter Try.func72, Try.ntmps72
    go_wp2_with fail
    refine (common_any _ _ _ _ _ _ _ _ _ HF.out HB.out (by omega) hm).mono ?_
    rintro en w1 ⟨rfl, hq⟩
    have HQ := hid_intro hq
    clear hq
    go_wp2
    go_ret
    exact ⟨rfl, HQ.out⟩

set_option maxHeartbeats 2000000 in
set_option maxRecDepth 100000 in
theorem fold_any (B k : Nat) (ao : Option Addr) (n c : Nat) (zf : List Int) (a : Option Addr) (cap : Nat) (L : List (List Int)) (w : World) (hc : w.cell? ⟨B, 0, none⟩ = some (.slice ao n c)) (hf : Byt w ao n c zf) (hk : k ≤ n) (hnc : n ≤ c) (hc2 : c ≤ 9223372036854775807) (hl : Lz w a L) (hL : L.length ≤ 9223372036854775807) :
    Calls Try.prog 71 #[.slice a L.length cap, .int .i64 k, .func (.func 72) #[] #[.pointer (some ⟨B, 0, none⟩)]] w fun en w' => en = .returned (.int .i64 ((comAll zf k L : Nat) : Int)) ∧ Dr w w' := by
  have HC := hid_intro hc
  have HF := hid_intro hf
  have HL := hid_intro hl
  have HE : Hid (L.take L.length = L) := List.take_length
  clear hc hf hl
  go_enter Try.func71, Try.ntmps71
  go_wp2
  go_loopw [1, 8, 11] (fun st _ si wr => ∃ i : Nat, i ≤ L.length ∧ si = .int .i64 i ∧ st = .int .i64 ((comAll zf k (L.take i) : Nat) : Int) ∧ Dr w wr) (fun _ _ si _ => L.length - (intOf si).toNat)
  case atStart => exact ⟨0, Nat.zero_le _, rfl, rfl, Dr.refl _⟩
  case round =>
    obtain ⟨i, hi, rfl, rfl, hq⟩ := hrel
    have HQ := hid_intro hq
    clear hq
    by_cases hlt : i < L.length
    · obtain ⟨b, off, bo, m, d, rfl, h2, h3, h4, h5⟩ := HL.out.row i hlt
      have c1 := (HQ.out.cell _).trans h2
      have HB := hid_intro (h3.heap HQ.out.qt.heap)
      have HS := hid_intro (comAll_snoc zf k L i hlt)
      have hle : comAll zf k (L.take i) ≤ n := Nat.le_trans (comAll_le zf _ k) hk
      have g1 : (i : Int) < (L.length : Int) := by omega
      have g0 : (0 : Int) ≤ (i : Int) := by omega
      clear h2 h3
      generalize comAll zf k (L.take i) = t at *
      go_wp2_with fail
      refine (step_any B t ao n c zf bo m d _ wr ((HQ.out.cell _).trans HC.out) (HF.out.heap HQ.out.qt.heap) hle hnc hc2 HB.out (by omega)).mono ?_
      rintro en w1 ⟨rfl, hq⟩
      rw [← HS.out]
      have HQ1 := hid_intro (HQ.out.trans hq)
      clear hq
      go_wp2
      go_roundw
      case rel => exact ⟨i + 1, by omega, by go_num, rfl, HQ1.out⟩
      case measure => simp [intOf]; omega
    · have hin : i = L.length := by omega
      subst hin
      rw [HE.out]
      go_wp2
      go_ret
      exact ⟨rfl, HQ.out⟩

/-- What all of a list have in common. -/
def comList : List (List Int) → Nat
  | [] => 0
  | z :: L => comAll z z.length L

set_option maxHeartbeats 400000 in
set_option maxRecDepth 100000 in
theorem commonAll_none (a : Option Addr) (cap : Nat) (w : World) : Calls Try.prog 42 #[.slice a 0 cap] w fun en w' => en = .returned (.int .i64 0) ∧ w' = w := by
  go_enter Try.func42, Try.ntmps42
  go_wp2
  go_ret
  exact ⟨rfl, rfl⟩

set_option maxHeartbeats 2000000 in
set_option maxRecDepth 100000 in
theorem commonAll_some (a : Option Addr) (cap : Nat) (z : List Int) (L : List (List Int)) (w : World) (hl : Lz w a (z :: L)) (hc : L.length + 1 ≤ cap) (hcap : cap ≤ 9223372036854775807) :
    Calls Try.prog 42 #[.slice a (L.length + 1) cap] w fun en w' => en = .returned (.int .i64 ((comList (z :: L) : Nat) : Int)) ∧ w.grownBy w' none := by
  have HM : Hid (comList (z :: L) = comAll z z.length L) := rfl
  obtain ⟨b, off, ao, n, c, rfl, h2, h3, h4, h5⟩ := hl.row 0 (by simp)
  have h3' : Byt w ao n c z := by simpa using h3
  have hz := h3'.len
  have HG := hid_intro (World.grownBy_alloc w (.cells #[.slice ao n c] 34) none)
  have HF := hid_intro (h3'.keptN HG.out)
  have HL := hid_intro (hl.keptN HG.out)
  have k1 : (w.alloc (.cells #[.slice ao n c] 34)).cell? ⟨w.heap.size, 0, none⟩ = some (.slice ao n c) := by
    rw [cell_of_row _ w.heap.size 0 _ _ (0, 0) (heap_alloc_new w _)]; rfl
  have HK := hid_intro k1
  rw [Nat.add_zero] at h2
  clear h3 h3' hl k1
  go_enter Try.func42, Try.ntmps42
  go_wp2
  have c1 := HK.out
  generalize w.alloc (.cells #[.slice ao n c] 34) = w1 at *
  have hmf : ∀ (fn : Fn) (first cap : Array Value) (w : World), (Instr.makeFunc fn first cap).run Try.prog w = .ok (.func fn first cap) w := fun _ _ _ _ => rfl
  by_cases hc1 : cap = 1
  · obtain rfl : L = [] := List.length_eq_zero_iff.1 (by omega)
    subst hc1
    go_quiet ((go_at_call 71; exact Calls.quiet_of (fold_any w.heap.size n ao n c z _ _ [] _ (by exact HK.out) (HF.out.heap rfl) (Nat.le_refl _) h4 h5 (Lz.zero _ _) (by simp))))
    go_wp2
    go_ret
    exact ⟨ret_int (by rw [HM.out, hz]), grown_trans HG.out ((Qt.drewN _ _).grown _)⟩
  · have hc2 : 1 < cap := by omega
    have HT := hid_intro HL.out.tail
    clear HL
    go_quiet ((go_at_call 71; exact Calls.quiet_of (fold_any w.heap.size n ao n c z _ _ L _ (by exact HK.out) (HF.out.heap rfl) (Nat.le_refl _) h4 h5 (HT.out.heap rfl) (by omega))))
    go_wp2
    go_ret
    exact ⟨ret_int (by rw [HM.out, hz]), grown_trans HG.out ((Qt.drewN _ _).grown _)⟩

end Go.Proofs.Ytlfhonlifgpnhaa
