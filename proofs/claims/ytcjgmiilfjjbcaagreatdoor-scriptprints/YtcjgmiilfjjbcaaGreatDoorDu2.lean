import Derived.Test.YtcjgmiilfjjbcaaGreatDoorDu1
import Derived.Test.YtcjgmiilfjjbcaaGreatDoorShelfD
import Derived.Laws.RangeString
import Derived.Laws.RangeAny
import Derived.Laws.Runes
import Derived.Scope
import Derived.Laws.Strings2
import Derived.Laws.Strings3
namespace Go.Proofs.YtcjgmiilfjjbcaaGreatDoor
open Go.RowKit

def Asc (s : ByteArray) : Prop := ∀ b ∈ s.data.toList, b.toNat < 128
theorem Asc.at {s : ByteArray} (h : Asc s) {i : Nat} (hi : i < s.size) : (s[i]'hi).toNat < 128 := h _ (by
  have : s[i] = s.data[i]'hi := rfl
  rw [this]
  exact Array.getElem_mem_toList (xs := s.data) hi)

set_option maxHeartbeats 1000000 in
set_option maxRecDepth 100000 in
theorem validRune_any (r : Int) (w : World) (h0 : 0 ≤ r) : Calls Tryz.prog 89 #[.int .i32 r] w fun en w' => en = .returned (.bool (validRune r)) ∧ w' = w := by
  by_cases h1 : r < 55296
  · have e : validRune r = true := decide_eq_true (.inl ⟨h0, h1⟩)
    rw [e]
    clear e
    go_enter Tryz.func89, Tryz.ntmps89
    go_wp2
    go_ret
    exact ⟨rfl, rfl⟩
  · by_cases h2 : 57343 < r ∧ r ≤ 1114111
    · have e : validRune r = true := decide_eq_true (.inr h2)
      rw [e]
      clear e
      obtain ⟨h3, h4⟩ := h2
      go_enter Tryz.func89, Tryz.ntmps89
      go_wp2
      go_ret
      exact ⟨rfl, rfl⟩
    · have e : validRune r = false := decide_eq_false (by omega)
      rw [e]
      clear e
      by_cases h3 : 57343 < r
      · have h4 : ¬ r ≤ 1114111 := by omega
        clear h2
        go_enter Tryz.func89, Tryz.ntmps89
        go_wp2
        go_ret
        exact ⟨rfl, rfl⟩
      · clear h2
        go_enter Tryz.func89, Tryz.ntmps89
        go_wp2
        go_ret
        exact ⟨rfl, rfl⟩

set_option maxHeartbeats 4000000 in
set_option maxRecDepth 100000 in
theorem indexRune_bad (s : ByteArray) (w : World) (hs : Asc s) :
    Calls Tryz.prog 70 #[.string s, .int .i32 65533] w fun en w' => en = .returned (.int .i64 (-1)) ∧ w.grownBy w' none := by
  go_enter Tryz.func70, Tryz.ntmps70
  go_wp2
  go_loopw [5, 6] (fun _ _ wr => ∃ pos : Nat, wr = w.iter s pos) (fun _ _ wr => s.size - wr.iterPos w.heap.size)
  case atStart => exact ⟨0, rfl⟩
  case round =>
    obtain ⟨pos, rfl⟩ := hrel
    by_cases hp : pos < s.size
    · have ha := hs.at hp
      have hnx : ∀ ty, (Instr.next (.pointer (some ⟨w.heap.size, 0, none⟩)) true ty).run Tryz.prog (w.iter s pos) = _ := fun ty => run_next_ascii w s pos ty hp ha
      have hne : (((s[pos]'hp).toNat : Int) == 65533) = false := by rw [beq_eq_false_iff_ne]; omega
      go_wp2
      go_roundw
      case rel => exact ⟨pos + 1, rfl⟩
      case measure => simp; omega
    · have hnx : ∀ ty, (Instr.next (.pointer (some ⟨w.heap.size, 0, none⟩)) true ty).run Tryz.prog (w.iter s pos) = _ := fun ty => run_next_end w s pos ty hp
      go_wp2
      go_ret
      exact ⟨rfl, World.grownBy_alloc w _ none⟩
set_option maxHeartbeats 4000000 in
set_option maxRecDepth 100000 in
theorem indexRune_inv (s : ByteArray) (r : Int) (w : World) (h : 128 ≤ r) (h2 : r ≠ 65533) (h3 : validRune r = false) :
    Calls Tryz.prog 70 #[.string s, .int .i32 r] w fun en w' => en = .returned (.int .i64 (-1)) ∧ w' = w := by
  have g1 : ¬ r < 128 := by omega
  have g2 : (r == 65533) = false := by rw [beq_eq_false_iff_ne]; exact h2
  have g3 : 0 ≤ r := by omega
  clear h2
  go_enter Tryz.func70, Tryz.ntmps70
  go_wp2_with fail
  refine (validRune_any r w g3).mono ?_
  rintro en w' ⟨rfl, rfl⟩
  rw [h3]
  go_wp2
  go_ret
  exact ⟨rfl, rfl⟩
theorem asc_no {s : ByteArray} (hs : Asc s) (a e : Nat) (c : UInt8) (hc : 128 ≤ c.toNat) : Lib.indexByte (s.extract a e).data.toList c = -1 := by
  have : ∀ l : List UInt8, (∀ b ∈ l, b.toNat < 128) → Lib.indexByte l c = -1 := by
    intro l
    induction l with
    | nil => intro _; rfl
    | cons x l ih =>
      intro h
      have h1 := h x List.mem_cons_self
      have h2 := ih (fun b hb => h b (List.mem_cons_of_mem _ hb))
      unfold Lib.indexByte
      rw [h2]
      have : (x == c) = false := by rw [beq_eq_false_iff_ne]; intro e; rw [e] at h1; omega
      simp [this]
  exact this _ (fun b hb => hs b (mem_extract hb))
set_option maxHeartbeats 4000000 in
set_option maxRecDepth 100000 in
theorem indexRune_val (s : ByteArray) (r : Int) (w : World) (hs : Asc s) (hz : s.size ≤ 1000) (hz4 : 4 ≤ s.size) (h : 128 ≤ r) (h2 : r ≠ 65533) (h3 : validRune r = true) :
    Calls Tryz.prog 70 #[.string s, .int .i32 r] w fun en w' => en = .returned (.int .i64 (-1)) ∧ w.grownBy w' none := by
  have g1 : ¬ r < 128 := by omega
  have g2 : (r == 65533) = false := by rw [beq_eq_false_iff_ne]; exact h2
  have g3 : 0 ≤ r := by omega
  obtain ⟨e1, e2, e3⟩ := encode_facts r (by rw [validRune_eq]; exact h3) h
  generalize hE : Utf8.encode r = E at *
  obtain ⟨k, hk⟩ : ∃ k, E.size = k + 1 := ⟨E.size - 1, by omega⟩
  have k1 : (k : Int) < (s.size : Int) := by omega
  have k2 : k < s.size := by omega
  have k3 : k < E.size := by omega
  have hc : 128 ≤ (E[k]'k3).toNat := by
    have := e3 (by omega)
    have ek : E.size - 1 = k := by omega
    simp only [ek] at this
    exact this
  have hd : ((s[k]'k2) == (E[k]'k3)) = false := by
    rw [beq_eq_false_iff_ne]; intro e; have := hs.at k2; rw [e] at this; omega
  have HC : Hid (∀ W : World, Calls Tryz.prog 88 #[.string (s.extract (k + 1) s.size), .int .u8 ((E[k]'k3).toNat : Nat)] W fun e w' => e = .returned (.int .i64 (-1)) ∧ w' = W) := by
    intro W
    refine (indexByte_call (s.extract (k + 1) s.size) ((E[k]'k3).toNat : Nat) W).mono ?_
    rintro e w' ⟨rfl, rfl⟩
    have hh := asc_no hs (k + 1) s.size (E[k]'k3) hc
    have h2 : ((((E[k]'k3).toNat : Nat) : Int).toNat.toUInt8) = (E[k]'k3) := by simp
    rw [h2, hh]
    exact ⟨rfl, rfl⟩
  clear h2 e3
  go_enter Tryz.func70, Tryz.ntmps70
  go_wp2_with fail
  refine (validRune_any r w g3).mono ?_
  rintro en w ⟨rfl, rfl⟩
  rw [h3]
  go_wp2
  go_step3
  have hE1 : ((E.size : Nat) : Int) - 1 = (k : Int) := by omega
  go_wp2
  go_loopw [9, 10, 11, 12] (fun a b _ _ wr => a = .int .i64 (k : Nat) ∧ b = .int .i64 0 ∧ wr = w) (fun _ _ _ _ _ => 0)
  case atStart => exact ⟨rfl, rfl, rfl⟩
  case round =>
    obtain ⟨rfl, rfl, rfl⟩ := hrel
    go_wp2
    go_step3
    have hsk := hs.at k2
    have n1 : (((s[k]'k2).toNat : Int) == ((E[k]'k3).toNat : Int)) = false := by rw [beq_eq_false_iff_ne]; omega
    have n2 : ((s[k]'k2).toNat == (E[k]'k3).toNat) = false := by rw [beq_eq_false_iff_ne]; omega
    have n3 : (((s[k]'k2).toNat : Int) != ((E[k]'k3).toNat : Int)) = true := by simp only [bne, n1]; rfl
    have n4 : IntKind.i64.wrap ((k : Int) + 1) = (k : Int) + 1 := wrap_small _ (by omega) (by omega)
    have k4 : (k : Int) + 1 ≤ (s.size : Int) := by omega
    have k5 : k + 1 ≤ s.size := by omega
    have k6 : (k : Int) < (E.size : Int) := by omega
    have k7 : (0 : Int) ≤ (k : Int) + 1 := by omega
    have k8 : ((k : Int) + 1).toNat = k + 1 := by omega
    go_wp2
    clear hk hE1
    go_quiet (fail)
    go_upto_region 7 with fail
    generalize hw1 : wr.drewN _ = w1
    have HQ : Hid (Qt wr w1) := by rw [← hw1]; exact Qt.drewN _ _
    clear hw1
    go_quiet ((go_at_call 88; exact Calls.quiet_of_same (HC.out _)))
    go_wp2
    rw [Exit.noGoto_ret]
    go_wp2
    rw [Exit.noGoto_ret]
    go_wp2
    go_ret
    exact ⟨rfl, (HQ.out.trans (Qt.drewN _ _)).grown none⟩
/-- Where a rune stands in a text of ASCII; -1: nowhere. -/
def ixr (s : ByteArray) (r : Int) : Int := if r < 128 then Lib.indexByte s.data.toList r.toNat.toUInt8 else -1
theorem indexRune_any (s : ByteArray) (r : Int) (w : World) (hs : Asc s) (hz : s.size ≤ 1000) (hz4 : 4 ≤ s.size) (h : 0 ≤ r) :
    Calls Tryz.prog 70 #[.string s, .int .i32 r] w fun en w' => en = .returned (.int .i64 (ixr s r)) ∧ w.grownBy w' none := by
  unfold ixr
  by_cases h1 : r < 128
  · rw [if_pos h1]
    refine (indexRune_call s r w h h1).mono ?_
    rintro en w' ⟨rfl, rfl⟩
    exact ⟨rfl, World.grownBy.refl _ _⟩
  · rw [if_neg h1]
    by_cases h2 : r = 65533
    · subst h2; exact indexRune_bad s w hs
    · cases h3 : validRune r with
      | false =>
        refine (indexRune_inv s r w (by omega) h2 h3).mono ?_
        rintro en w' ⟨rfl, rfl⟩
        exact ⟨rfl, World.grownBy.refl _ _⟩
      | true => exact indexRune_val s r w hs hz hz4 (by omega) h2 h3
theorem digs_asc : Asc digs := by
  intro b hb
  have : b ∈ [48, 49, 50, 51, 52, 53, 54, 55, 56, 57, 97, 98, 99, 100, 101, 102] := hb
  revert b
  decide
theorem ixr_digs (r : Nat) (h : r < 128) : ixr digs (r : Nat) = vdg (UInt8.ofNat r) := by
  have : ∀ r : Fin 128, ixr digs (r.1 : Nat) = vdg (UInt8.ofNat r.1) := by decide +kernel
  exact this ⟨r, h⟩
def decs : ByteArray := ⟨#[48, 49, 50, 51, 52, 53, 54, 55, 56, 57]⟩
theorem decs_asc : Asc decs := by
  intro b hb
  have : b ∈ [48, 49, 50, 51, 52, 53, 54, 55, 56, 57] := hb
  revert b
  decide
theorem ixr_decs (r : Nat) (h : r < 128) : ixr decs (r : Nat) = if dig (UInt8.ofNat r) = true then (r : Int) - 48 else -1 := by
  have : ∀ r : Fin 128, ixr decs (r.1 : Nat) = if dig (UInt8.ofNat r.1) = true then (r.1 : Int) - 48 else -1 := by decide +kernel
  exact this ⟨r, h⟩
end Go.Proofs.YtcjgmiilfjjbcaaGreatDoor
