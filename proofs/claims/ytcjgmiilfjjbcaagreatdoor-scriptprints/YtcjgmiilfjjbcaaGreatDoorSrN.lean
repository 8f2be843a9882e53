import Derived.Test.YtcjgmiilfjjbcaaGreatDoorSrL
namespace Go.Proofs.YtcjgmiilfjjbcaaGreatDoor
open Go.RowKit

def wds22 : List (List UInt8) := (stT.drop 1).map (·.1)
theorem wds22_len : wds22.length = 22 := rfl
set_option maxHeartbeats 4000000 in
set_option maxRecDepth 100000 in
theorem refWord23_any (k : Int) (w : World) : Calls Tryz.prog 49 #[.int .i64 k] w fun en w' => en = .returned (.string (tstr (wrd k))) ∧ w.grownBy w' none := by
  have HW : Hid (∀ i : Nat, i < 22 → wrd ((i : Int) + 1) = wds22.getD i []) := fun i hi => by
    have : ∀ i : Fin 22, wrd ((i.1 : Int) + 1) = wds22.getD i.1 [] := by decide
    exact this ⟨i, hi⟩
  have HC : Hid (∀ (W : World) (i : Nat), i < 22 → (W.alloc (.cells (wds22.map fun T => Value.string (tstr T)).toArray 9)).cell? ⟨W.heap.size, i, none⟩ = some (.string (tstr (wds22.getD i [])))) := fun W i hi => by
    apply cell_heapS (heap_at0S W _ _)
    have hl : i < wds22.length := by rw [wds22_len]; exact hi
    simp [List.getD, List.getElem?_eq_getElem hl]
  have G1 := hid_intro (World.grownBy_alloc w (.cells (wds22.map fun T => Value.string (tstr T)).toArray 9) none)
  by_cases h0 : k < 1
  · have e : wrd k = [] := by
      unfold wrd
      split
      · rename_i h
        have : k = 0 := by omega
        subst this
        rfl
      · rfl
    rw [e]
    clear e HW HC
    go_enter Tryz.func49, Tryz.ntmps49
    go_wp2
    go_ret
    exact ⟨rfl, G1.out⟩
  · by_cases h1 : 22 < k
    · have e : wrd k = [] := by unfold wrd; rw [if_neg (by omega)]
      rw [e]
      clear e HW HC
      go_enter Tryz.func49, Tryz.ntmps49
      go_wp2
      go_ret
      exact ⟨rfl, G1.out⟩
    · obtain ⟨i, rfl⟩ : ∃ i : Nat, k = (i : Int) + 1 := ⟨(k - 1).toNat, by omega⟩
      have hi : i < 22 := by omega
      rw [HW.out i hi]
      have c0 := HC.out w i hi
      have hiz : (i : Int) < 22 := by omega
      have hiz0 : (0 : Int) ≤ (i : Int) := by omega
      have hsub : (i : Int) + 1 - 1 = (i : Int) := by omega
      have hww : IntKind.i64.wrap ((i : Int) + 1 - 1) = (i : Int) := by rw [hsub]; exact wrap_small _ (by omega) (by omega)
      clear HW HC
      go_enter Tryz.func49, Tryz.ntmps49
      have heq : (wds22.map fun T => Value.string (tstr T)).toArray = #[.string ⟨#[102, 111, 114, 109, 97, 116]⟩, .string ⟨#[111, 112, 101, 110]⟩, .string ⟨#[112, 117, 116]⟩, .string ⟨#[100, 101, 108, 101, 116, 101]⟩, .string ⟨#[103, 101, 116]⟩, .string ⟨#[115, 99, 97, 110]⟩, .string ⟨#[99, 111, 109, 109, 105, 116]⟩, .string ⟨#[114, 111, 108, 108, 98, 97, 99, 107]⟩, .string ⟨#[118, 105, 101, 119]⟩, .string ⟨#[114, 101, 97, 100]⟩, .string ⟨#[114, 97, 110, 103, 101]⟩, .string ⟨#[110, 116, 104]⟩, .string ⟨#[114, 97, 110, 107]⟩, .string ⟨#[99, 108, 111, 115, 101]⟩, .string ⟨#[97, 114, 109]⟩, .string ⟨#[99, 114, 97, 115, 104]⟩, .string ⟨#[114, 111, 116]⟩, .string ⟨#[99, 104, 101, 99, 107]⟩, .string ⟨#[104, 97, 110, 100, 115]⟩, .string ⟨#[115, 116, 97, 116, 101]⟩, .string ⟨#[100, 117, 109, 112]⟩, .string ⟨#[99, 111, 109, 112, 97, 99, 116]⟩] := rfl
      rw [heq] at c0 G1
      clear heq
      go_wp2
      go_ret
      exact ⟨rfl, G1.out⟩
end Go.Proofs.YtcjgmiilfjjbcaaGreatDoor
