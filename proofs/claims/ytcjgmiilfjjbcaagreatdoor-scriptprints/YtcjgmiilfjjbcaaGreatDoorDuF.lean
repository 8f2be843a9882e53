import Derived.Test.YtcjgmiilfjjbcaaGreatDoorGrpD
namespace Go.Proofs.YtcjgmiilfjjbcaaGreatDoor
open Go.RowKit

theorem same20 (ao bo : Option Addr) (n m c d : Nat) (za zb : List Int) (w : World) (ha : Byt w ao n c za) (hb : Byt w bo m d zb) (ba : Bt za) (bb : Bt zb) :
    Calls Tryz.prog 63 #[.slice ao n c, .slice bo m d] w fun en w' => en = .returned (.bool (decide (za = zb))) ∧ w' = w := by
  by_cases e : za = zb
  · rw [decide_eq_true e]; exact same_yes ao bo n m c d za zb w ha hb e
  · rw [decide_eq_false e]; exact same_no ao bo n m c d za zb w ha hb ba bb e
/-- How long two lists are the same. -/
theorem same_drop {l m : List Pq} {i : Nat} {p q : Pq} (hp : l[i]? = some p) (hq : m[i]? = some q) (hl : l.length = m.length) (h : l.take i = m.take i) : (l = m ↔ p = q ∧ l.drop (i + 1) = m.drop (i + 1)) := by
  obtain ⟨h1, e1⟩ := List.getElem?_eq_some_iff.1 hp
  obtain ⟨h2, e2⟩ := List.getElem?_eq_some_iff.1 hq
  constructor
  · intro e
    subst e
    rw [hp] at hq
    exact ⟨Option.some.inj hq, rfl⟩
  · rintro ⟨e3, e4⟩
    have a := List.take_append_drop i l
    have b := List.take_append_drop i m
    rw [List.drop_eq_getElem_cons h1, e1] at a
    rw [List.drop_eq_getElem_cons h2, e2] at b
    rw [← a, ← b, h, e3, e4]
/-! ### The chapter's examples -/
def exl : List Pq := [([97], [1]), ([98], [])]
theorem dec2 : Lib.decDigits 2 = [50] := by rw [dec_small (by decide)]; rfl
theorem ex_txt : txt exl = [99, 111, 112, 112, 105, 99, 101, 32, 50, 10, 54, 49, 32, 48, 49, 10, 54, 50, 32, 45, 10] := by
  have hj : jdg [] exl = 0 := by decide
  unfold txt
  rw [if_pos hj]
  show (ttl ++ Lib.decDigits 2) ++ 10 :: exl.flatMap lne = _
  rw [dec2]; decide
theorem ex_jdg : jdg [] exl = 0 := by decide
theorem ex_prs : prs [99, 111, 112, 112, 105, 99, 101, 32, 50, 10, 54, 49, 32, 48, 49, 10, 54, 50, 32, 45, 10] = .ok exl := by
  have h := prs_tx (l := exl) ex_jdg (by intro p hp; simp [exl] at hp; rcases hp with rfl | rfl <;> exact ⟨by intro z hz; simp at hz; omega, by intro z hz; simp at hz; try omega⟩) (by decide)
  have e : tx exl = txt exl := by unfold txt; rw [if_pos ex_jdg]
  rw [e, ex_txt] at h
  exact h
theorem ex_bad : prs [99, 111, 112, 112, 105, 99, 101, 32, 49, 10, 54, 49, 32, 32, 48, 49, 10] = .error (2, 200) := by
  have h1 : cutC 10 [99, 111, 112, 112, 105, 99, 101, 32, 49, 10, 54, 49, 32, 32, 48, 49, 10] = some ([99, 111, 112, 112, 105, 99, 101, 32, 49], [54, 49, 32, 32, 48, 49, 10]) := by decide
  have h2 : cnt [99, 111, 112, 112, 105, 99, 101, 32, 49] = some 1 := by decide
  have h3 : pls 1 [] [54, 49, 32, 32, 48, 49, 10] 2 = .error (2, 200) := by
    have h4 : cutC 10 [54, 49, 32, 32, 48, 49, 10] = some ([54, 49, 32, 32, 48, 49], []) := by decide
    have h5 : cutC 32 [54, 49, 32, 32, 48, 49] = some ([54, 49], [32, 48, 49]) := by decide
    simp only [pls, h4, pp, h5]
    rw [if_pos (by decide)]
  unfold prs
  rw [h1]
  simp only
  rw [h2]
  exact h3
theorem ex_u1 : uh [48, 65] = none := by decide
theorem ex_u2 : uh [48, 48, 102, 102] = some [0, 255] := by decide
theorem ex_h : hx [10] = [48, 97] := by decide
end Go.Proofs.YtcjgmiilfjjbcaaGreatDoor
