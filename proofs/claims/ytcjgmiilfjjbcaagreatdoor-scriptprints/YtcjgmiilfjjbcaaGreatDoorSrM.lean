import Derived.Test.YtcjgmiilfjjbcaaGreatDoorDuA
import Derived.Lib.AtoiAll
namespace Go.Proofs.YtcjgmiilfjjbcaaGreatDoor
open Go.RowKit

/-! Package script, pure: texts are lists of UInt8, bytes lists of Int. -/

/-- A blank. -/
def isb (c : UInt8) : Bool := c == 32 || c == 9
def cns (p : List UInt8 × List (List UInt8)) : List (List UInt8) := if p.1 = [] then p.2 else p.1 :: p.2
/-- What stands ahead of the first blank, and the words behind it. -/
def tok : List UInt8 → List UInt8 × List (List UInt8)
  | [] => ([], [])
  | c :: l => if isb c = true then ([], cns (tok l)) else (c :: (tok l).1, (tok l).2)
/-- The words of a line. -/
def wrds (l : List UInt8) : List (List UInt8) := cns (tok l)
def nbl (c : UInt8) : Bool := !isb c
def nw1 (l : List UInt8) : List UInt8 := (l.dropWhile isb).takeWhile nbl
def nw2 (l : List UInt8) : List UInt8 := (l.dropWhile isb).dropWhile nbl
theorem tok_eq : ∀ l : List UInt8, tok l = (l.takeWhile nbl, wrds (l.dropWhile nbl))
  | [] => rfl
  | c :: l => by
    have ih := tok_eq l
    by_cases h : isb c = true
    · have h2 : nbl c = false := by unfold nbl; rw [h]; rfl
      have e : tok (c :: l) = ([], cns (tok l)) := by rw [tok]; exact if_pos h
      rw [List.takeWhile_cons, List.dropWhile_cons, h2, e]
      simp only [Bool.false_eq_true, if_false]
      unfold wrds
      rw [e]
      rfl
    · have h2 : nbl c = true := by unfold nbl; simp at h; rw [h]; rfl
      have e : tok (c :: l) = (c :: (tok l).1, (tok l).2) := by rw [tok]; exact if_neg h
      rw [List.takeWhile_cons, List.dropWhile_cons, h2, e, ih]
      simp
theorem wrds_drop : ∀ l : List UInt8, wrds l = wrds (l.dropWhile isb)
  | [] => rfl
  | c :: l => by
    by_cases h : isb c = true
    · rw [List.dropWhile_cons, if_pos h, ← wrds_drop l]
      have e : tok (c :: l) = ([], cns (tok l)) := by rw [tok]; exact if_pos h
      show cns (tok (c :: l)) = cns (tok l)
      rw [e]
      rfl
    · rw [List.dropWhile_cons, if_neg h]
theorem wrds_nw (l : List UInt8) : wrds l = if nw1 l = [] then [] else nw1 l :: wrds (nw2 l) := by
  rw [wrds_drop]
  unfold nw1 nw2
  have hd : ∀ c r, l.dropWhile isb = c :: r → isb c = false := by
    intro c r h
    have := List.head?_dropWhile_not isb l
    rw [h] at this
    simpa using this
  generalize l.dropWhile isb = m at *
  show cns (tok m) = _
  rw [tok_eq]
  unfold cns
  simp only
  by_cases h : m.takeWhile nbl = []
  · rw [if_pos h, if_pos h]
    cases m with
    | nil => rfl
    | cons c r =>
      have := hd c r rfl
      rw [List.takeWhile_cons] at h
      have h2 : nbl c = true := by unfold nbl; rw [this]; rfl
      rw [if_pos h2] at h
      cases h
  · rw [if_neg h, if_neg h]
theorem nw2_len (l : List UInt8) : (nw1 l).length + (nw2 l).length ≤ l.length := by
  unfold nw1 nw2
  have h1 := List.takeWhile_append_dropWhile (p := nbl) (l := l.dropWhile isb)
  have h2 := List.takeWhile_append_dropWhile (p := isb) (l := l)
  have e1 := congrArg List.length h1
  have e2 := congrArg List.length h2
  rw [List.length_append] at e1 e2
  omega
/-- The lines of a text. -/
def lns : List UInt8 → List (List UInt8)
  | [] => []
  | c :: t => if c = 10 then [] :: lns t else match lns t with
    | [] => [[c]]
    | l :: ls => (c :: l) :: ls
theorem lns_cons (c : UInt8) (t : List UInt8) : lns (c :: t) = if c = 10 then [] :: lns t else match lns t with
    | [] => [[c]]
    | l :: ls => (c :: l) :: ls := rfl
theorem lns_nil : lns [] = [] := rfl
theorem lns_cut : ∀ t : List UInt8, t ≠ [] → lns t = cua 10 t :: lns (cub 10 t)
  | [], h => absurd rfl h
  | c :: t, _ => by
    rw [lns_cons]
    unfold cua cub
    by_cases h : c = 10
    · subst h
      simp [cutC]
    · rw [if_neg h]
      by_cases ht : t = []
      · subst ht
        simp [cutC, h, lns_nil]
      · rw [lns_cut t ht]
        unfold cua cub
        cases hc : cutC 10 t with
        | none => simp [cutC, h, hc, lns_nil]
        | some p => simp [cutC, h, hc]
theorem cub_len (x : UInt8) (t : List UInt8) : (cua x t).length ≤ t.length ∧ (cub x t).length ≤ t.length ∧ (t ≠ [] → (cub x t).length < t.length) := by
  unfold cua cub
  cases hc : cutC x t with
  | none => simp; intro h; exact List.length_pos_iff.2 h
  | some p =>
    obtain ⟨a, b⟩ := p
    obtain ⟨h, _⟩ := cutC_some hc
    subst h
    simp
    omega
/-- A step. -/
structure Opq where
  k : Int
  a : Int
  b : Int
  c : Int
  key : List Int
  val : List Int
  hi : List Int
  f : List (Int × Int)
def Opq.zero (k : Int) : Opq := ⟨k, 0, 0, 0, [], [], [], []⟩
/-- The words of the steps, and their fields. -/
def stT : List (List UInt8 × List UInt8) := [([], []), ([102, 111, 114, 109, 97, 116], []), ([111, 112, 101, 110], [65]), ([112, 117, 116], [75, 86]), ([100, 101, 108, 101, 116, 101], [75]), ([103, 101, 116], [75]), ([115, 99, 97, 110], [75, 72, 65]), ([99, 111, 109, 109, 105, 116], []), ([114, 111, 108, 108, 98, 97, 99, 107], []), ([118, 105, 101, 119], []), ([114, 101, 97, 100], [65, 75]), ([114, 97, 110, 103, 101], [65, 75, 72, 66]), ([110, 116, 104], [65, 66]), ([114, 97, 110, 107], [65, 75]), ([99, 108, 111, 115, 101], [65]), ([97, 114, 109], [65]), ([99, 114, 97, 115, 104], [70]), ([114, 111, 116], [65, 66, 67]), ([99, 104, 101, 99, 107], []), ([104, 97, 110, 100, 115], [65, 66]), ([115, 116, 97, 116, 101], []), ([100, 117, 109, 112], []), ([99, 111, 109, 112, 97, 99, 116], [65])]
def kix (w : List UInt8) : Nat → List (List UInt8 × List UInt8) → Nat
  | _, [] => 0
  | i, p :: r => if p.1 = w then i else kix w (i + 1) r
/-- The kind of a word. -/
def kdw (w : List UInt8) : Nat := kix w 0 stT
def smn (n : Int) : Bool := decide (-2147483647 ≤ n) && decide (n ≤ 2147483647)
/-- The number of a word. -/
def nmb (w : List UInt8) : Option Int := match Lib.atoiAll w with
  | .ok n => if smn n = true ∧ Lib.itoa n = w then some n else none
  | _ => none
def nmE (w : List UInt8) : Except Int Int := match nmb w with
  | some n => .ok n
  | none => .error 232
def uhE (w : List UInt8) : Except Int (List Int) := match uh w with
  | some n => .ok n
  | none => .error 201
/-- The fate of a word. -/
def fte (w : List UInt8) : Except Int (Int × Int) := if w = [108] then .ok (0, 0) else if w = [107] then .ok (1, 0) else if Lib.hasPrefix w [116] = true then (nmE (w.drop 1)).map fun n => (2, n) else .error 231
/-- A word more. -/
def fld (o : Opq) (c : UInt8) (w : List UInt8) : Except Int Opq :=
  if c = 65 then (nmE w).map fun n => { o with a := n }
  else if c = 66 then (nmE w).map fun n => { o with b := n }
  else if c = 67 then (nmE w).map fun n => { o with c := n }
  else if c = 75 then (uhE w).map fun n => { o with key := n }
  else if c = 86 then (uhE w).map fun n => { o with val := n }
  else if c = 72 then (uhE w).map fun n => { o with hi := n }
  else (fte w).map fun n => { o with f := o.f ++ [n] }
def flds (o : Opq) : List UInt8 → List (List UInt8) → Except Int Opq
  | c :: fs, w :: ws => match fld o c w with
    | .ok o' => flds o' fs ws
    | .error e => .error e
  | _, _ => .ok o
/-- The fields of a kind that has n words. -/
def fsx (k n : Nat) : List UInt8 := if (stT.getD k ([], [])).2 = [70] then List.replicate n 70 else (stT.getD k ([], [])).2
/-- A step's words. -/
def stp (ws : List (List UInt8)) : Except Int Opq :=
  if kdw (ws.headD []) = 0 then .error 231
  else if ws.length - 1 ≠ (fsx (kdw (ws.headD [])) (ws.length - 1)).length then .error 233
  else flds (Opq.zero (kdw (ws.headD []))) (fsx (kdw (ws.headD [])) (ws.length - 1)) (ws.drop 1)
def ttw : List UInt8 := [99, 111, 112, 112, 105, 99, 101]
/-- The first line's words. -/
def tkf (ws : List (List UInt8)) : Except Int Int := if ws.headD [] ≠ ttw then .error 230 else if ws.length ≠ 2 then .error 233 else nmE (ws.getD 1 [])
abbrev Sq := Int × List Opq
/-- The words of a line more. -/
def tke (s : Option Sq) (ws : List (List UInt8)) : Except Int Sq := match s with
  | none => (tkf ws).map fun n => (n, [])
  | some (n, l) => if l.length = 2000 then .error 234 else (stp ws).map fun o => (n, l ++ [o])
def pll : List (List UInt8) → Nat → Option Sq → Except (Nat × Int) Sq
  | [], _, none => .error (0, 230)
  | [], _, some s => .ok s
  | l :: ls, no, s => if wrds (cua 35 l) = [] then pll ls (no + 1) s else match tke s (wrds (cua 35 l)) with
    | .ok s' => pll ls (no + 1) (some s')
    | .error e => .error (no, e)
/-- A script's text, read. -/
def psc (t : List UInt8) : Except (Nat × Int) Sq := if 1048576 < t.length then .error (0, 234) else pll (lns t) 1 none
/-- Where the first blank stands. -/
def iab (l : List UInt8) : Int := if (l.takeWhile nbl).length = l.length then -1 else (l.takeWhile nbl).length
end Go.Proofs.YtcjgmiilfjjbcaaGreatDoor
