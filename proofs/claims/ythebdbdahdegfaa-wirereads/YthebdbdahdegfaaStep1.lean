import Derived.Test.YthebdbdahdegfaaRefW
import Derived.Test.YthebdbdahdegfaaRefB
import Derived.Test.YthebdbdahdegfaaGetW
import Derived.Test.YthebdbdahdegfaaGet2
import Derived.Test.YthebdbdahdegfaaFirst
namespace Go.Proofs.Ythebdbdahdegfaa
open Go.RowKit

/-- A reader of the program at R, G and one of the document's at Q, H, that stand alike. -/
structure Two (w : World) (R G Q H : Nat) (zs : List Int) (p : Nat) (e : Int) : Prop where
  a : Rd w R G zs p e
  b : Rr w Q H zs p e
  rq : R ≠ Q
  rh : R ≠ H
  gq : G ≠ Q
  gh : G ≠ H

/-- All but these four blocks is kept. -/
structure Fr (w w' : World) (R G Q H : Nat) : Prop where
  os : w'.os = w.os
  tape : w'.tape = w.tape
  output : w'.output = w.output
  size : w.heap.size ≤ w'.heap.size
  block : ∀ i, i < w.heap.size → i ≠ R → i ≠ G → i ≠ Q → i ≠ H → w'.heap[i]? = w.heap[i]?

theorem Fr.of {w w' : World} {R G Q H : Nat} {row : Option Nat} (h : w.grownBy w' row) (hr : row = none ∨ row = some R ∨ row = some G ∨ row = some Q ∨ row = some H) : Fr w w' R G Q H :=
  ⟨h.os, h.tape, h.output, h.size, fun i hi h1 h2 h3 h4 => h.block i hi (by rcases hr with rfl | rfl | rfl | rfl | rfl <;> simp <;> assumption)⟩

theorem Fr.trans {a b c : World} {R G Q H : Nat} (h : Fr a b R G Q H) (k : Fr b c R G Q H) : Fr a c R G Q H :=
  ⟨k.os.trans h.os, k.tape.trans h.tape, k.output.trans h.output, Nat.le_trans h.size k.size, fun i hi h1 h2 h3 h4 => (k.block i (Nat.lt_of_lt_of_le hi h.size) h1 h2 h3 h4).trans (h.block i hi h1 h2 h3 h4)⟩

theorem Two.kept {w w' : World} {R G Q H : Nat} {zs : List Int} {p : Nat} {e : Int} (h : Two w R G Q H zs p e) (hg : w.grownBy w' none) : Two w' R G Q H zs p e :=
  ⟨h.a.kept hg (by simp) (by simp), h.b.kept hg (by simp) (by simp), h.rq, h.rh, h.gq, h.gh⟩

/-- The program's reader has gone on, at its own block. -/
theorem Two.ref {w w' : World} {R G Q H : Nat} {zs : List Int} {p : Nat} {e : Int} (h : Two w R G Q H zs p e) (hg : w.grownBy w' (some R)) : Rr w' Q H zs p e :=
  h.b.kept hg (by have := h.rq; simp; omega) (by have := h.rh; simp; omega)

theorem Two.al {w : World} {R G Q H : Nat} {zs : List Int} {p : Nat} {e : Int} (h : Two w R G Q H zs p e) (o : Obj) : Rd (w.alloc o) R G zs p e :=
  h.a.kept (World.grownBy_alloc _ _ none) (by simp) (by simp)

theorem grown_al {w w' : World} {o : Obj} {row : Option Nat} (h : (w.alloc o).grownBy w' row) : w.grownBy w' row := grown_trans (World.grownBy_alloc _ _ _) h

/-- Both have gone on. -/
theorem Two.next {w w1 w2 : World} {R G Q H : Nat} {zs : List Int} {p p' : Nat} {e e' : Int} (h : Two w R G Q H zs p e) (hg : w.grownBy w1 (some R)) (ha : Rd w1 R G zs p' e')
    (hk : w1.grownBy w2 (some Q)) (hb : Rr w2 Q H zs p' e') : Two w2 R G Q H zs p' e' ∧ Fr w w2 R G Q H :=
  ⟨⟨ha.kept hk (by have := h.rq; simp; omega) (by have := h.gq; simp; omega), hb, h.rq, h.rh, h.gq, h.gh⟩, (Fr.of hg (by simp)).trans (Fr.of hk (by simp))⟩

set_option maxHeartbeats 1000000 in
theorem step1_ok (R G Q H : Nat) (zs : List Int) (p : Nat) (N : Int) (S : Bool) (w : World) (h : Two w R G Q H zs p 0) (hbt : Bt zs) (hp : p + 1 ≤ zs.length) :
    Calls Try.prog 14 #[.agg #[.int .i64 1, .int .i64 N, .bool S], .pointer (some ⟨R, 0, none⟩), .pointer (some ⟨Q, 0, none⟩)] w fun en w' => en = .returned (.bool true) ∧ Two w' R G Q H zs (p + 1) 0 ∧ Fr w w' R G Q H := by
  have HT := hid_intro h
  have HB := hid_intro hbt
  obtain ⟨v, hv⟩ : ∃ v, le 1 (zs.drop p) = v := ⟨_, rfl⟩
  have hvl : v < 256 := by rw [← hv]; exact le_lt 1 _ (hbt.drop p)
  have HV := hid_intro hv
  clear h hbt hv
  go_enter Try.func14, Try.ntmps14
  go_wp2_with fail
  refine (get_u8_ok R G zs p _ (HT.out.al _) HB.out hp).mono ?_
  rintro en w1 ⟨rfl, hr, hg⟩
  rw [HV.out]
  have HG1 := hid_intro (grown_al hg)
  have HR1 := hid_intro hr
  clear hr hg
  go_wp2_with fail
  refine (rnum_ok Q H zs p 1 _ (HT.out.ref HG1.out) HB.out (by omega) hp).mono ?_
  rintro en w2 ⟨rfl, hr, hg⟩
  rw [HV.out]
  have HN := hid_intro (HT.out.next HG1.out HR1.out hg hr)
  clear hr hg
  go_wp2
  go_ret
  exact ⟨ret_true (by simp), HN.out⟩

set_option maxHeartbeats 1000000 in
theorem step1_short (R G Q H : Nat) (zs : List Int) (p : Nat) (N : Int) (S : Bool) (w : World) (h : Two w R G Q H zs p 0) (hp : zs.length < p + 1) :
    Calls Try.prog 14 #[.agg #[.int .i64 1, .int .i64 N, .bool S], .pointer (some ⟨R, 0, none⟩), .pointer (some ⟨Q, 0, none⟩)] w fun en w' => en = .returned (.bool true) ∧ Two w' R G Q H zs p 10 ∧ Fr w w' R G Q H := by
  have HT := hid_intro h
  clear h
  go_enter Try.func14, Try.ntmps14
  go_wp2_with fail
  refine (get_u8_short R G zs p _ (HT.out.al _) hp).mono ?_
  rintro en w1 ⟨rfl, hr, hg⟩
  have HG1 := hid_intro (grown_al hg)
  have HR1 := hid_intro hr
  clear hr hg
  go_wp2_with fail
  refine (rnum_short Q H zs p 1 _ (HT.out.ref HG1.out) (by omega) hp).mono ?_
  rintro en w2 ⟨rfl, hr, hg⟩
  have HN := hid_intro (HT.out.next HG1.out HR1.out hg hr)
  clear hr hg
  go_wp2
  go_ret
  exact ⟨rfl, HN.out⟩

set_option maxHeartbeats 1000000 in
theorem step1_broken (R G Q H : Nat) (zs : List Int) (p : Nat) (e N : Int) (S : Bool) (w : World) (h : Two w R G Q H zs p e) (he : (e == 0) = false) :
    Calls Try.prog 14 #[.agg #[.int .i64 1, .int .i64 N, .bool S], .pointer (some ⟨R, 0, none⟩), .pointer (some ⟨Q, 0, none⟩)] w fun en w' => en = .returned (.bool true) ∧ Two w' R G Q H zs p e ∧ Fr w w' R G Q H := by
  have HT := hid_intro h
  clear h
  go_enter Try.func14, Try.ntmps14
  go_wp2_with fail
  refine (get_u8_broken R G zs p e _ (HT.out.al _) he).mono ?_
  rintro en w1 ⟨rfl, hr, hg⟩
  have HG1 := hid_intro (grown_al hg)
  have HR1 := hid_intro hr
  clear hr hg
  go_wp2_with fail
  refine (rnum_broken Q H zs p e 1 _ (HT.out.ref HG1.out) he).mono ?_
  rintro en w2 ⟨rfl, rfl⟩
  have HN := hid_intro (HT.out.next HG1.out HR1.out (Qt.grown (Qt.refl _) _) (HT.out.ref HG1.out))
  go_wp2
  go_ret
  exact ⟨rfl, HN.out⟩

end Go.Proofs.Ythebdbdahdegfaa
