import Derived.Test.YtlhjociijkhimaaGreatDoorBookX
namespace Go.Proofs.YtlhjociijkhimaaGreatDoor
open Go.RowKit

theorem gc_none {w : World} {B : Nat} {ps : Int} (h : w.cell? ⟨B, 4, none⟩ = some (.slice none 0 0)) : Gc w B ps (.slice none 0 0) 0 0 [] 0 :=
  ⟨h, ⟨⟨none, rfl, fun h => by simp at h⟩, fun i x hx => by simp at hx⟩, fun s hs => by simp at hs, fun k s hs => by simp at hs⟩

set_option maxHeartbeats 4000000 in
set_option maxRecDepth 100000 in
/-- Finish: all lists as they were, each with its own marks, twice, and grown: true. -/
theorem finish_any (B : Nat) (vb vw : Value) (r c r2 c2 : Nat) (L : List Sl) (ys : List Value) (I : World → Prop) (w : World)
    (hx : Box w B 0 0 vb vw (.slice none 0 0)) (hb : Bc w B 0 vb r c L) (hw : Row w vw r2 c2 ys) (hl : L.length = ys.length)
    (hs : ∀ (k : Nat) (x y : Value), (L.map Sl.v)[k]? = some x → ys[k]? = some y → ∃ ao n ca bo cb zs, x = .slice ao n ca ∧ y = .slice bo n cb ∧ Byt w ao n ca zs ∧ Byt w bo n cb zs)
    (hold : ∀ s ∈ L, s.g < w.heap.size) (hr : r < w.heap.size) (hrB : r ≠ B) (hbd : ∀ s ∈ L, s.n ≤ 1099511620000) (hI : I w)
    (hIg : ∀ v w' row, I v → v.grownBy w' row → (∀ i, row = some i → i = B ∨ w.heap.size ≤ i) → I w') (hIs : ∀ v s j u, s ∈ L → j < s.c → I v → I (v.setCell ⟨s.g, s.o + j, none⟩ u)) :
    Calls Tryz.prog 10 #[.pointer (some ⟨B, 0, none⟩)] w fun en w' => en = .returned (.bool true) ∧ I w' := by
  have hB := hx.lt
  have hmany := hb.many
  have HOK := hid_intro hb.ok
  have HX := hid_intro hx
  have HBC := hid_intro hb
  have HW := hid_intro hw
  have HS := hid_intro hs
  have HOLD := hid_intro hold
  have HBD := hid_intro hbd
  have HI := hid_intro hI
  have HIG := hid_intro hIg
  have HIS := hid_intro hIs
  have HLL := hid_intro hl
  have J1 : Hid (∀ (p : Int) (v : World) (s : Sl) (j : Nat) (u : Value), s ∈ L → j < s.n → (I v ∧ Box v B 0 p vb vw (.slice none 0 0) ∧ w.heap.size ≤ v.heap.size) → (I (v.setCell ⟨s.g, s.o + j, none⟩ u) ∧ Box (v.setCell ⟨s.g, s.o + j, none⟩ u) B 0 p vb vw (.slice none 0 0) ∧ w.heap.size ≤ (v.setCell ⟨s.g, s.o + j, none⟩ u).heap.size)) :=
    fun p v s j u h1 h2 h3 => ⟨hIs v s j u h1 (Nat.lt_of_lt_of_le h2 (HOK.out s h1).1.le) h3.1, h3.2.1.far _ _ (HOK.out s h1).2.2.1, by simpa using h3.2.2⟩
  have J2 : Hid (∀ (p : Int) (v v' : World), Qt v v' → (I v ∧ Box v B 0 p vb vw (.slice none 0 0) ∧ w.heap.size ≤ v.heap.size) → (I v' ∧ Box v' B 0 p vb vw (.slice none 0 0) ∧ w.heap.size ≤ v'.heap.size)) :=
    fun p v v' h1 h2 => ⟨hIg v v' none h2.1 (h1.grown none) (by simp), h2.2.1.qt h1, by rw [h1.heap]; exact h2.2.2⟩
  clear hx hb hw hs hold hbd hI hIg hIs hl
  go_enter Tryz.func10, Tryz.ntmps10
  go_wp2_with fail
  refine (untouchedAll B 0 0 vb vw _ r c r2 c2 (L.map Sl.v) ys w HX.out HBC.out.row HW.out (by rw [List.length_map]; exact HLL.out) (by rw [List.length_map]; exact hmany) HS.out).mono ?_
  rintro en w1 ⟨rfl, hq1⟩
  have K1 := hid_intro (J2.out 0 w w1 hq1 ⟨HI.out, HX.out, Nat.le_refl _⟩)
  have C1 := hid_intro (HBC.out.qt hq1)
  clear hq1 HX HBC HW HS HI
  go_wp2_with fail
  refine (writeAll B 0 vb vw (.slice none 0 0) r c L w1 (fun v => I v ∧ Box v B 0 0 vb vw (.slice none 0 0) ∧ w.heap.size ≤ v.heap.size) C1.out K1.out (fun v h => h.2.1) (fun v s j u h1 h2 h3 => J1.out 0 v s j u h1 h2 h3) (fun v v' h1 h2 => J2.out 0 v v' h1 h2)).mono ?_
  rintro en w2 ⟨rfl, hW2⟩
  have W2 := hid_intro hW2
  have k1 := hW2.inv.2.1.c1
  have f1 := hW2.inv.2.1.fz 1 (by omega)
  clear hW2 K1 C1
  go_wp2_with fail
  refine (holdsAll B 0 vb vw (.slice none 0 0) r c 0 0 L [] w2 W2.out.inv.2.1 W2.out.bc (gc_none W2.out.inv.2.1.c4) (Or.inr rfl) (fun k s hk => W2.out.done k s (List.getElem?_eq_some_iff.1 hk).1 hk)).mono ?_
  rintro en w3 ⟨rfl, hw3⟩
  subst hw3
  have K3 : Hid (I (w3.setCell ⟨B, 1, none⟩ (.int .i64 1)) ∧ Box (w3.setCell ⟨B, 1, none⟩ (.int .i64 1)) B 0 1 vb vw (.slice none 0 0) ∧ w.heap.size ≤ (w3.setCell ⟨B, 1, none⟩ (.int .i64 1)).heap.size) :=
    ⟨HIG.out _ _ (some B) W2.out.inv.1 (grown_set w3 B 1 _) (fun i e => Or.inl (Option.some.inj e).symm), W2.out.inv.2.1.set1 1, by simpa using W2.out.inv.2.2⟩
  have C3 := hid_intro (W2.out.bc.pass1 1 hrB)
  clear W2
  go_wp2_with fail
  refine (writeAll B 1 vb vw (.slice none 0 0) r c L _ (fun v => I v ∧ Box v B 0 1 vb vw (.slice none 0 0) ∧ w.heap.size ≤ v.heap.size) C3.out K3.out (fun v h => h.2.1) (fun v s j u h1 h2 h3 => J1.out 1 v s j u h1 h2 h3) (fun v v' h1 h2 => J2.out 1 v v' h1 h2)).mono ?_
  rintro en w4 ⟨rfl, hW4⟩
  have W4 := hid_intro hW4
  clear hW4 K3 C3 k1 f1
  go_wp2_with fail
  refine (holdsAll B 1 vb vw (.slice none 0 0) r c 0 0 L [] w4 W4.out.inv.2.1 W4.out.bc (gc_none W4.out.inv.2.1.c4) (Or.inr rfl) (fun k s hk => W4.out.done k s (List.getElem?_eq_some_iff.1 hk).1 hk)).mono ?_
  rintro en w5 ⟨rfl, hw5⟩
  subst hw5
  have G5 : Hid (Gn I w5 B 1 vb vw (.slice none 0 0) r c w.heap.size L [] (tnAt 0 0)) :=
    ⟨W4.out.inv.1, W4.out.inv.2.1, W4.out.bc, ⟨rfl, Or.inl ⟨rfl, rfl⟩⟩, HOLD.out, ⟨hr, hB, W4.out.inv.2.2, Nat.zero_le _⟩, fun k m hm => by simp at hm, fun k l m m' hm => by simp at hm, fun k s hk => W4.out.done k s (List.getElem?_eq_some_iff.1 hk).1 hk, fun k m hm => by simp at hm⟩
  clear W4
  go_wp2_with fail
  refine (growAll B 1 vb vw (.slice none 0 0) r c w.heap.size L I w5 G5.out hrB HBD.out HIG.out HIS.out).mono ?_
  rintro en w6 ⟨rfl, vg, M, hM, hG⟩
  have HM := hid_intro hM
  have HG := hid_intro hG
  clear hM hG G5
  obtain ⟨r6, c6, h6⟩ := row_of_owns HG.out.own
  have R6 := hid_intro h6
  clear h6
  go_wp2_with fail
  refine (holdsAll B 1 vb vw vg r c r6 c6 L M w6 HG.out.box HG.out.bc ⟨HG.out.box.c4, R6.out, fun s hs => by obtain ⟨k, hk⟩ := List.mem_iff_getElem?.1 hs; exact (HG.out.each k s hk).1, HG.out.mm⟩ (Or.inl HM.out) HG.out.lm).mono ?_
  rintro en w7 ⟨rfl, hw7⟩
  subst hw7
  have I7 := hid_intro HG.out.inv
  clear HG R6
  go_wp2
  go_ret
  exact ⟨rfl, I7.out⟩
end Go.Proofs.YtlhjociijkhimaaGreatDoor
