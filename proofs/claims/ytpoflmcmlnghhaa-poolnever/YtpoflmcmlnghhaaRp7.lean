import Derived.Test.YtpoflmcmlnghhaaRp3
import Derived.Test.YtpoflmcmlnghhaaRp4
import Derived.Test.YtpoflmcmlnghhaaRp5
import Derived.Test.YtpoflmcmlnghhaaRp6
namespace Go.Proofs.Ytpoflmcmlnghhaa
open Go.RowKit Go.Maps

set_option maxHeartbeats 1000000 in
set_option maxRecDepth 100000 in
theorem plays_long {w : World} {Q B s q R : Nat} {F : Nat → Prop} {p : Po} {r : Ro} (h : Pr w Q B s q R F p r) (kd A Bv : Int) (go : Option Addr) (n gc : Nat) (sec : Bool) (hn4 : 4000 < n) :
    Calls Try.prog 11 #[.pointer (some ⟨Q, 0, none⟩), .agg #[.int .i64 kd, .int .i64 A, .int .i64 Bv, .slice go n gc, .bool sec]] w fun e w' => e = .returned (.bool true) ∧ Po1 w w' Q B s q R F r := by
  have HP := hid_intro h
  have hn4' : (4000 : Int) < (n : Int) := by omega
  have HPX : Hid ((w.alloc (.cells (opc kd A Bv go n gc sec) 35)).heap[w.heap.size]? = some (.cells (opc kd A Bv go n gc sec) 35 (0, 0))) := heap_alloc_new w _
  have a3 : (w.alloc (.cells #[.int .i64 kd, .int .i64 A, .int .i64 Bv, .slice go n gc, .bool sec] 35)).cell? ⟨w.heap.size, 3, none⟩ = some (.slice go n gc) := cell_of_row _ _ 3 _ _ _ HPX.out
  have HG := hid_intro (World.grownBy_alloc w (.cells #[.int .i64 kd, .int .i64 A, .int .i64 Bv, .slice go n gc, .bool sec] 35) none)
  clear h
  go_enter Try.func11, Try.ntmps11
  go_wp2
  go_ret
  exact ⟨rfl, ⟨⟨F, p, r, HP.out.keptN HG.out, fun i hi => .inl hi, by omega⟩, Fr.ofN HG.out⟩⟩

theorem plays_any {w : World} {Q B s q R : Nat} {F : Nat → Prop} {p : Po} {r : Ro} (h : Pr w Q B s q R F p r) (kd A Bv : Int) (go : Option Addr) (n gc : Nat) (g : List Int) (sec : Bool) (hl : Nt w go g) (hw : Wf g) (hn : g.length = n) (hgb : ∀ ad, go = some ad → 0 < n → ¬ Ob Q B s q F ad.block) (hA : -9223372036854775808 ≤ A ∧ A ≤ 9223372036854775807) (hBv : -9223372036854775808 ≤ Bv ∧ Bv ≤ 9223372036854775807) (hps : r.ps.length ≤ 100000) :
    Calls Try.prog 11 #[.pointer (some ⟨Q, 0, none⟩), .agg #[.int .i64 kd, .int .i64 A, .int .i64 Bv, .slice go n gc, .bool sec]] w fun e w' => e = .returned (.bool true) ∧ Po1 w w' Q B s q R F r := by
  by_cases hn4 : n ≤ 4000
  · by_cases h1 : kd = 1
    · exact plays_pin h kd A Bv go n gc g sec hl hw hn hgb hA hBv hps hn4 h1
    by_cases h2 : kd = 2
    · by_cases hv : A ∈ r.ps
      · exact plays_unyes h kd A Bv go n gc g sec hl hw hn hgb hA hBv hps hn4 h2 hv
      · exact plays_unno h kd A Bv go n gc g sec hl hw hn hgb hA hBv hps hn4 h2 hv
    by_cases h3 : kd = 3
    · exact plays_tells h kd A Bv go n gc g sec hl hw hn hgb hA hBv hps hn4 h3
    by_cases h4 : kd = 4
    · exact plays_lists h kd A Bv go n gc g sec hl hw hn hgb hA hBv hps hn4 h4
    by_cases h5 : kd = 5
    · have hr := lsP_range h.ok h.pl.ms.ris A g (by omega)
      by_cases e1 : lsP p A g = -1
      · exact plays_cno h kd A Bv go n gc g sec hl hw hn hgb hA hBv hps hn4 h5 171 (.inl ⟨e1, rfl⟩)
      · by_cases e2 : rm p - lsP p A g < A
        · exact plays_cno h kd A Bv go n gc g sec hl hw hn hgb hA hBv hps hn4 h5 170 (.inr ⟨by omega, e2, rfl⟩)
        · exact plays_cyes h kd A Bv go n gc g sec hl hw hn hgb hA hBv hps hn4 h5 (by omega) (by omega)
    exact plays_other h kd A Bv go n gc g sec hl hw hn hgb hA hBv hps hn4 h1 h2 h3 h4 h5
  · exact plays_long h kd A Bv go n gc sec (by omega)

/-! ### a pair that may be none -/
/-- O: its blocks, all of them new since w0; t: how many calls it has seen. -/
structure Sx (w0 w : World) (Q : Nat) (O : Nat → Prop) (t : Nat) (none_ : Bool) : Prop where
  st : (none_ = true ∧ w.heap[Q]? = some (.cells #[.pointer none, .pointer none] 30 (0, 0))) ∨ (none_ = false ∧ ∃ B s q R F p r, Pr w Q B s q R F p r ∧ r.ps.length ≤ t ∧ (∀ i, Ob Q B s q F i → O i))
  oq : O Q
  low : ∀ i, O i → w0.heap.size ≤ i ∧ i < w.heap.size
theorem Sx.fr {w0 w w' : World} {Q : Nat} {O G : Nat → Prop} {t : Nat} {b : Bool} (h : Sx w0 w Q O t b) (hf : Fr w w' G) (hd : ∀ i, O i → ¬ G i) : Sx w0 w' Q O t b := by
  refine ⟨?_, h.oq, fun i hi => ⟨(h.low i hi).1, Nat.lt_of_lt_of_le (h.low i hi).2 hf.size⟩⟩
  rcases h.st with ⟨h0, h1⟩ | ⟨h0, B, s, q, R, F, p, r, h1, h2, h3⟩
  · exact .inl ⟨h0, (hf.block Q (Array.getElem?_eq_some_iff.1 h1).1 (hd Q h.oq)).trans h1⟩
  · exact .inr ⟨h0, B, s, q, R, F, p, r, h1.fr hf (fun i hi => hd i (h3 i hi)), h2, h3⟩
theorem Sx.keptN {w0 w w' : World} {Q : Nat} {O : Nat → Prop} {t : Nat} {b : Bool} (h : Sx w0 w Q O t b) (hg : w.grownBy w' none) : Sx w0 w' Q O t b := h.fr (Fr.ofN (F := fun _ => False) hg) (fun _ _ e => e)
theorem Sx.more {w0 w : World} {Q : Nat} {O : Nat → Prop} {t t' : Nat} {b : Bool} (h : Sx w0 w Q O t b) (ht : t ≤ t') : Sx w0 w Q O t' b := by
  refine ⟨?_, h.oq, h.low⟩
  rcases h.st with h1 | ⟨h0, B, s, q, R, F, p, r, h1, h2, h3⟩
  · exact .inl h1
  · exact .inr ⟨h0, B, s, q, R, F, p, r, h1, by omega, h3⟩
/-- The cell that says whether there is a pool. -/
theorem Sx.c0 {w0 w : World} {Q : Nat} {O : Nat → Prop} {t : Nat} {b : Bool} (h : Sx w0 w Q O t b) : ∃ bo : Option Addr, w.cell? ⟨Q, 0, none⟩ = some (.pointer bo) ∧ (b = true → bo = none) ∧ (b = false → ∃ ad, bo = some ad) := by
  rcases h.st with ⟨h0, h1⟩ | ⟨h0, B, s, q, R, F, p, r, h1, h2, h3⟩
  · exact ⟨none, cell_of_row w Q 0 _ _ _ h1, fun _ => rfl, (fun e => by rw [h0] at e; cases e)⟩
  · exact ⟨_, h1.c0, (fun e => by rw [h0] at e; cases e), fun _ => ⟨_, rfl⟩⟩
theorem Sx.begun_no {w0 w1 w : World} {Q : Nat} (hq : w.heap[Q]? = some (.cells #[.pointer none, .pointer none] 30 (0, 0))) (h0 : w0.heap.size ≤ w1.heap.size) (hw : w1.heap.size ≤ Q) : Sx w0 w Q (fun i => w1.heap.size ≤ i ∧ i < w.heap.size) 0 true :=
  ⟨.inl ⟨rfl, hq⟩, ⟨hw, (Array.getElem?_eq_some_iff.1 hq).1⟩, fun i hi => ⟨by omega, hi.2⟩⟩
theorem Sx.begun_yes {w0 w1 w : World} {Q B s q R : Nat} {F : Nat → Prop} {p : Po} {r : Ro} (h : Pr w Q B s q R F p r) (hr : r.ps.length = 0) (h0 : w0.heap.size ≤ w1.heap.size) (hw : ∀ i, Ob Q B s q F i → w1.heap.size ≤ i) : Sx w0 w Q (fun i => w1.heap.size ≤ i ∧ i < w.heap.size) 0 false :=
  ⟨.inr ⟨rfl, B, s, q, R, F, p, r, h, by omega, fun i hi => ⟨hw i hi, h.low i hi⟩⟩, ⟨hw Q (.inl rfl), h.qlt⟩, fun i hi => ⟨by omega, hi.2⟩⟩

/-- One call at a pair that is there. -/
theorem plays_sx {w0 w : World} {Q : Nat} {O : Nat → Prop} {t : Nat} (h : Sx w0 w Q O t false) (kd A Bv : Int) (go : Option Addr) (n gc : Nat) (g : List Int) (sec : Bool) (hl : Nt w go g) (hw : Wf g) (hn : g.length = n) (hgb : ∀ ad, go = some ad → 0 < n → ad.block < w0.heap.size) (hA : -9223372036854775808 ≤ A ∧ A ≤ 9223372036854775807) (hBv : -9223372036854775808 ≤ Bv ∧ Bv ≤ 9223372036854775807) (ht : t ≤ 100000) :
    Calls Try.prog 11 #[.pointer (some ⟨Q, 0, none⟩), .agg #[.int .i64 kd, .int .i64 A, .int .i64 Bv, .slice go n gc, .bool sec]] w fun e w' => e = .returned (.bool true) ∧ Sx w0 w' Q (fun i => O i ∨ (w.heap.size ≤ i ∧ i < w'.heap.size)) (t + 1) false ∧ Fr w w' O := by
  rcases h.st with ⟨h0, h1⟩ | ⟨h0, B, s, q, R, F, p, r, h1, h2, h3⟩
  · cases h0
  · have hg0 := (h.low Q h.oq)
    refine (plays_any h1 kd A Bv go n gc g sec hl hw hn (fun ad e hp hO => ?_) hA hBv (by omega)).mono ?_
    · have h4 := hgb ad e hp
      have h5 := (h.low _ (h3 _ hO)).1
      omega
    · rintro e w' ⟨rfl, hpo⟩
      obtain ⟨F', p', r', k1, k2, k3⟩ := hpo.ex
      have hs := hpo.fr.size
      refine ⟨rfl, ⟨.inr ⟨rfl, B, s, q, R, F', p', r', k1, by omega, fun i hi => ?_⟩, .inl h.oq, fun i hi => ?_⟩, hpo.fr.wide (fun i hi _ => h3 i hi)⟩
      · rcases hi with rfl | hi | hi
        · exact .inl h.oq
        · exact .inl (h3 i (.inr (.inl hi)))
        · rcases k2 i hi with k4 | k4
          · exact .inl (h3 i (.inr (.inr k4)))
          · exact .inr ⟨k4, k1.rz.low i hi⟩
      · rcases hi with hi | hi
        · have := h.low i hi
          omega
        · omega
theorem tells_sx {w0 w : World} {Q : Nat} {O : Nat → Prop} {t : Nat} (h : Sx w0 w Q O t false) :
    Calls Try.prog 9 #[.pointer (some ⟨Q, 0, none⟩)] w fun e w' => e = .returned (.bool true) ∧ w.grownBy w' none := by
  rcases h.st with ⟨h0, h1⟩ | ⟨h0, B, s, q, R, F, p, r, h1, h2, h3⟩
  · cases h0
  · exact tells_any h1

/-! ### the calls that come in -/
structure Opq where
  k : Int
  a : Int
  b : Int
  ao : Option Addr
  n : Nat
  c : Nat
  g : List Int
  sec : Bool
structure Opm (w : World) (o : Opq) : Prop where
  nt : Nt w o.ao o.g
  ln : o.g.length = o.n
  wf : Wf o.g
  ha : -9223372036854775808 ≤ o.a ∧ o.a ≤ 9223372036854775807
  hb : -9223372036854775808 ≤ o.b ∧ o.b ≤ 9223372036854775807
  low : ∀ ad, o.ao = some ad → 0 < o.n → ad.block < w.heap.size
structure Opl (w : World) (a : Option Addr) (ops : List Opq) : Prop where
  ats : ∀ j o, ops[j]? = some o → Opm w o ∧ ∃ b off, a = some ⟨b, off, none⟩ ∧ w.cell? ⟨b, off + j * 5, none⟩ = some (.int .i64 o.k) ∧ w.cell? ⟨b, off + j * 5 + 1, none⟩ = some (.int .i64 o.a) ∧ w.cell? ⟨b, off + j * 5 + 2, none⟩ = some (.int .i64 o.b) ∧ w.cell? ⟨b, off + j * 5 + 3, none⟩ = some (.slice o.ao o.n o.c) ∧ w.cell? ⟨b, off + j * 5 + 4, none⟩ = some (.bool o.sec)
theorem Opm.keptN {w w' : World} {o : Opq} (h : Opm w o) (hg : w.grownBy w' none) : Opm w' o := ⟨h.nt.keptN hg, h.ln, h.wf, h.ha, h.hb, fun ad e h0 => Nat.lt_of_lt_of_le (h.low ad e h0) hg.size⟩
end Go.Proofs.Ytpoflmcmlnghhaa
