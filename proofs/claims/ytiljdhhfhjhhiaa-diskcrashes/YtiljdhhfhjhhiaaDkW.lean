import Derived.Test.YtiljdhhfhjhhiaaDkF
import Derived.Test.YtiljdhhfhjhhiaaDkP
namespace Go.Proofs.Ytiljdhhfhjhhiaa
open Go.RowKit Go.MuLone

/-- A disk that was made since w0, apart from the blocks O. -/
def Dw (w0 w : World) (B : Nat) (O : Nat → Prop) (s : Ds) : Prop := ∃ F, Dz w B F s ∧ (∀ k, F k → w0.heap.size ≤ k ∧ ¬ O k) ∧ w0.grownBy w none ∧ ∀ k, O k → k < w.heap.size

/-- The blocks O stand as they stood. -/
def Sd (w w' : World) (O : Nat → Prop) : Prop := ∀ k, O k → w'.heap[k]? = w.heap[k]?
theorem Sd.refl (w : World) (O : Nat → Prop) : Sd w w O := fun _ _ => rfl
theorem Sd.trans {a b c : World} {O : Nat → Prop} (h : Sd a b O) (k : Sd b c O) : Sd a c O := fun i hi => (k i hi).trans (h i hi)

theorem Dw.grown {w0 w : World} {B : Nat} {O : Nat → Prop} {s : Ds} (h : Dw w0 w B O s) : w0.grownBy w none := by
  obtain ⟨F, h1, h2, h3, h4⟩ := h
  exact h3
theorem Dw.keptN {w0 w w' : World} {B : Nat} {O : Nat → Prop} {s : Ds} (h : Dw w0 w B O s) (hg : w.grownBy w' none) : Dw w0 w' B O s := by
  obtain ⟨F, h1, h2, h3, h4⟩ := h
  exact ⟨F, h1.keptN hg, h2, grown_trans h3 hg, fun k hk => Nat.lt_of_lt_of_le (h4 k hk) hg.size⟩
theorem Dw.sd {w0 w w' : World} {B : Nat} {O : Nat → Prop} {s : Ds} (h : Dw w0 w B O s) (hg : w.grownBy w' none) : Sd w w' O := by
  obtain ⟨F, h1, h2, h3, h4⟩ := h
  exact fun k hk => hg.block k (h4 k hk) (by simp)
theorem Dw.kept {w0 w w' : World} {B g : Nat} {O : Nat → Prop} {s : Ds} (h : Dw w0 w B O s) (hg : w.grownBy w' (some g)) (hO : O g) (h0 : w0.heap.size ≤ g) : Dw w0 w' B O s := by
  obtain ⟨F, h1, h2, h3, h4⟩ := h
  exact ⟨F, h1.kept hg (fun k e hf => (h2 k hf).2 (by rw [← Option.some.inj e]; exact hO)), h2, grown_new h3 hg h0, fun k hk => Nat.lt_of_lt_of_le (h4 k hk) hg.size⟩
theorem Dw.sub {w0 w : World} {B : Nat} {O O' : Nat → Prop} {s : Ds} (h : Dw w0 w B O s) (ho : ∀ k, O' k → O k) : Dw w0 w B O' s := by
  obtain ⟨F, h1, h2, h3, h4⟩ := h
  exact ⟨F, h1, fun k hk => ⟨(h2 k hk).1, fun e => (h2 k hk).2 (ho k e)⟩, h3, fun k hk => h4 k (ho k hk)⟩
/-- New blocks are none of the disk's. -/
theorem Dw.add {w0 w w' : World} {B : Nat} {O O' : Nat → Prop} {s : Ds} (h : Dw w0 w B O s) (hg : w.grownBy w' none) (ho : ∀ k, O' k → O k ∨ w.heap.size ≤ k ∧ k < w'.heap.size) : Dw w0 w' B O' s := by
  obtain ⟨F, h1, h2, h3, h4⟩ := h
  refine ⟨F, h1.keptN hg, fun k hk => ⟨(h2 k hk).1, fun e => ?_⟩, grown_trans h3 hg, fun k hk => ?_⟩
  · rcases ho k e with x | x
    · exact (h2 k hk).2 x
    · have := h1.low k hk; omega
  · rcases ho k hk with x | x
    · exact Nat.lt_of_lt_of_le (h4 k x) hg.size
    · exact x.2
theorem Dw.step {w0 w w' : World} {B : Nat} {F F' O : Nat → Prop} {s : Ds} (h2 : ∀ k, F k → w0.heap.size ≤ k ∧ ¬ O k) (h3 : w0.grownBy w none) (h4 : ∀ k, O k → k < w.heap.size) (hz : Dz w' B F' s) (hk : Kp w w' F) (hf : ∀ k, F' k → F k ∨ w.heap.size ≤ k ∧ k < w'.heap.size) : Dw w0 w' B O s ∧ Sd w w' O := by
  refine ⟨⟨F', hz, fun k e => ?_, Kp.new h3 hk (fun k e => (h2 k e).1), fun k e => Nat.lt_of_lt_of_le (h4 k e) hk.size⟩, fun k e => hk.block k (h4 k e) (fun x => (h2 k x).2 e)⟩
  rcases hf k e with x | x
  · exact h2 k x
  · exact ⟨Nat.le_trans h3.size x.1, fun o => by have := h4 k o; omega⟩

theorem dw_new (w0 w : World) (c : Nat) (hg : w0.grownBy w none) (h : 2 ≤ c) (h2 : c < 524288) : Calls Try.prog 16 #[.int .i64 c] w fun e w' =>
    ∃ B, e = .returned (.pointer (some ⟨B, 0, none⟩)) ∧ Dw w0 w' B (fun k => w0.heap.size ≤ k ∧ k < w.heap.size) ⟨c, 0, false, 0, 0, [], []⟩ := by
  refine (dz_new c w h h2).mono ?_
  rintro e w' ⟨B, rfl, h1, h2⟩
  exact ⟨B, rfl, _, h2, fun k hk => ⟨Nat.le_trans hg.size hk.1, fun e => by omega⟩, grown_trans hg h1, fun k e => Nat.lt_of_lt_of_le e.2 h1.size⟩
theorem dw_pages {w0 w : World} {B : Nat} {O : Nat → Prop} {s : Ds} (h : Dw w0 w B O s) : Calls Try.prog 21 #[.pointer (some ⟨B, 0, none⟩)] w fun e w' => e = .returned (.int .i64 s.pages) ∧ Dw w0 w' B O s ∧ Sd w w' O := by
  obtain ⟨F, h1, h2, h3, h4⟩ := h
  refine (dz_pages h1).mono ?_
  rintro e w' ⟨rfl, hz, hk⟩
  exact ⟨rfl, Dw.step h2 h3 h4 hz hk fun k e => .inl e⟩
theorem dw_power {w0 w : World} {B : Nat} {O : Nat → Prop} {s : Ds} (h : Dw w0 w B O s) : Calls Try.prog 22 #[.pointer (some ⟨B, 0, none⟩)] w fun e w' => e = .returned (.bool (!s.off)) ∧ Dw w0 w' B O s ∧ Sd w w' O := by
  obtain ⟨F, h1, h2, h3, h4⟩ := h
  refine (dz_power h1).mono ?_
  rintro e w' ⟨rfl, hz, hk⟩
  exact ⟨rfl, Dw.step h2 h3 h4 hz hk fun k e => .inl e⟩
theorem dw_done {w0 w : World} {B : Nat} {O : Nat → Prop} {s : Ds} (h : Dw w0 w B O s) : Calls Try.prog 23 #[.pointer (some ⟨B, 0, none⟩)] w fun e w' => e = .returned (.int .i64 s.done) ∧ Dw w0 w' B O s ∧ Sd w w' O := by
  obtain ⟨F, h1, h2, h3, h4⟩ := h
  refine (dz_done h1).mono ?_
  rintro e w' ⟨rfl, hz, hk⟩
  exact ⟨rfl, Dw.step h2 h3 h4 hz hk fun k e => .inl e⟩
theorem dw_arm {w0 w : World} {B : Nat} {O : Nat → Prop} {s : Ds} (h : Dw w0 w B O s) (k : Int) : Calls Try.prog 31 #[.pointer (some ⟨B, 0, none⟩), .int .i64 k] w fun e w' => e = .returned (.int .i64 (s.arm k)) ∧ Dw w0 w' B O (s.armed k) ∧ Sd w w' O := by
  obtain ⟨F, h1, h2, h3, h4⟩ := h
  refine (dz_arm h1 k).mono ?_
  rintro e w' ⟨rfl, hz, hk⟩
  exact ⟨rfl, Dw.step h2 h3 h4 hz hk fun k e => .inl e⟩
theorem dw_write_no {w0 w : World} {B : Nat} {O : Nat → Prop} {s : Ds} (h : Dw w0 w B O s) (i : Int) (ao : Option Addr) (n c : Nat) (hr : s.refuse i n ≠ 0) : Calls Try.prog 18 #[.pointer (some ⟨B, 0, none⟩), .int .i64 i, .slice ao n c] w fun e w' => e = .returned (.int .i64 (s.refuse i n)) ∧ Dw w0 w' B O s ∧ Sd w w' O := by
  obtain ⟨F, h1, h2, h3, h4⟩ := h
  refine (dz_write_no h1 i ao n c hr).mono ?_
  rintro e w' ⟨rfl, hz, hk⟩
  exact ⟨rfl, Dw.step h2 h3 h4 hz hk fun k e => .inl e⟩
/-- A page that was made just now is written. -/
theorem dw_write {w0 w w1 : World} {B : Nat} {O : Nat → Prop} {s : Ds} (h : Dw w0 w B O s) (hg : w.grownBy w1 none) (i : Nat) (z : List Int) (hz : Rw w1 w.heap.size z) (hl : z.length = 4096) (bz : Bt z) (hr : s.refuse i 4096 = 0) (hd : s.done < 1099511627776) (hf : s.left < 9223372036854775808) :
    Calls Try.prog 18 #[.pointer (some ⟨B, 0, none⟩), .int .i64 i, .slice (some ⟨w.heap.size, 0, none⟩) 4096 4096] w1 fun e w' => e = .returned (.int .i64 s.ans) ∧ Dw w0 w' B O (s.put i z) ∧ Sd w1 w' O := by
  have low := h
  obtain ⟨F0, l1, -⟩ := low
  have h5 := h
  obtain ⟨F, h1, h2, h3, h4⟩ := h
  have g1 := h1.keptN hg
  refine (dz_write g1 i _ 4096 z (hz.all 4096 4096 hl.symm) (fun ad e x => by rw [← Option.some.inj e] at x; have := h1.low _ x; simp at this) bz hr hd hf).mono ?_
  rintro e w' ⟨rfl, hz, hk⟩
  exact ⟨rfl, Dw.step h2 (grown_trans h3 hg) (fun k e => Nat.lt_of_lt_of_le (h4 k e) hg.size) hz hk fun k e => e⟩
theorem dw_sync_off {w0 w : World} {B : Nat} {O : Nat → Prop} {s : Ds} (h : Dw w0 w B O s) (ho : s.off = true) : Calls Try.prog 27 #[.pointer (some ⟨B, 0, none⟩)] w fun e w' => e = .returned (.int .i64 123) ∧ Dw w0 w' B O s ∧ Sd w w' O := by
  obtain ⟨F, h1, h2, h3, h4⟩ := h
  refine (dz_sync_off h1 ho).mono ?_
  rintro e w' ⟨rfl, hz, hk⟩
  exact ⟨rfl, Dw.step h2 h3 h4 hz hk fun k e => .inl e⟩
theorem dw_sync_fail {w0 w : World} {B : Nat} {O : Nat → Prop} {s : Ds} (h : Dw w0 w B O s) (ho : s.off = false) (hl : s.left = 1) (hd : s.done < 1099511627776) : Calls Try.prog 27 #[.pointer (some ⟨B, 0, none⟩)] w fun e w' => e = .returned (.int .i64 123) ∧ Dw w0 w' B O s.spend ∧ Sd w w' O := by
  obtain ⟨F, h1, h2, h3, h4⟩ := h
  refine (dz_sync_fail h1 ho hl hd).mono ?_
  rintro e w' ⟨rfl, hz, hk⟩
  exact ⟨rfl, Dw.step h2 h3 h4 hz hk fun k e => .inl e⟩
theorem dw_sync {w0 w : World} {B : Nat} {O : Nat → Prop} {s : Ds} (h : Dw w0 w B O s) (ho : s.off = false) (hl : s.left ≠ 1) (hd : s.done < 1099511627776) (hl2 : s.left < 9223372036854775808) : Calls Try.prog 27 #[.pointer (some ⟨B, 0, none⟩)] w fun e w' => e = .returned (.int .i64 0) ∧ Dw w0 w' B O s.sync ∧ Sd w w' O := by
  obtain ⟨F, h1, h2, h3, h4⟩ := h
  refine (dz_sync h1 ho hl hd hl2).mono ?_
  rintro e w' ⟨rfl, hz, hk⟩
  exact ⟨rfl, Dw.step h2 h3 h4 hz hk fun k e => e⟩
theorem dw_crash {w0 w : World} {B : Nat} {O : Nat → Prop} {s : Ds} (h : Dw w0 w B O s) (ao : Option Addr) (fn fc : Nat) (fs : List (Int × Int)) (hF : Fl w ao fs) (hfl : fs.length = fn) (hfn : fn ≤ fc) (hfc : fc ≤ 9223372036854775807) (hfz : ∀ b off, ao = some ⟨b, off, none⟩ → b < w0.heap.size ∨ O b) (hd : s.done < 1099511627776) :
    Calls Try.prog 28 #[.pointer (some ⟨B, 0, none⟩), .slice ao fn fc] w fun e w' => e = .returned (.tuple #[]) ∧ Dw w0 w' B O (s.crash fs) ∧ Sd w w' O := by
  obtain ⟨F, h1, h2, h3, h4⟩ := h
  refine (dz_crash h1 ao fn fc fs hF hfl hfn hfc (fun b off e x => (hfz b off e).elim (fun y => by have := (h2 b x).1; omega) (h2 b x).2) hd).mono ?_
  rintro e w' ⟨rfl, hz, hk⟩
  exact ⟨rfl, Dw.step h2 h3 h4 hz hk fun k e => e⟩
theorem dw_read_no {w0 w : World} {B : Nat} {O : Nat → Prop} {s : Ds} (h : Dw w0 w B O s) (i : Int) (hi : i < 0 ∨ s.pages ≤ i) : Calls Try.prog 17 #[.pointer (some ⟨B, 0, none⟩), .int .i64 i] w fun e w' => e = .returned (.tuple #[.slice none 0 0, .int .i64 121]) ∧ Dw w0 w' B O s ∧ Sd w w' O := by
  obtain ⟨F, h1, h2, h3, h4⟩ := h
  refine (dz_read_no h1 i hi).mono ?_
  rintro e w' ⟨rfl, hz, hk⟩
  exact ⟨rfl, Dw.step h2 h3 h4 hz hk fun k e => .inl e⟩
theorem dw_read {w0 w : World} {B : Nat} {O : Nat → Prop} {s : Ds} (h : Dw w0 w B O s) (i : Nat) (hi : i < s.pages) (ho : s.off = false) (hr : s.reads < 4611686018427387904) : Calls Try.prog 17 #[.pointer (some ⟨B, 0, none⟩), .int .i64 i] w fun e w' => ∃ g, e = .returned (.tuple #[.slice (some ⟨g, 0, none⟩) 4096 4096, .int .i64 0]) ∧ Rw w' g (s.page i) ∧ w.heap.size ≤ g ∧ (s.page i).length = 4096 ∧ Bt (s.page i) ∧ Dw w0 w' B O s.read ∧ Sd w w' O := by
  obtain ⟨F, h1, h2, h3, h4⟩ := h
  refine (dz_read h1 i hi ho hr).mono ?_
  rintro e w' ⟨g, rfl, a1, a2, a3, a4, hz, hk⟩
  exact ⟨g, rfl, a1, a2, a3, a4, Dw.step h2 h3 h4 hz hk fun k e => .inl e⟩
theorem dw_durable {w0 w : World} {B : Nat} {O : Nat → Prop} {s : Ds} (h : Dw w0 w B O s) : Calls Try.prog 25 #[.pointer (some ⟨B, 0, none⟩)] w fun e w' => ∃ g L C, e = .returned (.slice (some ⟨g, 0, none⟩) L C) ∧ L = 4096 * s.L.length ∧ w'.ownsRow w.heap.size 5 1 (.slice (some ⟨g, 0, none⟩) L C) L (s.L.flatten.map (Value.int .u8)) ∧ Dw w0 w' B O s ∧ Sd w w' O := by
  obtain ⟨F, h1, h2, h3, h4⟩ := h
  refine (dz_durable h1).mono ?_
  rintro e w' ⟨g, L, C, rfl, a1, a2, hz, hk⟩
  exact ⟨g, L, C, rfl, a1, a2, Dw.step h2 h3 h4 hz hk fun k e => .inl e⟩
theorem dw_pending {w0 w : World} {B : Nat} {O : Nat → Prop} {s : Ds} (h : Dw w0 w B O s) (hd : s.done < 1099511627776) : Calls Try.prog 26 #[.pointer (some ⟨B, 0, none⟩)] w fun e w' => ∃ g ql, e = .returned (.slice (some ⟨g, 0, none⟩) s.Q.length s.Q.length) ∧ Wl w w' g ql ∧ (ql.map fun p => (p.1, p.2.2)) = s.Q ∧ Dw w0 w' B O s ∧ Sd w w' O := by
  obtain ⟨F, h1, h2, h3, h4⟩ := h
  refine (dz_pending h1 hd).mono ?_
  rintro e w' ⟨g, ql, rfl, a1, a2, hz, hk⟩
  exact ⟨g, ql, rfl, a1, a2, Dw.step h2 h3 h4 hz hk fun k e => .inl e⟩
end Go.Proofs.Ytiljdhhfhjhhiaa
