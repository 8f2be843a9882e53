import Derived.Test.YtiljdhhfhjhhiaaDk7
namespace Go.Proofs.Ytiljdhhfhjhhiaa
open Go.RowKit Go.MuLone

/-! ### a disk as the document has it -/

structure Ds where
  cap : Nat
  left : Nat
  off : Bool
  done : Nat
  reads : Nat
  L : List (List Int)
  Q : List (Nat × List Int)

def Dd.abs (d : Dd) : Ds := ⟨d.cap, d.left, d.off, d.done, d.reads, d.bl.map (·.2), d.pl.map fun p => (p.1, p.2.2)⟩
def Ds.pages (s : Ds) : Nat := s.Q.foldl (fun n q => max n (q.1 + 1)) s.L.length
def Ds.refuse (s : Ds) (i : Int) (n : Nat) : Int := if i < 0 ∨ s.pages < i then 121 else if s.cap ≤ i then 125 else if n ≠ 4096 then 122 else if s.off = true then 123 else 0
def Ds.ans (s : Ds) : Int := if s.left = 1 then 123 else 0
def Ds.spend (s : Ds) : Ds := { s with done := s.done + 1, left := s.left - 1, off := s.left == 1 }
def Ds.put (s : Ds) (i : Nat) (z : List Int) : Ds := { s.spend with Q := s.Q ++ [(i, z)] }
def Ds.sync (s : Ds) : Ds := { s.spend with L := s.Q.foldl (fun L q => landL L q.1 q.2 4096) s.L, Q := [] }
def fateQ (L : List (List Int)) (q : Nat × List Int) (f : Int × Int) : List (List Int) := if f.1 = 1 ∨ f.1 = 2 then landL L q.1 q.2 (rch f.1 f.2) else L
def Ds.crash (s : Ds) (fs : List (Int × Int)) : Ds := { s with L := (s.Q.zip fs).foldl (fun L q => fateQ L q.1 q.2) s.L, Q := [], left := 0, off := false }
def Ds.armed (s : Ds) (k : Int) : Ds := if k < 0 then s else if s.off = true then s else { s with left := k.toNat }
def Ds.arm (s : Ds) (k : Int) : Int := if k < 0 then 124 else if s.off = true then 123 else 0
def Ds.page (s : Ds) (i : Nat) : List Int := ((s.Q.reverse.find? fun q => q.1 == i).map (·.2)).getD (s.L.getD i [])
def Ds.read (s : Ds) : Ds := { s with reads := s.reads + 1 }

/-- A disk that nobody holds, as the document has it. -/
def Dz (w : World) (B : Nat) (F : Nat → Prop) (s : Ds) : Prop := ∃ d, Dk w B F d ∧ d.abs = s
/-- F and what is new. -/
def Nf (F : Nat → Prop) (w w' : World) : Nat → Prop := fun k => F k ∨ w.heap.size ≤ k ∧ k < w'.heap.size

theorem abs_pages (d : Dd) : d.abs.pages = pgs d.bl.length d.pl := by
  unfold Ds.pages Dd.abs pgs
  simp only [List.foldl_map, List.length_map]
theorem Dk.pages {w : World} {B : Nat} {F : Nat → Prop} {d : Dd} (h : Dk w B F d) : d.pg = d.abs.pages := by rw [abs_pages]; exact h.pg
theorem Dk.refuse {w : World} {B : Nat} {F : Nat → Prop} {d : Dd} (h : Dk w B F d) (i : Int) (n : Nat) : d.refuse i n = d.abs.refuse i n := by
  unfold Dd.refuse Ds.refuse
  rw [h.pages]
  rfl
theorem Dz.same {w w' : World} {B : Nat} {F : Nat → Prop} {s : Ds} (h : Dz w B F s) (hs : w.heap.size ≤ w'.heap.size) (e : ∀ k, F k → w'.heap[k]? = w.heap[k]?) : Dz w' B F s := by
  obtain ⟨d, h1, h2⟩ := h
  exact ⟨d, h1.same hs e, h2⟩
theorem Dz.keptN {w w' : World} {B : Nat} {F : Nat → Prop} {s : Ds} (h : Dz w B F s) (hg : w.grownBy w' none) : Dz w' B F s := by
  obtain ⟨d, h1, h2⟩ := h
  exact ⟨d, h1.keptN hg, h2⟩
theorem Dz.kept {w w' : World} {B : Nat} {F : Nat → Prop} {s : Ds} {row : Option Nat} (h : Dz w B F s) (hg : w.grownBy w' row) (hn : ∀ k, row = some k → ¬ F k) : Dz w' B F s := by
  obtain ⟨d, h1, h2⟩ := h
  exact ⟨d, h1.kept hg hn, h2⟩
theorem Dz.kp {w w' : World} {B : Nat} {F G : Nat → Prop} {s : Ds} (h : Dz w B F s) (hg : Kp w w' G) (hn : ∀ k, F k → ¬ G k) : Dz w' B F s := by
  obtain ⟨d, h1, h2⟩ := h
  exact ⟨d, h1.kp hg hn, h2⟩
theorem Dz.low {w : World} {B : Nat} {F : Nat → Prop} {s : Ds} (h : Dz w B F s) : ∀ k, F k → k < w.heap.size := by
  obtain ⟨d, h1, h2⟩ := h
  exact h1.dm.low
theorem Dz.fb {w : World} {B : Nat} {F : Nat → Prop} {s : Ds} (h : Dz w B F s) : F B := by
  obtain ⟨d, h1, h2⟩ := h
  exact h1.fb
theorem Dz.cap {w : World} {B : Nat} {F : Nat → Prop} {s : Ds} (h : Dz w B F s) : s.cap < 524288 := by
  obtain ⟨d, h1, rfl⟩ := h
  exact h1.cap
theorem Dz.le {w : World} {B : Nat} {F : Nat → Prop} {s : Ds} (h : Dz w B F s) : s.pages ≤ s.cap := by
  obtain ⟨d, h1, rfl⟩ := h
  rw [← h1.pages]; exact h1.le

/-- The disk is asked alone. -/
theorem Dk.asked {w w' : World} {B : Nat} {F : Nat → Prop} {d : Dd} {s : Ds} (h : Dk w B F d) (e : d.abs = s) (hb : Bx w' B 0 d) (hg : w.grownBy w' (some B)) : Dz w' B F s ∧ Kp w w' F :=
  ⟨⟨d, h.box hb hg, e⟩, Kp.of hg fun k e => by rw [← Option.some.inj e]; exact h.fb⟩

theorem dz_new (c : Nat) (w : World) (h : 2 ≤ c) (h2 : c < 524288) : Calls Try.prog 16 #[.int .i64 c] w fun e w' =>
    ∃ B, e = .returned (.pointer (some ⟨B, 0, none⟩)) ∧ w.grownBy w' none ∧ Dz w' B (fun k => w.heap.size ≤ k ∧ k < w'.heap.size) ⟨c, 0, false, 0, 0, [], []⟩ := by
  refine (new_b c w h h2).mono ?_
  rintro e w' ⟨B, rfl, hg, hk⟩
  exact ⟨B, rfl, hg, _, hk, rfl⟩
theorem dz_cap {w : World} {B : Nat} {F : Nat → Prop} {s : Ds} (h : Dz w B F s) : Calls Try.prog 20 #[.pointer (some ⟨B, 0, none⟩)] w fun e w' => e = .returned (.int .i64 s.cap) ∧ Dz w' B F s ∧ Kp w w' F := by
  obtain ⟨d, hk, rfl⟩ := h
  refine (cap_b hk.bx).mono ?_
  rintro e w' ⟨rfl, h1, h2⟩
  exact ⟨rfl, hk.asked rfl h1 h2⟩
theorem dz_pages {w : World} {B : Nat} {F : Nat → Prop} {s : Ds} (h : Dz w B F s) : Calls Try.prog 21 #[.pointer (some ⟨B, 0, none⟩)] w fun e w' => e = .returned (.int .i64 s.pages) ∧ Dz w' B F s ∧ Kp w w' F := by
  obtain ⟨d, hk, rfl⟩ := h
  refine (pages_b hk.bx).mono ?_
  rintro e w' ⟨rfl, h1, h2⟩
  exact ⟨by rw [hk.pages], hk.asked rfl h1 h2⟩
theorem dz_power {w : World} {B : Nat} {F : Nat → Prop} {s : Ds} (h : Dz w B F s) : Calls Try.prog 22 #[.pointer (some ⟨B, 0, none⟩)] w fun e w' => e = .returned (.bool (!s.off)) ∧ Dz w' B F s ∧ Kp w w' F := by
  obtain ⟨d, hk, rfl⟩ := h
  refine (power_b hk.bx).mono ?_
  rintro e w' ⟨rfl, h1, h2⟩
  exact ⟨rfl, hk.asked rfl h1 h2⟩
theorem dz_done {w : World} {B : Nat} {F : Nat → Prop} {s : Ds} (h : Dz w B F s) : Calls Try.prog 23 #[.pointer (some ⟨B, 0, none⟩)] w fun e w' => e = .returned (.int .i64 s.done) ∧ Dz w' B F s ∧ Kp w w' F := by
  obtain ⟨d, hk, rfl⟩ := h
  refine (done_b hk.bx).mono ?_
  rintro e w' ⟨rfl, h1, h2⟩
  exact ⟨rfl, hk.asked rfl h1 h2⟩
theorem dz_reads {w : World} {B : Nat} {F : Nat → Prop} {s : Ds} (h : Dz w B F s) : Calls Try.prog 24 #[.pointer (some ⟨B, 0, none⟩)] w fun e w' => e = .returned (.int .i64 s.reads) ∧ Dz w' B F s ∧ Kp w w' F := by
  obtain ⟨d, hk, rfl⟩ := h
  refine (reads_b hk.bx).mono ?_
  rintro e w' ⟨rfl, h1, h2⟩
  exact ⟨rfl, hk.asked rfl h1 h2⟩
theorem dz_arm {w : World} {B : Nat} {F : Nat → Prop} {s : Ds} (h : Dz w B F s) (k : Int) : Calls Try.prog 31 #[.pointer (some ⟨B, 0, none⟩), .int .i64 k] w fun e w' => e = .returned (.int .i64 (s.arm k)) ∧ Dz w' B F (s.armed k) ∧ Kp w w' F := by
  obtain ⟨d, hk, rfl⟩ := h
  refine (arm_b hk.bx k).mono ?_
  rintro e w' ⟨rfl, h1, h2⟩
  have hm := hk.dm.box hk.bx h2
  refine ⟨rfl, ⟨d.armed k, ?_, ?_⟩, Kp.of h2 fun k e => by rw [← Option.some.inj e]; exact hk.fb⟩
  · unfold Dd.armed at h1 ⊢
    split
    · rename_i e; rw [if_pos e] at h1; exact hk.box h1 h2
    · rename_i e
      rw [if_neg e] at h1
      split
      · rename_i e; rw [if_pos e] at h1; exact hk.box h1 h2
      · rename_i e
        rw [if_neg e] at h1
        exact ⟨h1, hm.scal rfl rfl rfl rfl rfl (Nat.le_refl _), hk.fb, hk.pg, hk.cap, hk.le, hk.gap⟩
  · unfold Dd.armed Ds.armed
    split
    · rfl
    · change Dd.abs (if d.off = true then d else _) = if d.off = true then _ else _
      split <;> rfl
theorem dz_write_no {w : World} {B : Nat} {F : Nat → Prop} {s : Ds} (h : Dz w B F s) (i : Int) (ao : Option Addr) (n c : Nat) (hr : s.refuse i n ≠ 0) : Calls Try.prog 18 #[.pointer (some ⟨B, 0, none⟩), .int .i64 i, .slice ao n c] w fun e w' => e = .returned (.int .i64 (s.refuse i n)) ∧ Dz w' B F s ∧ Kp w w' F := by
  obtain ⟨d, hk, rfl⟩ := h
  rw [← hk.refuse] at hr ⊢
  refine (write_no hk.bx i ao n c hr).mono ?_
  rintro e w' ⟨rfl, h1, h2⟩
  exact ⟨rfl, hk.asked rfl h1 h2⟩
theorem dz_write {w : World} {B : Nat} {F : Nat → Prop} {s : Ds} (h : Dz w B F s) (i : Nat) (ao : Option Addr) (c : Nat) (z : List Int) (hz : Byt w ao 4096 c z) (ha : ∀ ad, ao = some ad → ¬ F ad.block) (bz : Bt z) (hr : s.refuse i 4096 = 0) (hd : s.done < 1099511627776) (hl : s.left < 9223372036854775808) :
    Calls Try.prog 18 #[.pointer (some ⟨B, 0, none⟩), .int .i64 i, .slice ao 4096 c] w fun e w' => e = .returned (.int .i64 s.ans) ∧ Dz w' B (Nf F w w') (s.put i z) ∧ Kp w w' F := by
  obtain ⟨d, hk, rfl⟩ := h
  rw [← hk.refuse] at hr
  refine (write_ok hk i ao c z hz ha bz hr hd hl).mono ?_
  rintro e w' ⟨g, v, rfl, h1, h2⟩
  refine ⟨rfl, ⟨_, h1, ?_⟩, h2⟩
  simp [Dd.abs, Dd.put, Ds.put, Dd.spend, Ds.spend]
theorem dz_sync_off {w : World} {B : Nat} {F : Nat → Prop} {s : Ds} (h : Dz w B F s) (ho : s.off = true) : Calls Try.prog 27 #[.pointer (some ⟨B, 0, none⟩)] w fun e w' => e = .returned (.int .i64 123) ∧ Dz w' B F s ∧ Kp w w' F := by
  obtain ⟨d, hk, rfl⟩ := h
  refine (sync_off hk.bx ho).mono ?_
  rintro e w' ⟨rfl, h1, h2⟩
  exact ⟨rfl, hk.asked rfl h1 h2⟩
theorem dz_sync_fail {w : World} {B : Nat} {F : Nat → Prop} {s : Ds} (h : Dz w B F s) (ho : s.off = false) (hl : s.left = 1) (hd : s.done < 1099511627776) : Calls Try.prog 27 #[.pointer (some ⟨B, 0, none⟩)] w fun e w' => e = .returned (.int .i64 123) ∧ Dz w' B F s.spend ∧ Kp w w' F := by
  obtain ⟨d, hk, rfl⟩ := h
  refine (sync_fail hk.bx ho hl hd).mono ?_
  rintro e w' ⟨rfl, h1, h2⟩
  have hm := hk.dm.box hk.bx h2
  exact ⟨rfl, ⟨d.spend, ⟨h1, hm.scal rfl rfl rfl rfl rfl (Nat.le_succ _), hk.fb, hk.pg, hk.cap, hk.le, hk.gap⟩, rfl⟩, Kp.of h2 fun k e => by rw [← Option.some.inj e]; exact hk.fb⟩
theorem dz_sync {w : World} {B : Nat} {F : Nat → Prop} {s : Ds} (h : Dz w B F s) (ho : s.off = false) (hl : s.left ≠ 1) (hd : s.done < 1099511627776) (hl2 : s.left < 9223372036854775808) : Calls Try.prog 27 #[.pointer (some ⟨B, 0, none⟩)] w fun e w' => e = .returned (.int .i64 0) ∧ Dz w' B (Nf F w w') s.sync ∧ Kp w w' F := by
  obtain ⟨d, hk, rfl⟩ := h
  refine (sync_ok hk ho hl hd hl2).mono ?_
  rintro e w' ⟨rfl, v, bl, h1, h2, h3⟩
  refine ⟨rfl, ⟨_, h1, ?_⟩, h2⟩
  have e2 : landA (d.bl.map (·.2)) d.pl = (d.pl.map fun p => (p.1, p.2.2)).foldl (fun L q => landL L q.1 q.2 4096) (d.bl.map (·.2)) := by
    unfold landA
    rw [List.foldl_map]
  rw [e2] at h3
  simp [Dd.abs, Dd.sync, Ds.sync, Dd.spend, Ds.spend, h3]
theorem dz_crash {w : World} {B : Nat} {F : Nat → Prop} {s : Ds} (h : Dz w B F s) (ao : Option Addr) (fn fc : Nat) (fs : List (Int × Int)) (hF : Fl w ao fs) (hfl : fs.length = fn) (hfn : fn ≤ fc) (hfc : fc ≤ 9223372036854775807) (hfz : ∀ b off, ao = some ⟨b, off, none⟩ → ¬ F b) (hd : s.done < 1099511627776) :
    Calls Try.prog 28 #[.pointer (some ⟨B, 0, none⟩), .slice ao fn fc] w fun e w' => e = .returned (.tuple #[]) ∧ Dz w' B (Nf F w w') (s.crash fs) ∧ Kp w w' F := by
  obtain ⟨d, hk, rfl⟩ := h
  refine (crash_any hk ao fn fc fs hF hfl hfn hfc hfz hd).mono ?_
  rintro e w' ⟨rfl, v, bl, h1, h2, h3⟩
  refine ⟨rfl, ⟨_, h1, ?_⟩, h2⟩
  have e2 : landF (d.bl.map (·.2)) (d.pl.zip fs) = ((d.pl.map fun p => (p.1, p.2.2)).zip fs).foldl (fun L q => fateQ L q.1 q.2) (d.bl.map (·.2)) := by
    unfold landF
    rw [List.zip_map_left, List.foldl_map]
    rfl
  rw [e2] at h3
  simp [Dd.abs, Dd.crash, Ds.crash, h3]
theorem dz_read_no {w : World} {B : Nat} {F : Nat → Prop} {s : Ds} (h : Dz w B F s) (i : Int) (hi : i < 0 ∨ s.pages ≤ i) : Calls Try.prog 17 #[.pointer (some ⟨B, 0, none⟩), .int .i64 i] w fun e w' => e = .returned (.tuple #[.slice none 0 0, .int .i64 121]) ∧ Dz w' B F s ∧ Kp w w' F := by
  obtain ⟨d, hk, rfl⟩ := h
  refine (read_no hk.bx i (by rw [hk.pages]; exact hi)).mono ?_
  rintro e w' ⟨rfl, h1, h2⟩
  exact ⟨rfl, hk.asked rfl h1 h2⟩
theorem dz_read_off {w : World} {B : Nat} {F : Nat → Prop} {s : Ds} (h : Dz w B F s) (i : Nat) (hi : i < s.pages) (ho : s.off = true) : Calls Try.prog 17 #[.pointer (some ⟨B, 0, none⟩), .int .i64 i] w fun e w' => e = .returned (.tuple #[.slice none 0 0, .int .i64 123]) ∧ Dz w' B F s ∧ Kp w w' F := by
  obtain ⟨d, hk, rfl⟩ := h
  refine (read_off hk.bx i (by rw [hk.pages]; exact hi) ho).mono ?_
  rintro e w' ⟨rfl, h1, h2⟩
  exact ⟨rfl, hk.asked rfl h1 h2⟩
theorem abs_page_some {d : Dd} {i : Nat} {p : Nat × Nat × List Int} (h : dat d.pl i = some p) : d.abs.page i = p.2.2 := by
  unfold Ds.page Dd.abs
  unfold dat at h
  simp only [← List.map_reverse, List.find?_map]
  have e : (fun q : Nat × List Int => q.1 == i) ∘ (fun p : Nat × Nat × List Int => (p.1, p.2.2)) = fun p => p.1 == i := rfl
  rw [e, h]
  rfl
theorem abs_page_none {d : Dd} {i : Nat} {x : Nat × List Int} (h : dat d.pl i = none) (hx : d.bl[i]? = some x) : d.abs.page i = x.2 := by
  unfold Ds.page Dd.abs
  unfold dat at h
  simp only [← List.map_reverse, List.find?_map]
  have e : (fun q : Nat × List Int => q.1 == i) ∘ (fun p : Nat × Nat × List Int => (p.1, p.2.2)) = fun p => p.1 == i := rfl
  rw [e, h]
  simp [List.getD, hx]
theorem dz_read {w : World} {B : Nat} {F : Nat → Prop} {s : Ds} (h : Dz w B F s) (i : Nat) (hi : i < s.pages) (ho : s.off = false) (hr : s.reads < 4611686018427387904) : Calls Try.prog 17 #[.pointer (some ⟨B, 0, none⟩), .int .i64 i] w fun e w' => ∃ g, e = .returned (.tuple #[.slice (some ⟨g, 0, none⟩) 4096 4096, .int .i64 0]) ∧ Rw w' g (s.page i) ∧ w.heap.size ≤ g ∧ (s.page i).length = 4096 ∧ Bt (s.page i) ∧ Dz w' B F s.read ∧ Kp w w' F := by
  obtain ⟨d, hk, rfl⟩ := h
  rw [← hk.pages] at hi
  cases hp : dat d.pl i with
  | some p =>
    refine (read_pend hk i hi ho hr p hp).mono ?_
    rintro e w' ⟨g, rfl, h1, h2, h3, h4⟩
    rw [abs_page_some hp]
    have pb := (hk.dm.pp p (dat_mem hp).1).1
    exact ⟨g, rfl, h1, h2, pb.len, pb.bt, ⟨_, hk.read h3 h4, rfl⟩, Kp.of h4 fun k e => by rw [← Option.some.inj e]; exact hk.fb⟩
  | none =>
    refine (read_last hk i hi ho hr hp).mono ?_
    rintro e w' ⟨g, x, hx, rfl, h1, h2, h3, h4⟩
    rw [abs_page_none hp hx]
    have pb := hk.dm.bp x (List.mem_of_getElem? hx)
    exact ⟨g, rfl, h1, h2, pb.len, pb.bt, ⟨_, hk.read h3 h4, rfl⟩, Kp.of h4 fun k e => by rw [← Option.some.inj e]; exact hk.fb⟩
theorem dz_durable {w : World} {B : Nat} {F : Nat → Prop} {s : Ds} (h : Dz w B F s) : Calls Try.prog 25 #[.pointer (some ⟨B, 0, none⟩)] w fun e w' => ∃ g L C, e = .returned (.slice (some ⟨g, 0, none⟩) L C) ∧ L = 4096 * s.L.length ∧ w'.ownsRow w.heap.size 5 1 (.slice (some ⟨g, 0, none⟩) L C) L (s.L.flatten.map (Value.int .u8)) ∧ Dz w' B F s ∧ Kp w w' F := by
  obtain ⟨d, hk, rfl⟩ := h
  refine (durable_any hk).mono ?_
  rintro e w' ⟨g, L, C, rfl, h1, h2, h3, h4⟩
  exact ⟨g, L, C, rfl, by rw [h1]; simp [Dd.abs], h2, hk.asked rfl h3 h4⟩
theorem dz_pending_nil {w : World} {B : Nat} {F : Nat → Prop} {s : Ds} (h : Dz w B F s) (hq : s.Q = []) : Calls Try.prog 26 #[.pointer (some ⟨B, 0, none⟩)] w fun e w' => ∃ g, e = .returned (.slice (some ⟨g, 0, none⟩) 0 0) ∧ Dz w' B F s ∧ Kp w w' F := by
  obtain ⟨d, hk, rfl⟩ := h
  refine (pending_nil hk (List.map_eq_nil_iff.1 hq)).mono ?_
  rintro e w' ⟨g, rfl, h3, h4⟩
  exact ⟨g, rfl, hk.asked rfl h3 h4⟩
end Go.Proofs.Ytiljdhhfhjhhiaa
