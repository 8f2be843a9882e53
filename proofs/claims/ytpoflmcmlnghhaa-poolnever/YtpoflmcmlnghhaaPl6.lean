import Derived.Test.YtpoflmcmlnghhaaPl5
namespace Go.Proofs.Ytpoflmcmlnghhaa
open Go.RowKit Go.Maps

/-- These numbers laid in, all since v. -/
def puts (l : List (Int × Int)) (g : List Int) (v : Int) : List (Int × Int) := g.foldl (fun l x => putI l x v) l
theorem puts_snoc (l : List (Int × Int)) (g : List Int) (x v : Int) : puts l (g ++ [x]) v = putI (puts l g v) x v := by simp [puts]
theorem puts_len (l : List (Int × Int)) (g : List Int) (v : Int) : (puts l g v).length ≤ l.length + g.length := by
  induction g generalizing l with
  | nil => simp [puts]
  | cons x g ih =>
    have h1 := ih (putI l x v)
    have h2 := put_len l x v
    show (puts (putI l x v) g v).length ≤ _
    simp
    omega
theorem Ris.puts {l : List (Int × Int)} (h : Ris l) (g : List Int) (v : Int) : Ris (puts l g v) := by
  induction g generalizing l with
  | nil => exact h
  | cons x g ih => exact ih (h.put x v)
theorem mem_puts (l : List (Int × Int)) (g : List Int) (v : Int) (p : Int × Int) : p ∈ puts l g v ↔ (p.1 ∈ g ∧ p.2 = v) ∨ (p ∈ l ∧ p.1 ∉ g) := by
  induction g generalizing l with
  | nil => simp [puts]
  | cons x g ih =>
    show p ∈ puts (putI l x v) g v ↔ _
    rw [ih, mem_putI]
    simp only [List.mem_cons, not_or]
    constructor
    · rintro (⟨h1, h2⟩ | ⟨rfl | ⟨h1, h2⟩, h3⟩)
      · exact .inl ⟨.inr h1, h2⟩
      · exact .inl ⟨.inl rfl, rfl⟩
      · exact .inr ⟨h1, h2, h3⟩
    · rintro (⟨h1 | h1, h2⟩ | ⟨h1, h2, h3⟩)
      · by_cases hg : p.1 ∈ g
        · exact .inl ⟨hg, h2⟩
        · exact .inr ⟨.inl (Prod.ext h1 h2), hg⟩
      · exact .inl ⟨h1, h2⟩
      · exact .inr ⟨.inr ⟨h1, h2⟩, h3⟩
theorem puts_new {g : List Int} (h : RisZ g) (v : Int) : puts [] g v = g.map fun x => (x, v) := by
  refine Ris.ext (Ris.nil.puts g v) (List.pairwise_map.2 (h.imp fun {a b} hab => hab)) fun p => ?_
  rw [mem_puts]
  simp only [List.mem_map, List.not_mem_nil, false_and, or_false]
  constructor
  · rintro ⟨h1, h2⟩
    exact ⟨p.1, h1, Prod.ext rfl h2.symm⟩
  · rintro ⟨x, hx, rfl⟩
    exact ⟨hx, rfl⟩

/-- May such a pool be? -/
def newOk (c k : Int) (g : List Int) : Bool := decide (2 ≤ c) && decide (c ≤ k) && decide (k ≤ 524287) && rp 1 c g
def newP (c k : Int) (g : List Int) : Po := ⟨c, k, g.map fun x => (x, 0), []⟩
theorem rp_wf {last c : Int} {g : List Int} (h : rp last c g = true) (h1 : 0 ≤ last) (h2 : c ≤ 9000000000) : Wf g := by
  intro x hx
  have := ((rp_iff last c g).1 h).2 x hx
  omega

set_option maxHeartbeats 1000000 in
set_option maxRecDepth 100000 in
theorem new_no (c k : Int) (a : Option Addr) (n cap : Nat) (g : List Int) (w : World) (hl : Nt w a g) (hn : g.length = n) (hm : n ≤ 9223372036854775807) (hk : newOk c k g = false) :
    Calls Try.prog 12 #[.int .i64 c, .int .i64 k, .slice a n cap] w fun e w' => e = .returned (.pointer none) ∧ w' = w := by
  have HC := hid_intro (rise_any a n cap c g w hl hn hm)
  clear hl
  by_cases h1 : c < 2
  · go_enter Try.func12, Try.ntmps12
    go_wp2
    go_ret
    exact ⟨rfl, rfl⟩
  · by_cases h2 : k < c
    · go_enter Try.func12, Try.ntmps12
      go_wp2
      go_ret
      exact ⟨rfl, rfl⟩
    · by_cases h3 : 524287 < k
      · go_enter Try.func12, Try.ntmps12
        go_wp2
        go_ret
        exact ⟨rfl, rfl⟩
      · have hr : rp 1 c g = false := by
          unfold newOk at hk
          simp only [show 2 ≤ c by omega, show c ≤ k by omega, show k ≤ 524287 by omega, decide_true, Bool.true_and] at hk
          exact hk
        rw [hr] at HC
        clear hr hk
        go_enter Try.func12, Try.ntmps12
        go_wp2_with (go_at_call 36; refine HC.out.mono ?_; rintro en w2 ⟨rfl, rfl⟩)
        go_ret
        exact ⟨rfl, rfl⟩

set_option maxHeartbeats 2000000 in
set_option maxRecDepth 100000 in
theorem new_yes (c k : Int) (a : Option Addr) (n cap : Nat) (g : List Int) (w : World) (hl : Nt w a g) (hn : g.length = n) (hm : n ≤ 1000000) (hk : newOk c k g = true) :
    Calls Try.prog 12 #[.int .i64 c, .int .i64 k, .slice a n cap] w fun e w' => ∃ B s q, e = .returned (.pointer (some ⟨B, 0, none⟩)) ∧ Pl w' B s q (newP c k g) ∧ w.grownBy w' none ∧ (∀ i, Bk B s q i → w.heap.size ≤ i) := by
  have HC := hid_intro (rise_any a n cap c g w hl hn (by omega))
  simp only [newOk, Bool.and_eq_true, decide_eq_true_eq] at hk
  obtain ⟨⟨⟨h1, h2⟩, h3⟩, hr⟩ := hk
  rw [hr] at HC
  have HL := hid_intro hl
  have HR := hid_intro ((rp_iff 1 c g).1 hr).1
  have HW := hid_intro (rp_wf hr (by omega) (by omega))
  clear hl hr
  have hmm := @run_makeMap Try.prog
  have h1' : ¬ c < 2 := by omega
  have h2' : ¬ k < c := by omega
  have h3' : ¬ 524287 < k := by omega
  go_enter Try.func12, Try.ntmps12
  go_wp2_with (go_at_call 36; refine HC.out.mono ?_; rintro en w ⟨rfl, rfl⟩)
  have HP0 : Hid (Pl (((w.alloc (Obj.map #[] 0)).alloc (Obj.map #[] 0)).alloc (Obj.cells #[Value.int IntKind.i64 c, Value.int IntKind.i64 k, Value.map (some w.heap.size), Value.map (some (w.heap.size + 1))] 69)) (w.heap.size + 1 + 1) w.heap.size (w.heap.size + 1) ⟨c, k, [], []⟩) := by
    have hs1 : (w.alloc (Obj.map #[] 0)).heap.size = w.heap.size + 1 := by simp
    have hs2 : ((w.alloc (Obj.map #[] 0)).alloc (Obj.map #[] 0)).heap.size = w.heap.size + 1 + 1 := by simp
    have m1 := ((Im.made w).keptN (World.grownBy_alloc _ (Obj.map #[] 0) none)).keptN (World.grownBy_alloc _ (Obj.cells #[Value.int IntKind.i64 c, Value.int IntKind.i64 k, Value.map (some w.heap.size), Value.map (some (w.heap.size + 1))] 69) none)
    have m2 := (Im.made (w.alloc (Obj.map #[] 0))).keptN (World.grownBy_alloc _ (Obj.cells #[Value.int IntKind.i64 c, Value.int IntKind.i64 k, Value.map (some w.heap.size), Value.map (some (w.heap.size + 1))] 69) none)
    rw [hs1] at m2
    refine ⟨?_, m1, m2, by show w.heap.size ≠ w.heap.size + 1; omega⟩
    have := heap_alloc_new ((w.alloc (Obj.map #[] 0)).alloc (Obj.map #[] 0)) (Obj.cells #[Value.int IntKind.i64 c, Value.int IntKind.i64 k, Value.map (some w.heap.size), Value.map (some (w.heap.size + 1))] 69)
    rw [hs2] at this
    exact this
  have HG0 : Hid (w.grownBy (((w.alloc (Obj.map #[] 0)).alloc (Obj.map #[] 0)).alloc (Obj.cells #[Value.int IntKind.i64 c, Value.int IntKind.i64 k, Value.map (some w.heap.size), Value.map (some (w.heap.size + 1))] 69)) none) :=
    grown_trans (grown_trans (World.grownBy_alloc _ _ none) (World.grownBy_alloc _ _ none)) (World.grownBy_alloc _ _ none)
  generalize ((w.alloc (Obj.map #[] 0)).alloc (Obj.map #[] 0)).alloc (Obj.cells #[Value.int IntKind.i64 c, Value.int IntKind.i64 k, Value.map (some w.heap.size), Value.map (some (w.heap.size + 1))] 69) = w1 at *
  have HN : Hid (∀ i, Bk (w.heap.size + 1 + 1) w.heap.size (w.heap.size + 1) i → w.heap.size ≤ i) := by
    rintro i (rfl | rfl | rfl) <;> omega
  generalize w.heap.size + 1 + 1 = B at *
  generalize w.heap.size + 1 = q at *
  go_loopw [9, 35] (fun _ si wr => ∃ i : Nat, i ≤ n ∧ si = .int .i64 i ∧ Pl wr B w.heap.size q ⟨c, k, puts [] (g.take i) 0, []⟩ ∧ w.grownBy wr none) (fun _ si _ => n - (zOf si).toNat)
  case atStart => exact ⟨0, Nat.zero_le _, rfl, HP0.out, HG0.out⟩
  case round =>
    obtain ⟨i, hi, rfl, hp, hg⟩ := hrel
    have HP := hid_intro hp
    have HG := hid_intro hg
    have c2 := hp.c2
    have HM : Hid (Im wr w.heap.size (puts [] (g.take i) 0)) := hp.ms
    have hpl := puts_len [] (g.take i) 0
    rw [List.length_take] at hpl
    simp only [List.length_nil] at hpl
    clear hp hg HP0 HG0 hmm
    by_cases hlt : i < n
    · obtain ⟨b, off, rfl, d0⟩ := HL.out.row i (by omega)
      have d1 := HG.out.cell d0 (by simp)
      have hx := HW.out.getD (i := i) (by omega)
      have HTK := hid_intro (take_snoc (L := g) (i := i) (by omega))
      clear d0
      generalize g.getD i 0 = x at *
      go_wp2_with (first
        | (at_mapUpdate; refine wpList_mapUpdate_own _ rfl _ _ _ 67 rfl 3 3 keyedI Try.underlying67 _ w.heap.size _ (imD (puts [] (g.take i) 0)) rfl HM.out (by unfold maxLen; omega) _ _ _ rfl rfl (keyOf_int_mk Try.underlying3 (wf64 hx)) _ [] (plainElem_int Try.underlying3 (wf64 (z := 0) (by omega))) ?_; intro w3 hown3 hg3)
        | go_in)
      have hp3 := HP.out.setS hg3 (Im.put hown3)
      rw [← puts_snoc, ← HTK.out] at hp3
      have HP3 := hid_intro hp3
      have HG3 := hid_intro (HG.out.andThen hg3 (fun j e => .inl (HN.out j (.inr (.inl (Option.some.inj e).symm)))))
      clear hp3 hg3 hown3
      go_wp2
      go_roundw
      case rel => exact ⟨i + 1, by omega, by go_num, HP3.out, HG3.out⟩
      case measure => simp [zOf]; omega
    · have hin : i = n := by omega
      subst hin
      have HP4 : Hid (Pl wr B w.heap.size q (newP c k g)) := by
        have := HP.out
        rw [← hn, List.take_length, puts_new HR.out] at this
        exact this
      go_wp2
      go_ret
      exact ⟨B, w.heap.size, q, rfl, HP4.out, HG.out, HN.out⟩

/-! ### Commit -/
theorem own_base {w : World} {base base' sz n : Nat} {e : TypeId} {v : Value} {xs : List Value} (h : w.ownsRow base e sz v n xs) (hb : base' ≤ base) : w.ownsRow base' e sz v n xs := by
  refine ⟨h.1, ?_⟩
  rcases h.2 with h0 | ⟨g, cap, cur, rfl, hg, r⟩
  · exact .inl h0
  · exact .inr ⟨g, cap, cur, rfl, Nat.le_trans hb hg, r⟩
/-- How many numbers a commit takes; the pool behind it. -/
def cmN (p : Po) (d : Int) (g : List Int) : Nat := (d + lsP p d g).toNat
def cmP (p : Po) (d : Int) (g : List Int) (v : Int) : Po := { tkP p (cmN p d g) with l := puts (tkP p (cmN p d g)).l g v }

theorem lsP_range {p : Po} (ok : Ok p) (hr : Ris p.l) (d : Int) (g : List Int) (hg : g.length ≤ 1000000) : -1 ≤ lsP p d g ∧ lsP p d g ≤ 2000000 := by
  have h1 := ok.len hr
  have h2 := lst_le (p.l.length + g.length) (us p).length (min d (us p).length).toNat
  unfold lsP
  split
  · omega
  · omega

set_option maxHeartbeats 1000000 in
set_option maxRecDepth 100000 in
theorem commit_pool {w : World} {B s q : Nat} {p : Po} (h : Pl w B s q p) (ok : Ok p) (d : Int) (a : Option Addr) (n cap : Nat) (g : List Int) (v : Int) (hl : Nt w a g) (hn : g.length = n) (hw : Wf g) (hm : n ≤ 1000000) (hd2 : d ≤ 9223372036854775807) (hf : lsP p d g = -1) :
    Calls Try.prog 23 #[.pointer (some ⟨B, 0, none⟩), .int .i64 d, .slice a n cap, .int .i64 v] w fun e w' => e = .returned (.tuple #[.slice none 0 0, .int .i64 171]) ∧ w.grownBy w' none := by
  have HC := hid_intro (lists_any h ok d a n cap g hl hn hw hm hd2)
  rw [hf] at HC
  clear h ok hl hw hf
  go_enter Try.func23, Try.ntmps23
  go_wp2_with (go_at_call 22; refine HC.out.mono ?_; rintro en w2 ⟨rfl, hg2⟩)
  go_ret2
  exact ⟨rfl, hg2⟩

set_option maxHeartbeats 1000000 in
set_option maxRecDepth 100000 in
theorem commit_full {w : World} {B s q : Nat} {p : Po} (h : Pl w B s q p) (ok : Ok p) (d : Int) (a : Option Addr) (n cap : Nat) (g : List Int) (v : Int) (hl : Nt w a g) (hn : g.length = n) (hw : Wf g) (hm : n ≤ 1000000) (hd2 : d ≤ 9223372036854775807) (hf : 0 ≤ lsP p d g) (hr : rm p - lsP p d g < d) :
    Calls Try.prog 23 #[.pointer (some ⟨B, 0, none⟩), .int .i64 d, .slice a n cap, .int .i64 v] w fun e w' => e = .returned (.tuple #[.slice none 0 0, .int .i64 170]) ∧ w.grownBy w' none := by
  have HC := hid_intro (lists_any h ok d a n cap g hl hn hw hm hd2)
  have hfr := lsP_range ok h.ms.ris d g (by omega)
  have hrr : 0 ≤ rm p ∧ rm p ≤ 2000000 := by
    have := us_len p
    have := ok.len h.ms.ris
    have := ok.ck
    have := ok.k
    have := ok.c2
    unfold rm
    omega
  have HRM := hid_intro (fun (W : World) (hW : w.grownBy W none) => room_any (h.keptN hW) ok)
  clear h ok hl hw
  generalize lsP p d g = f at *
  generalize rm p = r at *
  have hf' : ¬ f < 0 := by omega
  go_enter Try.func23, Try.ntmps23
  go_wp2_with (first
    | (go_at_call 22; refine HC.out.mono ?_; rintro en w2 ⟨rfl, hg2⟩; have HG2 := hid_intro hg2; clear hg2)
    | (go_at_call 19; refine (HRM.out w2 HG2.out).mono ?_; rintro en w3 ⟨rfl, hg3⟩; have HG3 := hid_intro (grown_trans HG2.out hg3); clear hg3))
  go_ret2
  exact ⟨rfl, HG3.out⟩

set_option maxHeartbeats 2000000 in
set_option maxRecDepth 100000 in
theorem commit_ok {w : World} {B s q : Nat} {p : Po} (h : Pl w B s q p) (ok : Ok p) (d : Int) (a : Option Addr) (n cap : Nat) (g : List Int) (v : Int) (hl : Nt w a g) (hab : ∀ ad, a = some ad → 0 < n → ¬ Bk B s q ad.block) (hn : g.length = n) (hw : Wf g) (hm : n ≤ 1000000) (hd1 : 0 ≤ d) (hd2 : d ≤ 9223372036854775807) (hf : 0 ≤ lsP p d g) (hr : d ≤ rm p - lsP p d g) (hv : -9223372036854775808 ≤ v ∧ v ≤ 9223372036854775807) :
    Calls Try.prog 23 #[.pointer (some ⟨B, 0, none⟩), .int .i64 d, .slice a n cap, .int .i64 v] w fun e w' => ∃ u, e = .returned (.tuple #[u, .int .i64 0]) ∧ w'.ownsRow w.heap.size 3 1 u (cmN p d g) ((tkn p (cmN p d g)).map (Value.int .i64)) ∧ Pl w' B s q (cmP p d g v) ∧ Fr w w' (Bk B s q) := by
  have HC := hid_intro (lists_any h ok d a n cap g hl hn hw hm hd2)
  have hfr := lsP_range ok h.ms.ris d g (by omega)
  have hpl := ok.len h.ms.ris
  have hrr : 0 ≤ rm p ∧ rm p ≤ 2000000 := by
    have := us_len p
    have := ok.ck
    have := ok.k
    have := ok.c2
    unfold rm
    omega
  have HRM := hid_intro (fun (W : World) (hW : w.grownBy W none) => room_any (h.keptN hW) ok)
  have HCP : Hid (cmP p d g v = { tkP p (cmN p d g) with l := puts (tkP p (cmN p d g)).l g v }) := rfl
  have hN : ((cmN p d g : Nat) : Int) = d + lsP p d g := by unfold cmN; omega
  have HT := hid_intro (fun (W : World) (hW : w.grownBy W none) => take_any (h.keptN hW) (by omega) (by have := ok.c2; omega) (by have := ok.ck; have := ok.k; omega) (cmN p d g) (by omega))
  have htl : (tkP p (cmN p d g)).l.length ≤ 1000000 := by
    have := dels_len p.l ((us p).take (cmN p d g))
    show (dels p.l ((us p).take (cmN p d g))).length ≤ _
    omega
  have HL := hid_intro hl
  have HW := hid_intro hw
  have HAB := hid_intro hab
  clear h ok hl hw hab
  generalize lsP p d g = f at *
  generalize rm p = r at *
  generalize cmN p d g = N at *
  generalize tkP p N = p1 at *
  generalize cmP p d g v = p2 at *
  have hf' : decide (f < 0) = false := by simp; omega
  have hr' : decide (r - f < d) = false := by simp; omega
  have hd3 : d ≤ 2000000 := by omega
  have hNb : (N : Int) ≤ 4000000 := by omega
  have hNb0 : (0 : Int) ≤ (N : Int) := by omega
  have hw0 : IntKind.i64.wrap (d + f) = (N : Int) := by rw [hN.symm]; simp [IntKind.wrap, IntKind.signed, IntKind.bits]; omega
  have hN' : d + f = (N : Int) := hN.symm
  clear hN
  go_enter Try.func23, Try.ntmps23
  go_wp2_with (first
    | (go_at_call 22; refine HC.out.mono ?_; rintro en w2 ⟨rfl, hg2⟩; have HG2 := hid_intro hg2; clear hg2)
    | (go_at_call 19; refine (HRM.out w2 HG2.out).mono ?_; rintro en w3 ⟨rfl, hg3⟩; have HG3 := hid_intro (grown_trans HG2.out hg3); clear hg3)
    | (go_at_call 44; refine (HT.out w3 HG3.out).mono ?_; rintro en w4 ⟨u, rfl, ho4, hp4, hf4⟩; have HO4 := hid_intro ho4; have HP4 := hid_intro hp4; have HF4 := hid_intro ((Fr.ofN HG3.out).trans hf4); have hs3 := HG3.out.size; clear ho4 hp4 hf4))
  go_loopw [13, 35] (fun _ si wr => ∃ i : Nat, i ≤ n ∧ si = .int .i64 i ∧ Pl wr B s q { p1 with l := puts p1.l (g.take i) v } ∧ wr.ownsRow w3.heap.size 3 1 u N ((tkn p N).map (Value.int .i64)) ∧ Fr w wr (Bk B s q)) (fun _ si _ => n - (zOf si).toNat)
  case atStart => exact ⟨0, Nat.zero_le _, rfl, HP4.out, HO4.out, HF4.out⟩
  case round =>
    obtain ⟨i, hi, rfl, hp, ho, hfw⟩ := hrel
    have HP := hid_intro hp
    have HO := hid_intro ho
    have HF := hid_intro hfw
    have c2 := hp.c2
    have HM : Hid (Im wr s (puts p1.l (g.take i) v)) := hp.ms
    have hpl2 := puts_len p1.l (g.take i) v
    rw [List.length_take] at hpl2
    clear hp ho hfw HP4 HO4 HF4
    by_cases hlt : i < n
    · obtain ⟨b, off, rfl, d0⟩ := (HF.out.nt HL.out (fun ad e h0 => HAB.out ad e (by omega))).row i (by omega)
      have hx := HW.out.getD (i := i) (by omega)
      have HTK := hid_intro (take_snoc (L := g) (i := i) (by omega))
      generalize g.getD i 0 = x at *
      go_wp2_with (first
        | (at_mapUpdate; refine wpList_mapUpdate_own _ rfl _ _ _ 67 rfl 3 3 keyedI Try.underlying67 _ s _ (imD (puts p1.l (g.take i) v)) rfl HM.out (by unfold maxLen; omega) _ _ _ rfl rfl (keyOf_int_mk Try.underlying3 (wf64 hx)) _ [] (plainElem_int Try.underlying3 (wf64 hv)) ?_; intro w5 hown5 hg5)
        | go_in)
      have hp5 := HP.out.setS hg5 (Im.put hown5)
      rw [← puts_snoc, ← HTK.out] at hp5
      have HP5 := hid_intro hp5
      have HO5 := hid_intro (own_keptR HO.out hg5 (fun g e e' => own_ne_map HO.out HM.out (by rw [e, ← e'])))
      have HF5 := hid_intro (HF.out.trans (Fr.of hg5 (fun j e => .inr (.inr (.inl (Option.some.inj e).symm)))))
      clear hp5 hg5 hown5
      go_wp2
      go_roundw
      case rel => exact ⟨i + 1, by omega, by go_num, HP5.out, HO5.out, HF5.out⟩
      case measure => simp [zOf]; omega
    · have hin : i = n := by omega
      subst hin
      have HP6 : Hid (Pl wr B s q p2) := by
        have := HP.out
        rw [← hn, List.take_length] at this
        show Pl wr B s q p2
        rw [HCP.out]
        exact this
      have HO6 := hid_intro (own_base HO.out hs3)
      go_wp2
      go_ret2
      exact ⟨_, rfl, HO6.out, HP6.out, HF.out⟩
end Go.Proofs.Ytpoflmcmlnghhaa
