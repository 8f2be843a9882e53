import Derived.Test.YtomknmboapgmbaaBr1
import Derived.Test.YtomknmboapgmbaaBr6
namespace Go.Proofs.Ytomknmboapgmbaa
open Go.RowKit

theorem results_tmp3 {fn : Func} {t u v : Tmp} (h : fn.results = #[.tmp t, .tmp u, .tmp v]) (tmps : Array Value) (P : Program) (w : World) :
    (results fn tmps).run P w = .ok (.tuple #[tmps.getD t undef, tmps.getD u undef, tmps.getD v undef]) w := by
  simp [results, h]
theorem results_tmp4 {fn : Func} {t u v x : Tmp} (h : fn.results = #[.tmp t, .tmp u, .tmp v, .tmp x]) (tmps : Array Value) (P : Program) (w : World) :
    (results fn tmps).run P w = .ok (.tuple #[tmps.getD t undef, tmps.getD u undef, tmps.getD v undef, tmps.getD x undef]) w := by
  simp [results, h]

/-- A block of another type is not the row that is owned. -/
theorem own_ne {w : World} {base sz : Nat} {e t : TypeId} {v : Value} {n : Nat} {xs : List Value} (ho : w.ownsRow base e sz v n xs) {b : Nat} {cur : Array Value} (h1 : w.heap[b]? = some (.cells cur t (0, 0))) (ht : t ≠ e) : some b ≠ v.ownBlock := by
  intro e1
  rcases ho.2 with ⟨rfl, _⟩ | ⟨g, cap, cur', rfl, _, hg, _⟩
  · cases e1
  · obtain rfl : b = g := Option.some.inj e1
    rw [h1] at hg
    simp only [Option.some.injEq, Obj.cells.injEq] at hg
    exact ht hg.2.1
theorem own_two {w : World} {base base2 sz sz2 : Nat} {e e2 : TypeId} {v v2 : Value} {n n2 : Nat} {xs ys : List Value} (ho : w.ownsRow base e sz v n xs) (hp : w.ownsRow base2 e2 sz2 v2 n2 ys) (hne : e ≠ e2) (h0 : 0 < n2) : v.ownBlock ≠ v2.ownBlock := by
  intro e1
  rcases hp.2 with ⟨rfl, rfl⟩ | ⟨g, cap, cur', rfl, _, hg, _⟩
  · omega
  · exact own_ne ho hg (fun e => hne e.symm) e1.symm

/-- The separators read, each in a new block. -/
structure Sv (w : World) (base : Nat) (xs : List Value) (L : List (List Int)) : Prop where
  len : xs.length = L.length
  el : ∀ j, j < L.length → ∃ g, xs[j]? = some (.slice (some ⟨g, 0, none⟩) (L.getD j []).length (L.getD j []).length) ∧ Rw w g (L.getD j []) ∧ base ≤ g ∧ (L.getD j []).length ≤ 20000
theorem Sv.nil (w : World) (base : Nat) : Sv w base [] [] := ⟨rfl, fun j hj => by simp at hj⟩
theorem Sv.kept {w w' : World} {base : Nat} {xs : List Value} {L : List (List Int)} {row : Option Nat} (h : Sv w base xs L) (hg : w.grownBy w' row) (hne : ∀ (g : Nat) (zs : List Int), base ≤ g → Rw w g zs → some g ≠ row) : Sv w' base xs L := by
  refine ⟨h.len, fun j hj => ?_⟩
  obtain ⟨g, h1, h2, h3, h4⟩ := h.el j hj
  exact ⟨g, h1, h2.kept hg (hne g _ h3 h2), h3, h4⟩
theorem Sv.snoc {w : World} {base : Nat} {xs : List Value} {L : List (List Int)} (h : Sv w base xs L) {g n : Nat} {x : List Int} (hx : Rw w g x) (hn : x.length = n) (hb : base ≤ g) (hm : n ≤ 20000) : Sv w base (xs ++ [.slice (some ⟨g, 0, none⟩) n n]) (L ++ [x]) := by
  have hl := h.len
  refine ⟨by simp [hl], fun j hj => ?_⟩
  rw [List.length_append] at hj
  simp only [List.length_cons, List.length_nil] at hj
  by_cases e : j < L.length
  · obtain ⟨g, h1, h2, h3, h4⟩ := h.el j e
    have eg : (L ++ [x]).getD j [] = L.getD j [] := by simp [List.getD, List.getElem?_append_left e]
    rw [eg]
    exact ⟨g, by rw [List.getElem?_append_left (by omega)]; exact h1, h2, h3, h4⟩
  · obtain rfl : j = L.length := by omega
    have eg : (L ++ [x]).getD L.length [] = x := by simp [List.getD]
    rw [eg, hn]
    exact ⟨g, by rw [List.getElem?_append_right (by omega), hl, Nat.sub_self]; rfl, hx, hb, hm⟩
theorem Sv.lz {w : World} {base base2 : Nat} {v : Value} {n : Nat} {xs : List Value} {L : List (List Int)} (h : Sv w base2 xs L) (ho : w.ownsRow base 28 1 v n xs) : ∃ a cap, v = .slice a n cap ∧ Lz w a L ∧ L.length = n ∧ n ≤ cap ∧ cap ≤ 9223372036854775807 := by
  have hl := h.len
  have hn : L.length = n := by have := ho.1; omega
  rcases ho.2 with ⟨rfl, rfl⟩ | ⟨g, cap, cur, rfl, _, _, hc, hm, _⟩
  · obtain rfl : L = [] := List.length_eq_zero_iff.1 hn
    exact ⟨none, 0, rfl, Lz.zero _ _, rfl, Nat.le_refl _, by omega⟩
  · refine ⟨_, cap, rfl, ⟨fun i hi => ?_⟩, hn, hc, by unfold maxLen at hm; omega⟩
    obtain ⟨g', h1, h2, h3, h4⟩ := h.el i hi
    refine ⟨g, 0, some ⟨g', 0, none⟩, (L.getD i []).length, (L.getD i []).length, rfl, ?_, h2.all _ _ rfl, Nat.le_refl _, by omega⟩
    have := ho.cellAt i (by omega)
    rw [Nat.zero_add, this]
    exact h1

/-- The cells of kids. -/
def kc : List Kd → List Value
  | [] => []
  | k :: K => .int .i64 k.no :: .int .i64 k.keys :: kc K
theorem kc_len : ∀ K : List Kd, (kc K).length = K.length * 2
  | [] => rfl
  | k :: K => by rw [kc, List.length_cons, List.length_cons, kc_len K, List.length_cons]; omega
theorem kc_snoc : ∀ (K : List Kd) (k : Kd), kc (K ++ [k]) = kc K ++ [.int .i64 k.no, .int .i64 k.keys]
  | [], k => rfl
  | x :: K, k => by rw [List.cons_append, kc, kc, kc_snoc K k]; rfl
theorem kc_get : ∀ (K : List Kd) (i : Nat), i < K.length → (kc K)[i * 2]? = some (.int .i64 (K.getD i kd0).no) ∧ (kc K)[i * 2 + 1]? = some (.int .i64 (K.getD i kd0).keys)
  | k :: K, 0, _ => ⟨rfl, rfl⟩
  | k :: K, i + 1, h => by
    have := kc_get K i (by simpa using h)
    have e : (i + 1) * 2 = i * 2 + 1 + 1 := by omega
    rw [e]
    exact this
theorem kc_kl {w : World} {base : Nat} {v : Value} {n : Nat} {K : List Kd} (ho : w.ownsRow base 37 2 v n (kc K)) : ∃ a cap, v = .slice a n cap ∧ Kl w a K ∧ K.length = n ∧ n ≤ cap ∧ cap ≤ 9223372036854775807 := by
  have hl := kc_len K
  have hn : K.length = n := by have := ho.1; omega
  rcases ho.2 with ⟨rfl, rfl⟩ | ⟨g, cap, cur, rfl, _, _, hc, hm, _⟩
  · obtain rfl : K = [] := List.length_eq_zero_iff.1 hn
    exact ⟨none, 0, rfl, Kl.zero _ _, rfl, Nat.le_refl _, by omega⟩
  · refine ⟨_, cap, rfl, ⟨fun i hi => ?_⟩, hn, hc, by unfold maxLen at hm; omega⟩
    obtain ⟨h1, h2⟩ := kc_get K i hi
    refine ⟨g, 0, rfl, ?_, ?_⟩
    · rw [Nat.zero_add, ho.cellAt _ (by omega)]; exact h1
    · rw [Nat.zero_add, ho.cellAt _ (by omega)]; exact h2

theorem grown_ownR {a b c : World} {R : Nat} {row : Option Nat} (h : a.grownBy b (some R)) (k : b.grownBy c row) (hr : ∀ g, row = some g → a.heap.size ≤ g) : a.grownBy c (some R) :=
  ⟨k.os.trans h.os, k.tape.trans h.tape, k.output.trans h.output, Nat.le_trans h.size k.size,
    fun i hi hne => (k.block i (Nat.lt_of_lt_of_le hi h.size) (by intro e; have := hr i e.symm; omega)).trans (h.block i hi hne)⟩

/-- What holds at each round of the reading. -/
structure Bn (w wr : World) (R G base : Nat) (po : Option Addr) (pn : Nat) (zs P : List Int) (i j : Nat) (st : Nat × Int) (M : List (List Int)) (K : List Kd) (v v2 : Value) (xs : List Value) : Prop where
  rd : Rd wr R G zs st.1 st.2
  pb : Byt wr po pn pn P
  own : wr.ownsRow base 28 1 v i xs
  own2 : wr.ownsRow base 37 2 v2 j (kc K)
  sv : Sv wr base xs M
  gr : w.grownBy wr (some R)
  far : R < base ∧ G < base ∧ w.heap.size ≤ base ∧ base ≤ wr.heap.size
  pg : ∀ ad, po = some ad → 0 < pn → ad.block = G
  len : M.length = i ∧ 0 < j
theorem Bn.call {w wr w' : World} {R G base : Nat} {po : Option Addr} {pn : Nat} {zs P : List Int} {i j : Nat} {st st' : Nat × Int} {M : List (List Int)} {K : List Kd} {v v2 : Value} {xs : List Value} (h : Bn w wr R G base po pn zs P i j st M K v v2 xs) (hr : Rd w' R G zs st'.1 st'.2) (hg : wr.grownBy w' (some R)) : Bn w w' R G base po pn zs P i j st' M K v v2 xs := by
  have hne : v.ownBlock ≠ some R := fun e => by have := (h.own.lt R e).1; have := h.far.1; omega
  have hne2 : v2.ownBlock ≠ some R := fun e => by have := (h.own2.lt R e).1; have := h.far.1; omega
  exact ⟨hr, h.pb.kept hg (fun ad e hn e2 => by have := h.pg ad e hn; have := Option.some.inj e2; have := h.rd.ne; omega), h.own.kept hg (.inr hne), h.own2.kept hg (.inr hne2), h.sv.kept hg (fun g _ hb _ e => by have := Option.some.inj e; have := h.far.1; omega), grown_trans h.gr hg, ⟨h.far.1, h.far.2.1, h.far.2.2.1, Nat.le_trans h.far.2.2.2 hg.size⟩, h.pg, h.len⟩
theorem Bn.keptN {w wr w' : World} {R G base : Nat} {po : Option Addr} {pn : Nat} {zs P : List Int} {i j : Nat} {st : Nat × Int} {M : List (List Int)} {K : List Kd} {v v2 : Value} {xs : List Value} (h : Bn w wr R G base po pn zs P i j st M K v v2 xs) (hg : wr.grownBy w' none) : Bn w w' R G base po pn zs P i j st M K v v2 xs :=
  h.call (h.rd.kept hg (by simp) (by simp)) (grown_any hg)
theorem Bn.addSep {w wr w' : World} {R G base : Nat} {po : Option Addr} {pn : Nat} {zs P : List Int} {i j : Nat} {st : Nat × Int} {M : List (List Int)} {K : List Kd} {v v' v2 : Value} {xs : List Value} (h : Bn w wr R G base po pn zs P i j st M K v v2 xs) {g n : Nat} {x : List Int} (hx : Rw wr g x) (hn : x.length = n) (hb : base ≤ g) (hm : n ≤ 20000)
    (ho : w'.ownsRow base 28 1 v' (i + 1) (xs ++ [.slice (some ⟨g, 0, none⟩) n n])) (hg : wr.grownBy w' v.ownBlock) : Bn w w' R G base po pn zs P (i + 1) j st (M ++ [x]) K v' v2 (xs ++ [.slice (some ⟨g, 0, none⟩) n n]) := by
  have hk : ∀ k, k < base → some k ≠ v.ownBlock := fun k hk e => by have := (h.own.lt k e.symm).1; omega
  have hrw : ∀ (g : Nat) (zs : List Int), base ≤ g → Rw wr g zs → some g ≠ v.ownBlock := fun g zs _ hr => own_ne h.own hr (by decide)
  have h2 : v2.ownBlock ≠ v.ownBlock := own_two h.own h.own2 (by decide) h.len.2 |> fun q e => q e.symm
  exact ⟨h.rd.kept hg (hk R h.far.1) (hk G h.far.2.1), h.pb.kept hg (fun ad e hn => by rw [h.pg ad e hn]; exact hk G h.far.2.1), ho, h.own2.kept hg (.inr h2), (h.sv.kept hg hrw).snoc (hx.kept hg (hrw g x hb hx)) hn hb hm, grown_ownR h.gr hg (fun g e => by have := (h.own.lt g e).1; have := h.far.2.2.1; omega), ⟨h.far.1, h.far.2.1, h.far.2.2.1, Nat.le_trans h.far.2.2.2 hg.size⟩, h.pg, by simp [h.len.1], h.len.2⟩
theorem Bn.addKid {w wr w' : World} {R G base : Nat} {po : Option Addr} {pn : Nat} {zs P : List Int} {i j : Nat} {st : Nat × Int} {M : List (List Int)} {K : List Kd} {v v2 v2' : Value} {xs : List Value} (h : Bn w wr R G base po pn zs P i j st M K v v2 xs) (k : Kd)
    (ho : w'.ownsRow base 37 2 v2' (j + 1) (kc K ++ [.int .i64 k.no, .int .i64 k.keys])) (hg : wr.grownBy w' v2.ownBlock) : Bn w w' R G base po pn zs P i (j + 1) st M (K ++ [k]) v v2' xs := by
  have hk : ∀ k, k < base → some k ≠ v2.ownBlock := fun k hk e => by have := (h.own2.lt k e.symm).1; omega
  have hrw : ∀ (g : Nat) (zs : List Int), base ≤ g → Rw wr g zs → some g ≠ v2.ownBlock := fun g zs _ hr => own_ne h.own2 hr (by decide)
  have h2 : v.ownBlock ≠ v2.ownBlock := own_two h.own h.own2 (by decide) h.len.2
  exact ⟨h.rd.kept hg (hk R h.far.1) (hk G h.far.2.1), h.pb.kept hg (fun ad e hn => by rw [h.pg ad e hn]; exact hk G h.far.2.1), h.own.kept hg (.inr h2), by rw [kc_snoc]; exact ho, h.sv.kept hg hrw, grown_ownR h.gr hg (fun g e => by have := (h.own2.lt g e).1; have := h.far.2.2.1; omega), ⟨h.far.1, h.far.2.1, h.far.2.2.1, Nat.le_trans h.far.2.2.2 hg.size⟩, h.pg, h.len.1, Nat.succ_pos _⟩

theorem info_bytesS : (Try.prog.info? 28).map (fun i => (i.zero, i.size, i.bytes)) = some (some (.slice none 0 0), 1, 24) := by kernel_rfl
theorem info_kid : (Try.prog.info? 37).map (fun i => (i.zero, i.size, i.bytes)) = some (some (.agg #[.int .i64 0, .int .i64 0]), 2, 16) := by kernel_rfl
theorem cell_one_new (w : World) (a : Value) (t : TypeId) : ∀ j u, [a][j]? = some u → (w.alloc (.cells #[a] t)).cell? ((⟨w.heap.size, 0, none⟩ : Addr).add j) = some u := by
  intro j u hu
  rw [Addr.add_lit, Nat.zero_add, cell_of_row _ w.heap.size j _ _ (0, 0) (heap_alloc_new w _)]
  simpa using hu
theorem cell_two_new (w : World) (a b : Value) (t : TypeId) : ∀ j u, [a, b][j]? = some u → (w.alloc (.cells #[a, b] t)).cell? ((⟨w.heap.size, 0, none⟩ : Addr).add j) = some u := by
  intro j u hu
  rw [Addr.add_lit, Nat.zero_add, cell_of_row _ w.heap.size j _ _ (0, 0) (heap_alloc_new w _)]
  simpa using hu
theorem owns_kid_new (w : World) (base : Nat) (a b : Value) (hb : base ≤ w.heap.size) : (w.alloc (.cells #[a, b] 37)).ownsRow base 37 2 (.slice (some ⟨w.heap.size, 0, none⟩) 1 1) 1 [a, b] :=
  ⟨rfl, .inr ⟨w.heap.size, 1, #[a, b], rfl, hb, heap_alloc_new w _, Nat.le_refl _, by unfold maxLen; omega, rfl, rfl⟩⟩
theorem sKey_pre (zs P : List Int) (s : Nat × Int) : sKey zs P s = (P ++ (sKey zs [] s).1, (sKey zs [] s).2) := rfl

set_option maxHeartbeats 4000000 in
set_option maxRecDepth 100000 in
theorem bread_any (R G : Nat) (zs : List Int) (w : World) (h : Rd w R G zs 0 0) (hbt : Bt zs) (hz : zs.length ≤ 5000) :
    Calls Try.prog 43 #[.pointer (some ⟨R, 0, none⟩)] w fun en w' => (∃ a n cap b m cap2, en = .returned (.tuple #[.int .i64 ((hLevel zs).1 : Nat), .slice a n cap, .slice b m cap2]) ∧ Lz w' a (seps (bparse zs)) ∧ Kl w' b (kids (hKid zs).1 (bparse zs)) ∧ (bparse zs).length = n ∧ m = n + 1 ∧ n ≤ cap ∧ cap ≤ 9223372036854775807 ∧ m ≤ cap2 ∧ cap2 ≤ 9223372036854775807) ∧ w.grownBy w' (some R) := by
  obtain ⟨i0, hi, hz0, hz1, hz2⟩ := info_parts info_bytesS
  obtain ⟨i1, hi1, hy0, hy1, hy2⟩ := info_parts info_kid
  have HPZ : Hid (bparse zs = bLoop zs (hPre zs).1 ((hCount zs).1 - 1) (hKid zs).2 []) := rfl
  have H1 := hid_intro (rd_B R G zs (0, 0) 1 w h)
  have H2 := hid_intro (fun (W : World) (hW : Rd W R G zs (sB zs (0, 0) 1).2.1 (sB zs (0, 0) 1).2.2) => rd_N1 R G zs (sB zs (0, 0) 1).2 W hW hbt)
  have e2 : sN zs (sB zs (0, 0) 1).2 1 = hLevel zs := rfl
  rw [e2] at H2
  have H3 := hid_intro (fun (W : World) (hW : Rd W R G zs (hLevel zs).2.1 (hLevel zs).2.2) => rd_N2 R G zs (hLevel zs).2 W hW hbt)
  have e3 : sN zs (hLevel zs).2 2 = hCount zs := rfl
  rw [e3] at H3
  have H4 := hid_intro (fun (W : World) (hW : Rd W R G zs (hCount zs).2.1 (hCount zs).2.2) => readString_any R G zs (hCount zs).2 W hW hbt)
  have e4 : sKey zs [] (hCount zs).2 = hPre zs := rfl
  rw [e4] at H4
  have H5 := hid_intro (fun (W : World) (hW : Rd W R G zs (hPre zs).2.1 (hPre zs).2.2) => rd_B R G zs (hPre zs).2 (2 * ((hCount zs).1 - 1 : Int)) W hW)
  have H6 := hid_intro (fun (W : World) (hW : Rd W R G zs (sB zs (hPre zs).2 (2 * ((hCount zs).1 - 1 : Int))).2.1 (sB zs (hPre zs).2 (2 * ((hCount zs).1 - 1 : Int))).2.2) => readKid_any R G zs (sB zs (hPre zs).2 (2 * ((hCount zs).1 - 1 : Int))).2 W hW hbt)
  have e6 : sK zs (sB zs (hPre zs).2 (2 * ((hCount zs).1 - 1 : Int))).2 = hKid zs := rfl
  rw [e6] at H6
  have n1 := sN_lt zs (sB zs (0, 0) 1).2 1 hbt
  rw [e2] at n1
  have n2 := sN_lt zs (hLevel zs).2 2 hbt
  rw [e3] at n2
  clear e2 e3 e4 e6
  generalize bparse zs = BP at *
  generalize (sB zs (hPre zs).2 (2 * ((hCount zs).1 - 1 : Int))).2 = s5 at *
  generalize (hKid zs).2 = s6 at *
  generalize (hKid zs).1 = k at *
  generalize (hPre zs).2 = s4 at *
  generalize (hPre zs).1 = P at *
  generalize (hCount zs).2 = s3 at *
  generalize (hCount zs).1 = N at *
  generalize (hLevel zs).2 = s2 at *
  generalize (hLevel zs).1 = lv at *
  generalize (sB zs (0, 0) 1).2 = s1 at *
  have hN : N < 65536 := n2
  have hlv : lv < 256 := n1
  have HNE := hid_intro h.ne
  clear h n1 n2
  go_enter Try.func43, Try.ntmps43
  go_wp2_with fail
  refine H1.out.mono ?_
  rintro en w1 ⟨⟨_, _, rfl, _, _, _⟩, hr1, hg1⟩
  have D1 := hid_intro hr1
  have G1 := hid_intro hg1
  clear hr1 hg1 H1
  go_wp2_with fail
  refine (H2.out _ D1.out).mono ?_
  rintro en w2 ⟨rfl, hr2, hg2⟩
  have D2 := hid_intro hr2
  have G2 := hid_intro (grown_trans G1.out hg2)
  clear hr2 hg2 H2 D1 G1
  go_wp2_with fail
  refine (H3.out _ D2.out).mono ?_
  rintro en w3 ⟨rfl, hr3, hg3⟩
  have D3 := hid_intro hr3
  have G3 := hid_intro (grown_trans G2.out hg3)
  clear hr3 hg3 H3 D2 G2
  go_wp2_with fail
  refine (H4.out _ D3.out).mono ?_
  rintro en w4 ⟨⟨po, pn, rfl, hb4, hpo, hpn⟩, hr4, hg4⟩
  have D4 := hid_intro hr4
  have B4 := hid_intro hb4
  have PO := hid_intro hpo
  have G4 := hid_intro (grown_trans G3.out hg4)
  clear hr4 hg4 hb4 hpo H4 D3 G3
  go_wp2_with fail
  refine (H5.out _ D4.out).mono ?_
  rintro en w5 ⟨⟨_, _, rfl, _, _, _⟩, hr5, hg5⟩
  have D5 := hid_intro hr5
  have B5 := hid_intro (B4.out.kept hg5 (fun ad e h e2 => by obtain ⟨q, hq⟩ := PO.out h; rw [e] at hq; obtain rfl := Option.some.inj hq; exact HNE.out (Option.some.inj e2)))
  have G5 := hid_intro (grown_trans G4.out hg5)
  clear hr5 hg5 H5 D4 B4 G4
  go_wp2_with fail
  refine (H6.out _ D5.out).mono ?_
  rintro en w6 ⟨rfl, hr6, hg6⟩
  have D6 := hid_intro hr6
  have B6 := hid_intro (B5.out.kept hg6 (fun ad e h e2 => by obtain ⟨q, hq⟩ := PO.out h; rw [e] at hq; obtain rfl := Option.some.inj hq; exact HNE.out (Option.some.inj e2)))
  have G6 := hid_intro (grown_trans G5.out hg6)
  clear hr6 hg6 H6 D5 B5 G5
  obtain ⟨no, hno⟩ : ∃ no, k.no = no := ⟨_, rfl⟩
  obtain ⟨ks, hks⟩ : ∃ ks, k.keys = ks := ⟨_, rfl⟩
  rw [hno, hks]
  have HKC : Hid (kc [k] = [.int .i64 no, .int .i64 ks]) := by show _ = _; rw [← hno, ← hks]; rfl
  clear hno hks
  have ga := World.grownBy_alloc w6 (.cells #[.int .i64 no, .int .i64 ks] 37) none
  have HS0 : Hid (Bn w (w6.alloc (.cells #[.int .i64 no, .int .i64 ks] 37)) R G w6.heap.size po pn zs P 0 1 s6 [] [k] (.slice none 0 0) (.slice (some ⟨w6.heap.size, 0, none⟩) 1 1) []) :=
    ⟨D6.out.kept ga (by simp) (by simp), B6.out.keptN ga, ⟨rfl, .inl ⟨rfl, rfl⟩⟩, by rw [HKC.out]; exact owns_kid_new w6 w6.heap.size _ _ (Nat.le_refl _), Sv.nil _ _, grown_trans G6.out (grown_any ga), ⟨D6.out.lt.1, D6.out.lt.2, G6.out.size, by simp⟩, fun ad e h => by obtain ⟨q, hq⟩ := PO.out h; rw [e] at hq; obtain rfl := Option.some.inj hq; rfl, rfl, by omega⟩
  clear ga D6 B6 G6
  go_wp2
  generalize w6.alloc (.cells #[.int .i64 no, .int .i64 ks] 37) = w7 at *
  obtain ⟨base, hbase⟩ : ∃ base, w6.heap.size = base := ⟨_, rfl⟩
  rw [hbase] at HS0
  rw [hbase]
  clear hbase
  have hcast : ((2 : Int) * ((N : Int) - 1)) = 2 * ((N : Int) - 1) := rfl
  clear hcast
  go_loopw [8, 9, 10, 11, 31] (fun sk ss _ _ si wr => ∃ (i : Nat) (st : Nat × Int) (M : List Sk) (xs : List Value), i ≤ N ∧ si = .int .i64 i ∧ bLoop zs P (N - 1 - i) st M = BP ∧ M.length = i ∧ i ≤ N - 1 ∧ Bn w wr R G base po pn zs P i (i + 1) st (seps M) (kids k M) ss sk xs) (fun _ _ _ _ si _ => N - (intOf si).toNat)
  case atStart => exact ⟨0, s6, [], [], Nat.zero_le _, rfl, HPZ.out.symm, rfl, Nat.zero_le _, HS0.out⟩
  case round =>
    rename_i sk ss _ _ si wr
    obtain ⟨i, st, M, xs, hi', rfl, hsl, hml, hin1, hrn⟩ := hrel
    have HRN := hid_intro hrn
    have HSL := hid_intro hsl
    have HML := hid_intro hml
    clear hsl hrn HS0 HPZ hml
    by_cases hlt : i < N - 1
    · have g1 : (i : Int) < (N : Int) - 1 := by omega
      have H8 := hid_intro (readString_any R G zs st wr HRN.out.rd hbt)
      have H9 := hid_intro (fun (W : World) (hW : Rd W R G zs (sKey zs [] st).2.1 (sKey zs [] st).2.2) => readKid_any R G zs (sKey zs [] st).2 W hW hbt)
      have HSS : Hid (BP = if (sK zs (sKey zs [] st).2).2.2 = 0 then bLoop zs P (N - 1 - (i + 1)) (sK zs (sKey zs [] st).2).2 (M ++ [⟨P ++ (sKey zs [] st).1, (sK zs (sKey zs [] st).2).1⟩]) else M ++ [⟨P ++ (sKey zs [] st).1, (sK zs (sKey zs [] st).2).1⟩]) := by
        show _ = _
        rw [← HSL.out, show N - 1 - i = (N - 1 - (i + 1)) + 1 by omega, bLoop]
        rfl
      clear HSL
      generalize (sK zs (sKey zs [] st).2).2 = st2 at *
      generalize (sK zs (sKey zs [] st).2).1 = k' at *
      generalize (sKey zs [] st).2 = st1 at *
      generalize (sKey zs [] st).1 = X at *
      have HER := hid_intro (fun (W : World) (hW : Rd W R G zs st2.1 st2.2) => err_any R G zs st2.1 st2.2 W hW)
      go_wp2_with fail
      refine H8.out.mono ?_
      rintro en w8 ⟨⟨so, sn, rfl, hb8, hso, hsn⟩, hr8, hg8⟩
      have N8 := hid_intro (HRN.out.call hr8 hg8)
      have B8 := hid_intro hb8
      clear hb8 hso hr8 hg8 H8 HRN
      go_wp2_with fail
      refine (joined_any po pn pn P so sn sn X _ N8.out.pb B8.out (by omega) (by omega)).mono ?_
      rintro en w9 ⟨rfl, hr9, hg9⟩
      have N9 := hid_intro (N8.out.keptN hg9)
      have X9 := hid_intro hr9
      have hgb : base ≤ w8.heap.size := N8.out.far.2.2.2
      have hPX : Hid ((P ++ X).length = pn + sn) := by show _ = _; rw [List.length_append, N8.out.pb.len, B8.out.len]
      clear hr9 hg9 N8 B8
      generalize w8.heap.size = g at *
      go_wp2_with (at_builtin; refine wpList_append_own _ rfl _ _ 22 rfl base 28 i0 (.slice none 0 0) 1 24 Try.underlying22 hi hz0 hz1 hz2 rfl (by decide) _ i xs rfl (N9.out.own.alloc _) ⟨w9.heap.size, 0, none⟩ 1 1 [.slice (some ⟨g, 0, none⟩) (pn + sn) (pn + sn)] rfl rfl (cell_one_new _ _ _) (by intro u hu; simp at hu; subst hu; rfl) (by unfold maxLen; omega) (by omega) (by have := N9.out.far.2.2.2; simp; omega) ?_)
      intro v' w10 ho hg10 _
      have N10 := hid_intro ((N9.out.keptN (World.grownBy_alloc w9 _ none)).addSep (X9.out.keptN (World.grownBy_alloc w9 _ none)) hPX.out hgb (by omega) ho hg10)
      clear ho hg10 N9 X9
      go_wp2_with fail
      refine (H9.out _ N10.out.rd).mono ?_
      rintro en w11 ⟨rfl, hr11, hg11⟩
      have N11 := hid_intro (N10.out.call hr11 hg11)
      clear hr11 hg11 N10 H9
      obtain ⟨no', hno⟩ : ∃ no', k'.no = no' := ⟨_, rfl⟩
      obtain ⟨ks', hks⟩ : ∃ ks', k'.keys = ks' := ⟨_, rfl⟩
      rw [hno, hks]
      have HNO := hid_intro hno
      have HKS := hid_intro hks
      clear hno hks
      go_wp2_with (at_builtin; refine wpList_append_own _ rfl _ _ 30 rfl base 37 i1 (.agg #[.int .i64 0, .int .i64 0]) 2 16 Try.underlying30 hi1 hy0 hy1 hy2 rfl (by decide) _ (i + 1) (kc (kids k M)) rfl (N11.out.own2.alloc _) ⟨w11.heap.size, 0, none⟩ 1 1 [.int .i64 no', .int .i64 ks'] rfl rfl (cell_two_new _ _ _ _) (by intro u hu; simp at hu; rcases hu with rfl | rfl <;> rfl) (by unfold maxLen; omega) (by omega) (by have := N11.out.far.2.2.2; simp; omega) ?_)
      intro v2' w12 ho hg12 _
      have N12 := hid_intro ((N11.out.keptN (World.grownBy_alloc w11 _ none)).addKid k' (by rw [HNO.out, HKS.out]; exact ho) hg12)
      clear ho hg12 N11
      go_wp2_with fail
      refine (HER.out _ N12.out.rd).mono ?_
      rintro en w13 ⟨rfl, hq13⟩
      have N13 := hid_intro (N12.out.keptN (hq13.grown none))
      clear hq13 N12 HER
      have HE1 : Hid (seps M ++ [P ++ X] = seps (M ++ [⟨P ++ X, k'⟩])) := by show _ = _; unfold seps; simp
      have HE2 : Hid (kids k M ++ [k'] = kids k (M ++ [⟨P ++ X, k'⟩])) := by show _ = _; unfold kids; simp
      rw [HE1.out, HE2.out] at N13
      obtain ⟨pp, ee⟩ := st2
      by_cases he : ee = 0
      · subst he
        have HSS1 := hid_intro (HSS.out.trans (if_pos rfl))
        clear HSS
        go_wp2
        go_roundw
        case rel => exact ⟨i + 1, (pp, 0), _, _, by omega, by go_num, HSS1.out.symm, by simp [HML.out], by omega, N13.out⟩
        case measure => simp [intOf]; omega
      · have HSS1 := hid_intro (HSS.out.trans (if_neg he))
        clear HSS
        obtain ⟨a, cap, e1, e2, e3, e4, e5⟩ := N13.out.sv.lz N13.out.own
        obtain ⟨b, cap2, f1, f2, f3, f4, f5⟩ := kc_kl N13.out.own2
        have GR := hid_intro N13.out.gr
        subst e1 f1
        have HE := hid_intro e2
        have HF := hid_intro f2
        have HLN : Hid (BP.length = i + 1) := by show _ = _; rw [HSS1.out]; simp [HML.out]
        clear e2 f2 e3 f3 N13
        go_wp2
        (try simp only [Exit.inBlock, Exit.then]); refine bodyPost_ret (results_tmp3 rfl _ _ _) rfl ?_
        rw [HSS1.out] at *
        exact ⟨⟨a, i + 1, cap, b, i + 1 + 1, cap2, rfl, HE.out, HF.out, HLN.out, rfl, e4, e5, f4, f5⟩, GR.out⟩
    · have hin : N - 1 = i := by omega
      have g1 : ¬ (i : Int) < (N : Int) - 1 := by omega
      have HSL1 : Hid (M = BP) := by
        have := HSL.out
        rw [hin, Nat.sub_self] at this
        exact this
      obtain ⟨a, cap, e1, e2, e3, e4, e5⟩ := HRN.out.sv.lz HRN.out.own
      obtain ⟨b, cap2, f1, f2, f3, f4, f5⟩ := kc_kl HRN.out.own2
      have GR := hid_intro HRN.out.gr
      subst e1 f1
      have HE := hid_intro e2
      have HF := hid_intro f2
      clear e2 f2 e3 f3 HRN HSL
      go_wp2
      (try simp only [Exit.inBlock, Exit.then]); refine bodyPost_ret (results_tmp3 rfl _ _ _) rfl ?_
      rw [← HSL1.out]
      exact ⟨⟨a, i, cap, b, i + 1, cap2, rfl, HE.out, HF.out, HML.out, rfl, e4, e5, f4, f5⟩, GR.out⟩
end Go.Proofs.Ytomknmboapgmbaa
