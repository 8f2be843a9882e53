import Derived.Test.YtlfhonlifgpnhaaLeafS4
namespace Go.Proofs.Ytlfhonlifgpnhaa
open Go.RowKit
attribute [local go_sem ↓] Go.wp_at_zero Go.wp_at_succ

theorem step_append_own5 {ops : Array Oper} {o : Oper} {a : Act} {w : World} {K : Act → World → Prop} {Q : Exit → Act → World → Prop} {E : Prop} (hgd : o.guard = none) (s x : Operand) (t : TypeId)
    (ho : o.op = .call { callee := .builtin .append, args := #[s, x], argTypes := #[t, t] })
    (base : Nat) (e : TypeId) (i : TypeInfo) (z : Value) (size bytes : Nat) (ht : Try.prog.underlying t = some (.slice e)) (hi : Try.prog.info? e = some i) (hz : i.zero = some z) (hsize : i.size = size) (hby : i.bytes = bytes) (hzs : z.cells.size = size) (hsz : 0 < size)
    (v : Value) (n : Nat) (xs : List Value) (hs : a.eval s = v) (hown : w.ownsRow base e size v n xs)
    (ad : Addr) (m c : Nat) (news : List Value) (hx : a.eval x = .slice (some ad) m c) (hl : news.length = m * size) (hnews : ∀ j u, news[j]? = some u → w.cell? (ad.add j) = some u) (h1 : ∀ u ∈ news, u.oneCell' = true)
    (h63 : n + m ≤ maxLen) (hbytes : (n + m) * bytes ≤ 140737488355328) (hbase : base ≤ w.heap.size)
    (h : ∀ v' w', w'.ownsRow base e size v' (n + m) (xs ++ news) → w.grownBy w' v.ownBlock → K (a.put o.dst v') w') :
    if Region.wanted o (yielded ops a.tmps) = true then Oper.wp Try.prog o a w K Q else E := by
  have hw : Region.wanted o (yielded ops a.tmps) = true := by simp [Region.wanted, hgd]
  rw [if_pos hw]
  obtain ⟨v', w', hrun, r1, r2, _⟩ := run_append_own (P := Try.prog) w base t o.type e i z size bytes ht hi hz hsize hby hzs hsz v n xs hown ad m c news hl hnews h1 h63 hbytes hbase
  unfold Oper.wp
  simp [execOp, ho, resolve, invoke, builtin, hs, hx, hrun, Result.andThen]
  exact h v' w' r1 r2
theorem own_ne {w : World} {base sz : Nat} {e t : TypeId} {v : Value} {n : Nat} {xs : List Value} (ho : w.ownsRow base e sz v n xs) {b : Nat} {cur : Array Value} (h1 : w.heap[b]? = some (.cells cur t (0, 0))) (ht : t ≠ e) : some b ≠ v.ownBlock := by
  intro e1
  rcases ho.2 with ⟨rfl, _⟩ | ⟨g, cap, cur', rfl, _, hg, _⟩
  · cases e1
  · obtain rfl : b = g := Option.some.inj e1
    rw [h1] at hg
    simp only [Option.some.injEq, Obj.cells.injEq] at hg
    exact ht hg.2.1

/-- A box of what is lent. -/
def Bl (w : World) (T : Nat) (a b : Value) : Prop := w.heap[T]? = some (.cells #[a, b] 26 (0, 0))
theorem Bl.lt {w : World} {T : Nat} {a b : Value} (h : Bl w T a b) : T < w.heap.size := (Array.getElem?_eq_some_iff.1 h).1
theorem Bl.cells {w : World} {T : Nat} {a b : Value} (h : Bl w T a b) : w.cell? ⟨T, 0, none⟩ = some a ∧ w.cell? ⟨T, 1, none⟩ = some b := by
  refine ⟨?_, ?_⟩
  · rw [cell_of_row w T 0 _ _ _ h]; rfl
  · rw [cell_of_row w T 1 _ _ _ h]; rfl
theorem Bl.frozen {w : World} {T : Nat} {a b : Value} (h : Bl w T a b) (j : Nat) : w.frozen? ⟨T, j, none⟩ = false := frozen_of_row w T j _ _ h
theorem Bl.kept {w w' : World} {T : Nat} {a b : Value} {row : Option Nat} (h : Bl w T a b) (hg : w.grownBy w' row) (hne : some T ≠ row) : Bl w' T a b := (hg.block T h.lt hne).trans h
theorem Bl.keptN {w w' : World} {T : Nat} {a b : Value} (h : Bl w T a b) (hg : w.grownBy w' none) : Bl w' T a b := h.kept hg (by simp)
theorem Bl.set0 {w : World} {T : Nat} {a b : Value} (h : Bl w T a b) (v : Value) : Bl (w.setCell ⟨T, 0, none⟩ v) T v b := heap_setCell_same w T 0 _ _ v h
theorem Bl.set1 {w : World} {T : Nat} {a b : Value} (h : Bl w T a b) (v : Value) : Bl (w.setCell ⟨T, 1, none⟩ v) T a v := heap_setCell_same w T 1 _ _ v h
theorem Bl.new (w : World) (a b : Value) : Bl (w.alloc (.cells #[a, b] 26)) w.heap.size a b := heap_alloc_new w _
theorem Bl.u8 {w : World} {T : Nat} {a b : Value} (h : Bl w T a b) : ∀ k, U8 w k → some k ≠ some T := by
  intro k ⟨cur, h1⟩ e
  obtain rfl := Option.some.inj e
  unfold Bl at h
  rw [h1] at h
  simp only [Option.some.injEq, Obj.cells.injEq] at h
  exact absurd h.2.1 (by decide)
theorem Bl.item {w : World} {T base : Nat} {a b v : Value} {n : Nat} {xs : List Value} (h : Bl w T a b) (ho : w.ownsRow base 48 4 v n xs) : some T ≠ v.ownBlock := own_ne ho h (by decide)
theorem lent_size : (Try.prog.info? 26).map (·.size) = some 2 := by kernel_rfl
theorem ret_lent {fn : Func} {p : Tmp} (h : fn.results = #[.cell p 26]) (tmps : Array Value) (w : World) (U : Nat) (a b : Value) (hp : tmps.getD p undef = .pointer (some ⟨U, 0, none⟩)) (hx : Bl w U a b) :
    (results fn tmps).run Try.prog w = .ok (.agg #[a, b]) w :=
  results_cell_row h tmps w U 26 #[a, b] (0, 0) _ hp hx Try.underlying26 rfl lent_size

/-- What a cell holds. -/
def curv (w : World) (Q : Nat) : Value := (w.cell? ⟨Q, 0, none⟩).getD undef
theorem curv_of {w : World} {Q : Nat} {v : Value} (h : w.cell? ⟨Q, 0, none⟩ = some v) : w.cell? ⟨Q, 0, none⟩ = some (curv w Q) := by unfold curv; rw [h]; rfl
theorem curv_is {w : World} {Q : Nat} {v : Value} (h : w.cell? ⟨Q, 0, none⟩ = some v) : curv w Q = v := by unfold curv; rw [h]; rfl

/-- What is lent. -/
structure Ld (w : World) (base A c : Nat) (gk gv : Nat → Nat × Nat) (xs : List Value) (L : List It) : Prop where
  own : w.ownsRow base 48 4 (.slice (some ⟨A, 0, none⟩) (L.length + 1) c) (L.length + 1) (xs ++ [.slice none 0 0, .slice none 0 0, .int .i64 (-77), .int .i64 0])
  lm : Lm w base [161, 162] [163, 164] gk gv xs L
theorem Ld.keptN {w w' : World} {base A c : Nat} {gk gv : Nat → Nat × Nat} {xs : List Value} {L : List It} (h : Ld w base A c gk gv xs L) (hg : w.grownBy w' none) : Ld w' base A c gk gv xs L := ⟨own_keptN h.own hg, h.lm.keptN hg⟩
theorem Ld.il {w : World} {base A c : Nat} {gk gv : Nat → Nat × Nat} {xs : List Value} {L : List It} (h : Ld w base A c gk gv xs L) : Il w (some ⟨A, 0, none⟩) L := h.lm.il h.own

/-- Where the loop of lend stands. -/
structure Lr4 (w wr : World) (Q U n i : Nat) (v : Value) (gk gv : Nat → Nat × Nat) (xs : List Value) (L : List It) : Prop where
  q : Bl wr Q v (.int .i64 (n : Int))
  u : Bl wr U (.slice none 0 0) (.int .i64 0)
  own : wr.ownsRow w.heap.size 48 4 v i xs
  lm : Lm wr w.heap.size [161, 162] [163, 164] gk gv xs L
  gr : w.grownBy wr none
  far : w.heap.size ≤ Q ∧ w.heap.size ≤ U ∧ Q ≠ U
theorem Lr4.keptN {w wr w' : World} {Q U n i : Nat} {v : Value} {gk gv : Nat → Nat × Nat} {xs : List Value} {L : List It} (h : Lr4 w wr Q U n i v gk gv xs L) (hg : wr.grownBy w' none) : Lr4 w w' Q U n i v gk gv xs L :=
  ⟨h.q.keptN hg, h.u.keptN hg, own_keptN h.own hg, h.lm.keptN hg, grown_trans h.gr hg, h.far⟩
/-- Appended, and stored. -/
theorem Lr4.app {w wr w' : World} {Q U n i : Nat} {v v' : Value} {gk gv gk' gv' : Nat → Nat × Nat} {xs xs' : List Value} {L L' : List It} (h : Lr4 w wr Q U n i v gk gv xs L) (hm : Lm w' w.heap.size [161, 162] [163, 164] gk' gv' xs' L') (ho : w'.ownsRow w.heap.size 48 4 v' (i + 1) xs') (hg : wr.grownBy w' v.ownBlock) :
    Lr4 w (w'.setCell ⟨Q, 0, none⟩ v') Q U n (i + 1) v' gk' gv' xs' L' := by
  have hq := h.q.kept hg (h.q.item h.own)
  have hu := h.u.kept hg (h.u.item h.own)
  have hgc := grown_cell w' Q 0 v'
  have hgr : w.grownBy w' none := ⟨hg.os.trans h.gr.os, hg.tape.trans h.gr.tape, hg.output.trans h.gr.output, Nat.le_trans h.gr.size hg.size, fun k hk h1 => (hg.block k (Nat.lt_of_lt_of_le hk h.gr.size) (fun e => by have := (h.own.lt k e.symm).1; omega)).trans (h.gr.block k hk h1)⟩
  exact ⟨hq.set0 v', hu.kept hgc (fun e => h.far.2.2 (Option.some.inj e).symm), ho.kept hgc (.inr (fun e => hq.item ho e.symm)), hm.kept hgc (fun g _ hu8 => hq.u8 g hu8), grown_new hgr hgc h.far.1, h.far⟩

set_option maxHeartbeats 4000000 in
set_option maxRecDepth 100000 in
theorem lend_any (a : Option Addr) (n cap : Nat) (L : List It) (w : World) (hl : Il w a L) (hn : L.length = n) (hm : n ≤ 5000) (hs : ∀ x ∈ L, x.key.length ≤ 5000 ∧ x.val.length ≤ 5000) :
    Calls Try.prog 11 #[.slice a n cap] w fun en w' => (∃ A c, en = .returned (.agg #[.slice (some ⟨A, 0, none⟩) (n + 1) c, .int .i64 n]) ∧ ∃ gk gv xs, Ld w' w.heap.size A c gk gv xs L ∧ n + 1 ≤ c ∧ c ≤ 9223372036854775807) ∧ w.grownBy w' none := by
  obtain ⟨i1, hi1, hy0, hy1, hy2⟩ := info_parts info_item
  have HL := hid_intro hl
  have HS := hid_intro hs
  clear hl hs
  have ga := World.grownBy_alloc w (.cells #[.slice none 0 0, .int .i64 0] 26) none
  have gb := World.grownBy_alloc (w.alloc (.cells #[.slice none 0 0, .int .i64 0] 26)) (.cells #[.slice none 0 0, .int .i64 (n : Int)] 26) none
  have hs1 : (w.alloc (.cells #[.slice none 0 0, .int .i64 0] 26)).heap.size = w.heap.size + 1 := by simp
  have Y := Bl.new (w.alloc (.cells #[.slice none 0 0, .int .i64 0] 26)) (.slice none 0 0) (.int .i64 (n : Int))
  rw [hs1] at Y
  have N0 : Hid (Lr4 w ((w.alloc (.cells #[.slice none 0 0, .int .i64 0] 26)).alloc (.cells #[.slice none 0 0, .int .i64 (n : Int)] 26)) (w.heap.size + 1) w.heap.size n 0 (.slice none 0 0) (fun _ => (0, 0)) (fun _ => (0, 0)) [] []) :=
    ⟨Y, (Bl.new w _ _).keptN gb, ⟨rfl, .inl ⟨rfl, rfl⟩⟩, Lm.nil _ _ _ _ _ _, grown_trans ga gb, ⟨by omega, Nat.le_refl _, by omega⟩⟩
  clear ga gb hs1 Y
  go_enter Try.func11, Try.ntmps11
  go_upto_region 2 with fail
  generalize (w.alloc (.cells #[.slice none 0 0, .int .i64 0] 26)).alloc (.cells #[.slice none 0 0, .int .i64 (n : Int)] 26) = w0 at *
  obtain ⟨Q, hQ⟩ : ∃ Q, w.heap.size + 1 = Q := ⟨_, rfl⟩
  obtain ⟨U, hU⟩ : ∃ U, w.heap.size = U := ⟨_, rfl⟩
  rw [hQ] at N0 ⊢
  have N1 : Hid (Lr4 w w0 Q U n 0 (.slice none 0 0) (fun _ => (0, 0)) (fun _ => (0, 0)) [] []) := by rw [← hU]; exact N0.out
  have hUw : Hid (w.heap.size = U) := hU
  rw [hU]
  clear N0 hQ hU
  go_wp2
  go_loopw [4, 5, 6, 7] (fun si _ _ _ wr => ∃ (i : Nat) (v : Value) (gk gv : Nat → Nat × Nat) (xs : List Value), i ≤ n ∧ si = .int .i64 i ∧ Lr4 w wr Q U n i v gk gv xs (L.take i)) (fun si _ _ _ _ => n - (intOf si).toNat)
  case atStart => exact ⟨0, _, _, _, [], Nat.zero_le _, rfl, N1.out⟩
  case round =>
    obtain ⟨i, v, gk, gv, xs, hi', rfl, hlr⟩ := hrel
    have HR := hid_intro hlr
    clear hlr N1
    by_cases hlt : i < n
    · obtain ⟨b1, off, ao, k, kc, bo, m, mc, rfl, q1, q2, q3, q4, hk, _, _, hv, _, _⟩ := HL.out.row i (by omega)
      have c0 := HR.out.gr.cell q1 (by simp)
      have c1 := HR.out.gr.cell q2 (by simp)
      have c2 := HR.out.gr.cell q3 (by simp)
      have c3 := HR.out.gr.cell q4 (by simp)
      have K0 := hid_intro hk
      have V0 := hid_intro hv
      have hkl := hk.len
      have hvl := hv.len
      have hss := HS.out _ (getD_mem (show i < L.length by omega))
      have HTK := hid_intro (itake (show i < L.length by omega))
      have HTL : Hid ((L.take i).length = i) := by show _ = _; rw [List.length_take]; omega
      clear q1 q2 q3 q4 hk hv
      generalize L.getD i it0 = x at *
      obtain ⟨sz, hsz⟩ : ∃ sz, x.size = sz := ⟨_, rfl⟩
      obtain ⟨fs, hfs⟩ : ∃ fs, x.first = fs := ⟨_, rfl⟩
      rw [hsz] at c2
      rw [hfs] at c3
      have HSZ := hid_intro hsz
      have HFS := hid_intro hfs
      clear hsz hfs
      have ga := World.grownBy_alloc wr (.cells #[.slice ao k kc, .slice bo m mc, .int .i64 sz, .int .i64 fs] 48) none
      have N3 := hid_intro (HR.out.keptN ga)
      have X3 := hid_intro (Bx.new wr (.slice ao k kc) (.slice bo m mc) (.int .i64 sz) (.int .i64 fs))
      have hB3 : w.heap.size ≤ wr.heap.size := HR.out.gr.size
      have HVB : Hid (∀ g, v.ownBlock = some g → g < wr.heap.size) := fun g e => (HR.out.own.lt g e).2
      have HKB : Hid (∀ j, j < (L.take i).length → (gk j).1 < wr.heap.size ∧ (gv j).1 < wr.heap.size) := fun j hj => ⟨(HR.out.lm.ko j hj).1.lt, (HR.out.lm.ko j hj).2.lt⟩
      have hQB : Q < wr.heap.size := HR.out.q.lt
      clear ga HR
      go_upto_region 6 with fail
      clear c0 c1 c2 c3
      have hs3 : wr.heap.size < (wr.alloc (.cells #[.slice ao k kc, .slice bo m mc, .int .i64 sz, .int .i64 fs] 48)).heap.size := by simp
      generalize wr.alloc (.cells #[.slice ao k kc, .slice bo m mc, .int .i64 sz, .int .i64 fs] 48) = w3 at *
      generalize wr.heap.size = B at *
      obtain ⟨x0, x1, x2, x3⟩ := X3.out.cells
      go_wp2_with fail
      refine (refBytes_any ao k kc x.key _ (K0.out.keptN N3.out.gr) (by omega)).mono ?_
      rintro en w4 ⟨rfl, hown4, hg4, hs4⟩
      have O4 := hid_intro (hown4.alloc (.cells #[.int .u8 161, .int .u8 162] 5))
      have BL4 := hid_intro (Byt.lit w4 5 #[.int .u8 161, .int .u8 162] [161, 162] 2 rfl rfl)
      have hown4' := hown4
      have HG4 := hid_intro hg4
      clear hown4 hg4
      go_wp2_with (at_builtin; refine wpList_append_byt rfl _ _ rfl w3.heap.size _ k x.key rfl O4.out (some ⟨w4.heap.size, 0, none⟩) 2 2 [161, 162] rfl BL4.out (by omega) (by simp; omega) ?_)
      intro v5 w5 ho5 hg5
      have ho5' : w5.ownsRow w3.heap.size 5 1 v5 (k + 2) ((x.key ++ [161, 162]).map (Value.int .u8)) := by simpa using ho5
      obtain ⟨g1, cc1, rfl, hg1b, hg1l, hg1c⟩ := owns_shape ho5' (by omega)
      have OK5 := hid_intro (Ow.of_owns ho5').1
      have hgr35 := grown_own HG4.out hown4' (Nat.le_refl _) hg5
      have N5 := hid_intro (N3.out.keptN hgr35)
      have X5 := hid_intro (X3.out.keptN hgr35)
      clear ho5 hg5 ho5' hgr35 HG4 hown4' O4 BL4 N3 X3 x0 x1 x2 x3
      obtain ⟨x0, x1, x2, x3⟩ := X5.out.cells
      go_wp2_with fail
      refine (refBytes_any bo m mc x.val _ (V0.out.keptN N5.out.gr) (by omega)).mono ?_
      rintro en w6 ⟨rfl, hown6, hg6, hs6⟩
      have O6 := hid_intro (hown6.alloc (.cells #[.int .u8 163, .int .u8 164] 5))
      have BL6 := hid_intro (Byt.lit w6 5 #[.int .u8 163, .int .u8 164] [163, 164] 2 rfl rfl)
      have hown6' := hown6
      have HG6 := hid_intro hg6
      clear hown6 hg6
      go_wp2_with (at_builtin; refine wpList_append_byt rfl _ _ rfl w5.heap.size _ m x.val rfl O6.out (some ⟨w6.heap.size, 0, none⟩) 2 2 [163, 164] rfl BL6.out (by omega) (by simp; omega) ?_)
      intro v7 w7 ho7 hg7
      have ho7' : w7.ownsRow w5.heap.size 5 1 v7 (m + 2) ((x.val ++ [163, 164]).map (Value.int .u8)) := by simpa using ho7
      obtain ⟨g2, cc2, rfl, hg2b, hg2l, hg2c⟩ := owns_shape ho7' (by omega)
      have OV7 := hid_intro (Ow.of_owns ho7').1
      have hgr57 := grown_own HG6.out hown6' (Nat.le_refl _) hg7
      have N7 := hid_intro (N5.out.keptN hgr57)
      have X7 := hid_intro (X5.out.keptN hgr57)
      have OK7 := hid_intro (OK5.out.keptN hgr57)
      clear ho7 hg7 ho7' hgr57 HG6 hown6' O6 BL6 N5 X5 OK5 x0 x1 x2 x3
      have hsz5 : w3.heap.size ≤ w5.heap.size := by omega
      have HLT : Hid (∀ j, j < (L.take i).length → (gk j).1 < g1 ∧ (gk j).1 < g2 ∧ (gv j).1 < g1 ∧ (gv j).1 < g2) := fun j hj => by
        have := HKB.out j hj
        omega
      obtain ⟨x0, x1, x2, x3⟩ := X7.out.cells
      have q0 := N7.out.q.cells.1
      have HS7 : Hid (∀ W, w7.grownBy W none → W.cell? ⟨B, 0, none⟩ = some (.slice ao k kc) ∧ W.cell? ⟨B, 1, none⟩ = some (.slice bo m mc) ∧ W.cell? ⟨B, 2, none⟩ = some (.int .i64 sz) ∧ W.cell? ⟨B, 3, none⟩ = some (.int .i64 fs)) := fun W hW =>
        ⟨hW.cell x0 (by simp), hW.cell x1 (by simp), hW.cell x2 (by simp), hW.cell x3 (by simp)⟩
      have p1 : (k : Int) ≤ (cc1 : Int) := by omega
      have p2 : (m : Int) ≤ (cc2 : Int) := by omega
      have p3 : (0 : Int) ≤ (k : Int) := by omega
      have p4 : (0 : Int) ≤ (m : Int) := by omega
      have hw7 : w.heap.size ≤ w7.heap.size := N7.out.gr.size
      have HGD := hid_intro (grown_trans ((Qt.refl w7).drew.grown none) (World.grownBy_alloc w7.drew (.cells #[.slice (some ⟨g1, 0, none⟩) k cc1, .slice (some ⟨g2, 0, none⟩) m cc2, .int .i64 sz, .int .i64 fs] 48) none))
      have O7 := hid_intro (own_keptN N7.out.own HGD.out)
      go_upto_region 8 with fail
      refine wp_region_held_drew (S := (fun w' => w'.cell? ⟨B, 0, none⟩ = some (.slice ao k kc) ∧ w'.cell? ⟨B, 1, none⟩ = some (.slice bo m mc) ∧ w'.cell? ⟨B, 2, none⟩ = some (.int .i64 sz) ∧ w'.cell? ⟨B, 3, none⟩ = some (.int .i64 fs))) (by kernel_rfl) ?_ (fun hHeld => ?_)
      · exact HS7.out _ ((Qt.refl _).drew.grown none)
      refine wpAnyH_take (i := 0) (oi := { dst := some 31, op := Op.fieldAddr 26 (Operand.tmp 3) 0, type := 0, pos := "exact.go:61", after := #[], guard := none }) (v := ?_) rfl (by kernel_rfl) (by kernel_rfl) (by kernel_rfl) (fun _ _ _ h => h) (Or.inl ⟨by rfl, ?_⟩) (by assumption) ?_
      rotate_left
      · intro w hSw; (try dsimp only at hSw); go_simp; (try with_reducible rfl)
      simp only [Act.put, List.setIfInBounds_toArray, List.set_cons_zero, List.set_cons_succ]
      refine wpAnyH_take (i := 2) (oi := { dst := some 33, op := Op.move (Operand.tmp 6), type := 34, pos := "exact.go:61", after := #[], guard := none }) (v := ?_) rfl (by kernel_rfl) (by kernel_rfl) (by kernel_rfl) (fun _ _ _ h => h) (Or.inl ⟨by rfl, ?_⟩) (by assumption) ?_
      rotate_left
      · intro w hSw; (try dsimp only at hSw); go_simp; (try with_reducible rfl)
      simp only [Act.put, List.setIfInBounds_toArray, List.set_cons_zero, List.set_cons_succ]
      refine wpAnyH_take (i := 3) (oi := { dst := some 34, op := Op.fieldAddr 48 (Operand.tmp 5) 0, type := 0, pos := "exact.go:61", after := #[], guard := none }) (v := ?_) rfl (by kernel_rfl) (by kernel_rfl) (by kernel_rfl) (fun _ _ _ h => h) (Or.inl ⟨by rfl, ?_⟩) (by assumption) ?_
      rotate_left
      · intro w hSw; (try dsimp only at hSw); go_simp; (try with_reducible rfl)
      simp only [Act.put, List.setIfInBounds_toArray, List.set_cons_zero, List.set_cons_succ]
      refine wpAnyH_take (i := 4) (oi := { dst := some 35, op := Op.load 34 (Operand.tmp 34), type := 34, pos := "exact.go:61", after := #[{ on := 3, ground := Ground.data }], guard := none }) (v := ?_) rfl (by kernel_rfl) (by kernel_rfl) (by kernel_rfl) (fun _ _ _ h => h) (Or.inl ⟨by rfl, ?_⟩) (by assumption) ?_
      rotate_left
      · intro w hSw; (try dsimp only at hSw); go_simp; (try with_reducible rfl)
      simp only [Act.put, List.setIfInBounds_toArray, List.set_cons_zero, List.set_cons_succ]
      refine wpAnyH_take (i := 5) (oi := { dst := some 36, op := Op.call { callee := Callee.builtin Builtin.len, args := #[Operand.tmp 35], argTypes := #[34] }, type := 3, pos := "exact.go:61", after := #[{ on := 4, ground := Ground.data }], guard := none }) (v := ?_) rfl (by kernel_rfl) (by kernel_rfl) (by kernel_rfl) (fun _ _ _ h => h) (Or.inl ⟨by rfl, ?_⟩) (by assumption) ?_
      rotate_left
      · intro w hSw; (try dsimp only at hSw); go_simp; (try with_reducible rfl)
      simp only [Act.put, List.setIfInBounds_toArray, List.set_cons_zero, List.set_cons_succ]
      refine wpAnyH_take (i := 6) (oi := { dst := some 37, op := Op.slice 34 (Operand.tmp 33) none (some (Operand.tmp 36)) none, type := 34, pos := "exact.go:61", after := #[{ on := 2, ground := Ground.data }, { on := 5, ground := Ground.data }], guard := none }) (v := ?_) rfl (by kernel_rfl) (by kernel_rfl) (by kernel_rfl) (fun _ _ _ h => h) (Or.inl ⟨by rfl, ?_⟩) (by assumption) ?_
      rotate_left
      · intro w hSw; (try dsimp only at hSw); go_simp; (try with_reducible rfl)
      simp only [Act.put, List.setIfInBounds_toArray, List.set_cons_zero, List.set_cons_succ]
      refine wpAnyH_take (i := 7) (oi := { dst := some 38, op := Op.move (Operand.tmp 7), type := 34, pos := "exact.go:61", after := #[], guard := none }) (v := ?_) rfl (by kernel_rfl) (by kernel_rfl) (by kernel_rfl) (fun _ _ _ h => h) (Or.inl ⟨by rfl, ?_⟩) (by assumption) ?_
      rotate_left
      · intro w hSw; (try dsimp only at hSw); go_simp; (try with_reducible rfl)
      simp only [Act.put, List.setIfInBounds_toArray, List.set_cons_zero, List.set_cons_succ]
      refine wpAnyH_take (i := 8) (oi := { dst := some 39, op := Op.fieldAddr 48 (Operand.tmp 5) 1, type := 0, pos := "exact.go:61", after := #[], guard := none }) (v := ?_) rfl (by kernel_rfl) (by kernel_rfl) (by kernel_rfl) (fun _ _ _ h => h) (Or.inl ⟨by rfl, ?_⟩) (by assumption) ?_
      rotate_left
      · intro w hSw; (try dsimp only at hSw); go_simp; (try with_reducible rfl)
      simp only [Act.put, List.setIfInBounds_toArray, List.set_cons_zero, List.set_cons_succ]
      refine wpAnyH_take (i := 9) (oi := { dst := some 40, op := Op.load 34 (Operand.tmp 39), type := 34, pos := "exact.go:61", after := #[{ on := 8, ground := Ground.data }], guard := none }) (v := ?_) rfl (by kernel_rfl) (by kernel_rfl) (by kernel_rfl) (fun _ _ _ h => h) (Or.inl ⟨by rfl, ?_⟩) (by assumption) ?_
      rotate_left
      · intro w hSw; (try dsimp only at hSw); go_simp; (try with_reducible rfl)
      simp only [Act.put, List.setIfInBounds_toArray, List.set_cons_zero, List.set_cons_succ]
      refine wpAnyH_take (i := 10) (oi := { dst := some 41, op := Op.call { callee := Callee.builtin Builtin.len, args := #[Operand.tmp 40], argTypes := #[34] }, type := 3, pos := "exact.go:61", after := #[{ on := 9, ground := Ground.data }], guard := none }) (v := ?_) rfl (by kernel_rfl) (by kernel_rfl) (by kernel_rfl) (fun _ _ _ h => h) (Or.inl ⟨by rfl, ?_⟩) (by assumption) ?_
      rotate_left
      · intro w hSw; (try dsimp only at hSw); go_simp; (try with_reducible rfl)
      simp only [Act.put, List.setIfInBounds_toArray, List.set_cons_zero, List.set_cons_succ]
      refine wpAnyH_take (i := 11) (oi := { dst := some 42, op := Op.slice 34 (Operand.tmp 38) none (some (Operand.tmp 41)) none, type := 34, pos := "exact.go:61", after := #[{ on := 7, ground := Ground.data }, { on := 10, ground := Ground.data }], guard := none }) (v := ?_) rfl (by kernel_rfl) (by kernel_rfl) (by kernel_rfl) (fun _ _ _ h => h) (Or.inl ⟨by rfl, ?_⟩) (by assumption) ?_
      rotate_left
      · intro w hSw; (try dsimp only at hSw); go_simp; (try with_reducible rfl)
      simp only [Act.put, List.setIfInBounds_toArray, List.set_cons_zero, List.set_cons_succ]
      refine wpAnyH_take (i := 12) (oi := { dst := some 43, op := Op.fieldAddr 48 (Operand.tmp 5) 2, type := 0, pos := "exact.go:61", after := #[], guard := none }) (v := ?_) rfl (by kernel_rfl) (by kernel_rfl) (by kernel_rfl) (fun _ _ _ h => h) (Or.inl ⟨by rfl, ?_⟩) (by assumption) ?_
      rotate_left
      · intro w hSw; (try dsimp only at hSw); go_simp; (try with_reducible rfl)
      simp only [Act.put, List.setIfInBounds_toArray, List.set_cons_zero, List.set_cons_succ]
      refine wpAnyH_take (i := 13) (oi := { dst := some 44, op := Op.load 3 (Operand.tmp 43), type := 3, pos := "exact.go:61", after := #[{ on := 12, ground := Ground.data }], guard := none }) (v := ?_) rfl (by kernel_rfl) (by kernel_rfl) (by kernel_rfl) (fun _ _ _ h => h) (Or.inl ⟨by rfl, ?_⟩) (by assumption) ?_
      rotate_left
      · intro w hSw; (try dsimp only at hSw); go_simp; (try with_reducible rfl)
      simp only [Act.put, List.setIfInBounds_toArray, List.set_cons_zero, List.set_cons_succ]
      refine wpAnyH_take (i := 14) (oi := { dst := some 45, op := Op.fieldAddr 48 (Operand.tmp 5) 3, type := 0, pos := "exact.go:61", after := #[], guard := none }) (v := ?_) rfl (by kernel_rfl) (by kernel_rfl) (by kernel_rfl) (fun _ _ _ h => h) (Or.inl ⟨by rfl, ?_⟩) (by assumption) ?_
      rotate_left
      · intro w hSw; (try dsimp only at hSw); go_simp; (try with_reducible rfl)
      simp only [Act.put, List.setIfInBounds_toArray, List.set_cons_zero, List.set_cons_succ]
      refine wpAnyH_take (i := 15) (oi := { dst := some 46, op := Op.load 3 (Operand.tmp 45), type := 3, pos := "exact.go:61", after := #[{ on := 14, ground := Ground.data }], guard := none }) (v := ?_) rfl (by kernel_rfl) (by kernel_rfl) (by kernel_rfl) (fun _ _ _ h => h) (Or.inl ⟨by rfl, ?_⟩) (by assumption) ?_
      rotate_left
      · intro w hSw; (try dsimp only at hSw); go_simp; (try with_reducible rfl)
      simp only [Act.put, List.setIfInBounds_toArray, List.set_cons_zero, List.set_cons_succ]
      refine wpAnyH_take (i := 16) (oi := { dst := some 47, op := Op.build 48 #[(0, Operand.tmp 37), (1, Operand.tmp 42), (2, Operand.tmp 44), (3, Operand.tmp 46)], type := 48, pos := "exact.go:61", after := #[{ on := 6, ground := Ground.data }, { on := 11, ground := Ground.data }, { on := 13, ground := Ground.data }, { on := 15, ground := Ground.data }], guard := none }) (v := ?_) rfl (by kernel_rfl) (by kernel_rfl) (by kernel_rfl) (fun _ _ _ h => h) (Or.inl ⟨by rfl, ?_⟩) (by assumption) ?_
      rotate_left
      · intro w hSw; (try dsimp only at hSw); go_simp; (try with_reducible rfl)
      simp only [Act.put, List.setIfInBounds_toArray, List.set_cons_zero, List.set_cons_succ]
      refine wpAnyH_ready (rs := [1, 17]) (by kernel_rfl) (by simp) ?_
      refine AllReadyH.cons (o := { dst := some 32, op := Op.load 22 (Operand.tmp 31), type := 22, pos := "exact.go:61", after := #[{ on := 0, ground := Ground.data }], guard := none }) rfl (fun K hK => ?_) ?_
      · go_simp
        refine hK.out _ _ hHeld (fun hHeld => ?_)
        clear hK K
        refine wpAnyH_ready (rs := [17]) (by kernel_rfl) (by simp) ?_
        refine AllReadyH.cons (o := { dst := some 48, op := Op.buildSlice 22 1 #[(0, Operand.tmp 47)], type := 22, pos := "exact.go:61", after := #[{ on := 16, ground := Ground.data }], guard := none }) rfl (fun K hK => ?_) AllReadyH.nil
        go_simp
        refine hK.out _ _ (HS7.out _ HGD.out) (fun hHeld => ?_)
        clear hK K
        try simp only [Act.put, List.setIfInBounds_toArray, List.set_cons_zero, List.set_cons_succ]
        refine wpAnyH_ready (rs := [18]) (by kernel_rfl) (by simp) ?_
        refine AllReadyH.cons (o := { dst := some 49, op := Op.call { callee := Callee.builtin Builtin.append, args := #[Operand.tmp 32, Operand.tmp 48], argTypes := #[22, 22] }, type := 22, pos := "exact.go:61", after := #[{ on := 1, ground := Ground.data }, { on := 17, ground := Ground.data }], guard := none }) rfl (fun K hK => ?_) AllReadyH.nil
        refine step_append_own5 rfl (.tmp 32) (.tmp 48) 22 (by rfl) w.heap.size 48 i1 (.agg #[.slice none 0 0, .slice none 0 0, .int .i64 0, .int .i64 0]) 4 64 Try.underlying22 hi1 hy0 hy1 hy2 rfl (by decide) v i xs (by rfl) O7.out ⟨w7.heap.size, 0, none⟩ 1 1 [.slice (some ⟨g1, 0, none⟩) k cc1, .slice (some ⟨g2, 0, none⟩) m cc2, .int .i64 sz, .int .i64 fs] (by rfl) (by rfl) (cell_four_new w7.drew _ _ _ _ _) (by intro u hu; simp at hu; rcases hu with rfl | rfl | rfl | rfl <;> rfl) (by unfold maxLen; omega) (by omega) (by simp; omega) ?_
        intro v9 w9 ho9 hg9
        obtain ⟨A9, c9, rfl, hc9, hm9⟩ := own_slice ho9 (by omega)
        have hX9 := (X7.out.keptN HGD.out).kept hg9 (fun e => by have := HVB.out B e.symm; omega)
        have hq9 := (N7.out.q.keptN HGD.out).kept hg9 (Bl.item (N7.out.q.keptN HGD.out) O7.out)
        obtain ⟨k0, k1, k2, k3⟩ := hX9.cells
        have kQ := hq9.cells.1
        have fQ := hq9.frozen 0
        have hgc := grown_cell w9 Q 0 (.slice (some ⟨A9, 0, none⟩) (i + 1) c9)
        have hBQ : some B ≠ some Q := fun e => by have := Option.some.inj e; omega
        refine hK.out _ _ (⟨k0, k1, k2, k3⟩) (fun hHeld => ?_)
        clear hK K
        try simp only [Act.put, List.setIfInBounds_toArray, List.set_cons_zero, List.set_cons_succ]
        refine wpAnyH_take (i := 19) (oi := { dst := some 50, op := Op.fieldAddr 26 (Operand.tmp 3) 0, type := 0, pos := "exact.go:61", after := #[{ on := 0, ground := Ground.phase }, { on := 1, ground := Ground.phase }, { on := 2, ground := Ground.phase }, { on := 3, ground := Ground.phase }, { on := 4, ground := Ground.phase }, { on := 5, ground := Ground.phase }, { on := 6, ground := Ground.phase }, { on := 7, ground := Ground.phase }, { on := 8, ground := Ground.phase }, { on := 9, ground := Ground.phase }, { on := 10, ground := Ground.phase }, { on := 11, ground := Ground.phase }, { on := 12, ground := Ground.phase }, { on := 13, ground := Ground.phase }, { on := 14, ground := Ground.phase }, { on := 15, ground := Ground.phase }, { on := 16, ground := Ground.phase }, { on := 17, ground := Ground.phase }, { on := 18, ground := Ground.phase }], guard := none }) (v := ?_) rfl (by kernel_rfl) (by kernel_rfl) (by kernel_rfl) (fun _ _ _ h => h) (Or.inl ⟨by rfl, ?_⟩) (by assumption) ?_
        rotate_left
        · intro w hSw; (try dsimp only at hSw); go_simp; (try with_reducible rfl)
        simp only [Act.put, List.setIfInBounds_toArray, List.set_cons_zero, List.set_cons_succ]
        refine wpAnyH_ready (rs := [20]) (by kernel_rfl) (by simp) ?_
        refine AllReadyH.cons (o := { dst := none, op := Op.store 22 (Operand.tmp 50) (Operand.tmp 49), type := 0, pos := "exact.go:61", after := #[{ on := 19, ground := Ground.data }, { on := 18, ground := Ground.data }, { on := 18, ground := Ground.chain }, { on := 0, ground := Ground.phase }, { on := 1, ground := Ground.phase }, { on := 2, ground := Ground.phase }, { on := 3, ground := Ground.phase }, { on := 4, ground := Ground.phase }, { on := 5, ground := Ground.phase }, { on := 6, ground := Ground.phase }, { on := 7, ground := Ground.phase }, { on := 8, ground := Ground.phase }, { on := 9, ground := Ground.phase }, { on := 10, ground := Ground.phase }, { on := 11, ground := Ground.phase }, { on := 12, ground := Ground.phase }, { on := 13, ground := Ground.phase }, { on := 14, ground := Ground.phase }, { on := 15, ground := Ground.phase }, { on := 16, ground := Ground.phase }, { on := 17, ground := Ground.phase }, { on := 18, ground := Ground.phase }], guard := none }) rfl (fun K hK => ?_) AllReadyH.nil
        go_simp
        refine hK.out _ _ (⟨hgc.cell k0 hBQ, hgc.cell k1 hBQ, hgc.cell k2 hBQ, hgc.cell k3 hBQ⟩) (fun hHeld => ?_)
        clear hK K
        try simp only [Act.put, List.setIfInBounds_toArray, List.set_cons_zero, List.set_cons_succ]
        refine wpAnyH_done (by kernel_rfl) ?_ _
        have hnu : ∀ (g : Nat), U8 (w7.drew.alloc (.cells #[.slice (some ⟨g1, 0, none⟩) k cc1, .slice (some ⟨g2, 0, none⟩) m cc2, .int .i64 sz, .int .i64 fs] 48)) g → some g ≠ v.ownBlock := fun g hu => own_item_ne O7.out g hu
        have hOK := OK7.out.keptN HGD.out
        have hOV := OV7.out.keptN HGD.out
        have hM9 := ((N7.out.lm.keptN HGD.out).kept hg9 (fun g _ hu => hnu g hu)).snoc (hOK.kept hg9 (hnu g1 hOK.u8)) (hOV.kept hg9 (hnu g2 hOV.u8)) hkl hvl HSZ.out HFS.out (by omega) (by omega) (by omega) HLT.out
        rw [← HTK.out] at hM9
        have N10 := hid_intro ((N7.out.keptN HGD.out).app hM9 ho9 hg9)
        clear hnu hOK hOV hM9 ho9 hg9 hX9 hq9 k0 k1 k2 k3 kQ fQ hgc N7 O7 X7 OK7 OV7
        go_wp2
        go_roundw
        case rel => exact ⟨i + 1, _, _, _, _, by omega, by go_num, N10.out⟩
        case measure => simp [intOf]; omega
      · refine AllReadyH.cons (o := { dst := some 48, op := Op.buildSlice 22 1 #[(0, Operand.tmp 47)], type := 22, pos := "exact.go:61", after := #[{ on := 16, ground := Ground.data }], guard := none }) rfl (fun K hK => ?_) AllReadyH.nil
        go_simp
        refine hK.out _ _ (HS7.out _ HGD.out) (fun hHeld => ?_)
        clear hK K
        try simp only [Act.put, List.setIfInBounds_toArray, List.set_cons_zero, List.set_cons_succ]
        have q0' := (World.grownBy_alloc w7 (.cells #[.slice (some ⟨g1, 0, none⟩) k cc1, .slice (some ⟨g2, 0, none⟩) m cc2, .int .i64 sz, .int .i64 fs] 48) none).cell q0 (by simp)
        refine wpAnyH_ready (rs := [1]) (by kernel_rfl) (by simp) ?_
        refine AllReadyH.cons (o := { dst := some 32, op := Op.load 22 (Operand.tmp 31), type := 22, pos := "exact.go:61", after := #[{ on := 0, ground := Ground.data }], guard := none }) rfl (fun K hK => ?_) AllReadyH.nil
        go_simp
        refine hK.out _ _ (hHeld) (fun hHeld => ?_)
        clear hK K
        try simp only [Act.put, List.setIfInBounds_toArray, List.set_cons_zero, List.set_cons_succ]
        refine wpAnyH_ready (rs := [18]) (by kernel_rfl) (by simp) ?_
        refine AllReadyH.cons (o := { dst := some 49, op := Op.call { callee := Callee.builtin Builtin.append, args := #[Operand.tmp 32, Operand.tmp 48], argTypes := #[22, 22] }, type := 22, pos := "exact.go:61", after := #[{ on := 1, ground := Ground.data }, { on := 17, ground := Ground.data }], guard := none }) rfl (fun K hK => ?_) AllReadyH.nil
        refine step_append_own5 rfl (.tmp 32) (.tmp 48) 22 (by rfl) w.heap.size 48 i1 (.agg #[.slice none 0 0, .slice none 0 0, .int .i64 0, .int .i64 0]) 4 64 Try.underlying22 hi1 hy0 hy1 hy2 rfl (by decide) v i xs (by rfl) O7.out ⟨w7.heap.size, 0, none⟩ 1 1 [.slice (some ⟨g1, 0, none⟩) k cc1, .slice (some ⟨g2, 0, none⟩) m cc2, .int .i64 sz, .int .i64 fs] (by rfl) (by rfl) (cell_four_new w7.drew _ _ _ _ _) (by intro u hu; simp at hu; rcases hu with rfl | rfl | rfl | rfl <;> rfl) (by unfold maxLen; omega) (by omega) (by simp; omega) ?_
        intro v9 w9 ho9 hg9
        obtain ⟨A9, c9, rfl, hc9, hm9⟩ := own_slice ho9 (by omega)
        have hX9 := (X7.out.keptN HGD.out).kept hg9 (fun e => by have := HVB.out B e.symm; omega)
        have hq9 := (N7.out.q.keptN HGD.out).kept hg9 (Bl.item (N7.out.q.keptN HGD.out) O7.out)
        obtain ⟨k0, k1, k2, k3⟩ := hX9.cells
        have kQ := hq9.cells.1
        have fQ := hq9.frozen 0
        have hgc := grown_cell w9 Q 0 (.slice (some ⟨A9, 0, none⟩) (i + 1) c9)
        have hBQ : some B ≠ some Q := fun e => by have := Option.some.inj e; omega
        refine hK.out _ _ (⟨k0, k1, k2, k3⟩) (fun hHeld => ?_)
        clear hK K
        try simp only [Act.put, List.setIfInBounds_toArray, List.set_cons_zero, List.set_cons_succ]
        refine wpAnyH_take (i := 19) (oi := { dst := some 50, op := Op.fieldAddr 26 (Operand.tmp 3) 0, type := 0, pos := "exact.go:61", after := #[{ on := 0, ground := Ground.phase }, { on := 1, ground := Ground.phase }, { on := 2, ground := Ground.phase }, { on := 3, ground := Ground.phase }, { on := 4, ground := Ground.phase }, { on := 5, ground := Ground.phase }, { on := 6, ground := Ground.phase }, { on := 7, ground := Ground.phase }, { on := 8, ground := Ground.phase }, { on := 9, ground := Ground.phase }, { on := 10, ground := Ground.phase }, { on := 11, ground := Ground.phase }, { on := 12, ground := Ground.phase }, { on := 13, ground := Ground.phase }, { on := 14, ground := Ground.phase }, { on := 15, ground := Ground.phase }, { on := 16, ground := Ground.phase }, { on := 17, ground := Ground.phase }, { on := 18, ground := Ground.phase }], guard := none }) (v := ?_) rfl (by kernel_rfl) (by kernel_rfl) (by kernel_rfl) (fun _ _ _ h => h) (Or.inl ⟨by rfl, ?_⟩) (by assumption) ?_
        rotate_left
        · intro w hSw; (try dsimp only at hSw); go_simp; (try with_reducible rfl)
        simp only [Act.put, List.setIfInBounds_toArray, List.set_cons_zero, List.set_cons_succ]
        refine wpAnyH_ready (rs := [20]) (by kernel_rfl) (by simp) ?_
        refine AllReadyH.cons (o := { dst := none, op := Op.store 22 (Operand.tmp 50) (Operand.tmp 49), type := 0, pos := "exact.go:61", after := #[{ on := 19, ground := Ground.data }, { on := 18, ground := Ground.data }, { on := 18, ground := Ground.chain }, { on := 0, ground := Ground.phase }, { on := 1, ground := Ground.phase }, { on := 2, ground := Ground.phase }, { on := 3, ground := Ground.phase }, { on := 4, ground := Ground.phase }, { on := 5, ground := Ground.phase }, { on := 6, ground := Ground.phase }, { on := 7, ground := Ground.phase }, { on := 8, ground := Ground.phase }, { on := 9, ground := Ground.phase }, { on := 10, ground := Ground.phase }, { on := 11, ground := Ground.phase }, { on := 12, ground := Ground.phase }, { on := 13, ground := Ground.phase }, { on := 14, ground := Ground.phase }, { on := 15, ground := Ground.phase }, { on := 16, ground := Ground.phase }, { on := 17, ground := Ground.phase }, { on := 18, ground := Ground.phase }], guard := none }) rfl (fun K hK => ?_) AllReadyH.nil
        go_simp
        refine hK.out _ _ (⟨hgc.cell k0 hBQ, hgc.cell k1 hBQ, hgc.cell k2 hBQ, hgc.cell k3 hBQ⟩) (fun hHeld => ?_)
        clear hK K
        try simp only [Act.put, List.setIfInBounds_toArray, List.set_cons_zero, List.set_cons_succ]
        refine wpAnyH_done (by kernel_rfl) ?_ _
        have hnu : ∀ (g : Nat), U8 (w7.drew.alloc (.cells #[.slice (some ⟨g1, 0, none⟩) k cc1, .slice (some ⟨g2, 0, none⟩) m cc2, .int .i64 sz, .int .i64 fs] 48)) g → some g ≠ v.ownBlock := fun g hu => own_item_ne O7.out g hu
        have hOK := OK7.out.keptN HGD.out
        have hOV := OV7.out.keptN HGD.out
        have hM9 := ((N7.out.lm.keptN HGD.out).kept hg9 (fun g _ hu => hnu g hu)).snoc (hOK.kept hg9 (hnu g1 hOK.u8)) (hOV.kept hg9 (hnu g2 hOV.u8)) hkl hvl HSZ.out HFS.out (by omega) (by omega) (by omega) HLT.out
        rw [← HTK.out] at hM9
        have N10 := hid_intro ((N7.out.keptN HGD.out).app hM9 ho9 hg9)
        clear hnu hOK hOV hM9 ho9 hg9 hX9 hq9 k0 k1 k2 k3 kQ fQ hgc N7 O7 X7 OK7 OV7
        go_wp2
        go_roundw
        case rel => exact ⟨i + 1, _, _, _, _, by omega, by go_num, N10.out⟩
        case measure => simp [intOf]; omega
    · have hin : i = n := by omega
      subst hin
      have e : L.take i = L := by rw [← hn, List.take_length]
      rw [e] at HR
      clear e
      have q0 := HR.out.q.cells.1
      have hB3 : w.heap.size ≤ wr.heap.size := HR.out.gr.size
      have O1 := hid_intro (HR.out.own.alloc (.cells #[.slice none 0 0, .slice none 0 0, .int .i64 (-77), .int .i64 0] 48))
      have hgd := World.grownBy_alloc wr (.cells #[.slice none 0 0, .slice none 0 0, .int .i64 (-77), .int .i64 0] 48) none
      have N1 := hid_intro (HR.out.keptN hgd)
      clear hgd
      go_wp2_with (at_builtin; refine wpList_append_own _ rfl _ _ 22 rfl w.heap.size 48 i1 (.agg #[.slice none 0 0, .slice none 0 0, .int .i64 0, .int .i64 0]) 4 64 Try.underlying22 hi1 hy0 hy1 hy2 rfl (by decide) _ i xs rfl O1.out ⟨wr.heap.size, 0, none⟩ 1 1 [.slice none 0 0, .slice none 0 0, .int .i64 (-77), .int .i64 0] rfl rfl (cell_four_new _ _ _ _ _ _) (by intro u hu; simp at hu; rcases hu with rfl | rfl | rfl <;> rfl) (by unfold maxLen; omega) (by omega) (by simp; omega) ?_)
      intro v' w2 ho2 hg2 _
      obtain ⟨A2, c2, rfl, hc2, hm2⟩ := own_slice ho2 (by omega)
      have hq2 := N1.out.q.kept hg2 (Bl.item N1.out.q O1.out)
      have hu2 := N1.out.u.kept hg2 (Bl.item N1.out.u O1.out)
      have hl2 := N1.out.lm.kept hg2 (fun g _ hu => own_item_ne O1.out g hu)
      have hgc := grown_cell w2 Q 0 (.slice (some ⟨A2, 0, none⟩) (i + 1) c2)
      have hq3 := hq2.set0 (.slice (some ⟨A2, 0, none⟩) (i + 1) c2)
      have hQU : Q ≠ U := N1.out.far.2.2
      have hu3 := hu2.kept hgc (fun e => hQU (Option.some.inj e).symm)
      have hl3 := hl2.kept hgc (fun g _ hu => hq2.u8 g hu)
      have ho3 := ho2.kept hgc (.inr (fun e => hq2.item ho2 e.symm))
      have hgr2 : w.grownBy w2 none := ⟨hg2.os.trans N1.out.gr.os, hg2.tape.trans N1.out.gr.tape, hg2.output.trans N1.out.gr.output, Nat.le_trans N1.out.gr.size hg2.size, fun k hk h1 => (hg2.block k (Nat.lt_of_lt_of_le hk N1.out.gr.size) (fun e => by have := (O1.out.lt k e.symm).1; omega)).trans (N1.out.gr.block k hk h1)⟩
      have hgr3 := grown_new hgr2 hgc N1.out.far.1
      have fQ := hq2.frozen 0
      have kQ := hq2.cells.1
      obtain ⟨y0, y1⟩ := hq3.cells
      obtain ⟨z0, z1⟩ := hu3.cells
      have f0 := hu3.frozen 0
      have f1 := hu3.frozen 1
      have hgu := grown_trans (grown_cell (w2.setCell ⟨Q, 0, none⟩ (.slice (some ⟨A2, 0, none⟩) (i + 1) c2)) U 0 (.slice (some ⟨A2, 0, none⟩) (i + 1) c2)) (grown_cell ((w2.setCell ⟨Q, 0, none⟩ (.slice (some ⟨A2, 0, none⟩) (i + 1) c2)).setCell ⟨U, 0, none⟩ (.slice (some ⟨A2, 0, none⟩) (i + 1) c2)) U 1 (.int .i64 (i : Int)))
      have HD := hid_intro ((hu3.set0 (.slice (some ⟨A2, 0, none⟩) (i + 1) c2)).set1 (.int .i64 (i : Int)))
      have HLD : Hid (Ld (((w2.setCell ⟨Q, 0, none⟩ (.slice (some ⟨A2, 0, none⟩) (i + 1) c2)).setCell ⟨U, 0, none⟩ (.slice (some ⟨A2, 0, none⟩) (i + 1) c2)).setCell ⟨U, 1, none⟩ (.int .i64 (i : Int))) w.heap.size A2 c2 gk gv xs L) :=
        ⟨by rw [hn]; exact ho3.kept hgu (.inr (fun e => hu3.item ho3 e.symm)), hl3.kept hgu (fun g _ hu => hu3.u8 g hu)⟩
      have HGF := hid_intro (grown_new hgr3 hgu N1.out.far.2.1)
      clear hl2 hl3 ho2 ho3 hg2 hgc hgu hgr2 hgr3 HR N1 O1 hq2 hu2 hq3 hu3
      go_wp2
      refine bodyPost_ret (ret_lent rfl _ _ U _ _ rfl HD.out) rfl ?_
      exact ⟨⟨A2, c2, rfl, gk, gv, xs, HLD.out, hc2, hm2⟩, HGF.out⟩
end Go.Proofs.Ytlfhonlifgpnhaa
