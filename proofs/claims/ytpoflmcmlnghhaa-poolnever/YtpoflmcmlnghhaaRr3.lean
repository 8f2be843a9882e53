import Derived.Test.YtpoflmcmlnghhaaRr2
namespace Go.Proofs.Ytpoflmcmlnghhaa
open Go.RowKit Go.Maps

/-- append, within a region that draws its order; where the new slice lies. -/
theorem step_append_at {ops : Array Oper} {o : Oper} {a : Act} {w : World} {K : Act → World → Prop} {Q : Exit → Act → World → Prop} {E : Prop} (hgd : o.guard = none) (s x : Operand) (t : TypeId)
    (ho : o.op = .call { callee := .builtin .append, args := #[s, x], argTypes := #[t, t] })
    (base : Nat) (e : TypeId) (i : TypeInfo) (z : Value) (size bytes : Nat) (ht : Try.prog.underlying t = some (.slice e)) (hi : Try.prog.info? e = some i) (hz : i.zero = some z) (hsize : i.size = size) (hby : i.bytes = bytes) (hzs : z.cells.size = size) (hsz : 0 < size)
    (v : Value) (n : Nat) (xs : List Value) (hs : a.eval s = v) (hown : w.ownsRow base e size v n xs)
    (ad : Addr) (m c : Nat) (news : List Value) (hx : a.eval x = .slice (some ad) m c) (hl : news.length = m * size) (hnews : ∀ j u, news[j]? = some u → w.cell? (ad.add j) = some u) (h1 : ∀ u ∈ news, u.oneCell' = true)
    (h63 : n + m ≤ maxLen) (hbytes : (n + m) * bytes ≤ 140737488355328) (hbase : base ≤ w.heap.size)
    (h : ∀ v' w', w'.ownsRow base e size v' (n + m) (xs ++ news) → w.grownBy w' v.ownBlock → (v'.ownBlock = v.ownBlock ∨ v'.ownBlock = some w.heap.size) → K (a.put o.dst v') w') :
    if Region.wanted o (yielded ops a.tmps) = true then Oper.wp Try.prog o a w K Q else E := by
  have hw : Region.wanted o (yielded ops a.tmps) = true := by simp [Region.wanted, hgd]
  rw [if_pos hw]
  obtain ⟨v', w', hrun, r1, r2, r3, r4⟩ := run_append_own_at (P := Try.prog) w base t o.type e i z size bytes ht hi hz hsize hby hzs hsz v n xs hown ad m c news hl hnews h1 h63 hbytes hbase
  unfold Oper.wp
  simp [execOp, ho, resolve, invoke, builtin, hs, hx, hrun, Result.andThen]
  exact h v' w' r1 r2 r4


theorem news2 (w : World) (e : TypeId) (x y : Value) (W : World) (h : W.heap = (w.alloc (.cells #[x, y] e)).heap) : ∀ j u, [x, y][j]? = some u → W.cell? ((⟨w.heap.size, 0, none⟩ : Addr).add j) = some u := fun j u hu => by
  have hA := heap_alloc_new w (.cells #[x, y] e)
  rw [Addr.add_lit, Nat.zero_add, cell_of_row W w.heap.size j _ _ _ (by rw [h]; exact hA)]
  simpa using hu
theorem own_ne_ty {w : World} {base sz n : Nat} {e : TypeId} {v : Value} {xs : List Value} (h : w.ownsRow base e sz v n xs) {b : Nat} {cs : Array Value} {t : TypeId} {fz : Nat × Nat} (hb : w.heap[b]? = some (.cells cs t fz)) (ht : e ≠ t) : some b ≠ v.ownBlock := by
  intro e1
  obtain ⟨_, cur, hc⟩ := own_lt h e1.symm
  rw [hb] at hc
  simp only [Option.some.injEq, Obj.cells.injEq] at hc
  exact ht hc.2.1.symm

def Rb (w : World) (R : Nat) (c k : Int) (vL vP : Value) : Prop := w.heap[R]? = some (.cells #[.int .i64 c, .int .i64 k, vL, vP] 64 (0, 0))
theorem Rb.lt {w : World} {R : Nat} {c k : Int} {vL vP : Value} (h : Rb w R c k vL vP) : R < w.heap.size := (Array.getElem?_eq_some_iff.1 h).1
theorem Rb.cell {w : World} {R : Nat} {c k : Int} {vL vP : Value} (h : Rb w R c k vL vP) (i : Nat) : w.cell? ⟨R, i, none⟩ = (#[.int .i64 c, .int .i64 k, vL, vP] : Array Value)[i]? := cell_of_row w R i _ _ _ h
theorem Rb.c2 {w : World} {R : Nat} {c k : Int} {vL vP : Value} (h : Rb w R c k vL vP) : w.cell? ⟨R, 2, none⟩ = some vL := h.cell 2
theorem Rb.c3 {w : World} {R : Nat} {c k : Int} {vL vP : Value} (h : Rb w R c k vL vP) : w.cell? ⟨R, 3, none⟩ = some vP := h.cell 3
theorem Rb.fz {w : World} {R : Nat} {c k : Int} {vL vP : Value} (h : Rb w R c k vL vP) (i : Nat) : w.frozen? ⟨R, i, none⟩ = false := frozen_of_row w R i _ _ h
theorem Rb.keptN {w w' : World} {R : Nat} {c k : Int} {vL vP : Value} (h : Rb w R c k vL vP) (hg : w.grownBy w' none) : Rb w' R c k vL vP := (hg.block R h.lt (by simp)).trans h
theorem Rb.kept {w w' : World} {R : Nat} {c k : Int} {vL vP : Value} {row : Option Nat} (h : Rb w R c k vL vP) (hg : w.grownBy w' row) (hne : some R ≠ row) : Rb w' R c k vL vP := (hg.block R h.lt hne).trans h
theorem Rb.set2 {w : World} {R : Nat} {c k : Int} {vL vP : Value} (h : Rb w R c k vL vP) (v : Value) : Rb (w.setCell ⟨R, 2, none⟩ v) R c k v vP := heap_setCell_same w R 2 _ _ v h
theorem Rb.set3 {w : World} {R : Nat} {c k : Int} {vL vP : Value} (h : Rb w R c k vL vP) (v : Value) : Rb (w.setCell ⟨R, 3, none⟩ v) R c k vL v := heap_setCell_same w R 3 _ _ v h
theorem Rb.set0 {w : World} {R : Nat} {c k : Int} {vL vP : Value} (h : Rb w R c k vL vP) (x : Int) : Rb (w.setCell ⟨R, 0, none⟩ (.int .i64 x)) R x k vL vP := heap_setCell_same w R 0 _ _ _ h

set_option maxHeartbeats 1000000 in
set_option maxRecDepth 100000 in
theorem rnew_no (c k : Int) (a : Option Addr) (n cap : Nat) (g : List Int) (w : World) (hl : Nt w a g) (hn : g.length = n) (hm : n ≤ 9223372036854775806) (hk : newOk c k g = false) :
    Calls Try.prog 28 #[.int .i64 c, .int .i64 k, .slice a n cap] w fun e w' => e = .returned (.pointer none) ∧ w.grownBy w' none := by
  have HC := hid_intro (rises_any a n cap c g w hl hn hm)
  clear hl
  by_cases h1 : c < 2
  · go_enter Try.func28, Try.ntmps28
    go_wp2
    go_ret
    exact ⟨rfl, World.grownBy.refl _ _⟩
  · by_cases h2 : k < c
    · go_enter Try.func28, Try.ntmps28
      go_wp2
      go_ret
      exact ⟨rfl, World.grownBy.refl _ _⟩
    · by_cases h3 : 524287 < k
      · go_enter Try.func28, Try.ntmps28
        go_wp2
        go_ret
        exact ⟨rfl, World.grownBy.refl _ _⟩
      · have hr : rp 1 c g = false := by
          unfold newOk at hk
          simp only [show 2 ≤ c by omega, show c ≤ k by omega, show k ≤ 524287 by omega, decide_true, Bool.true_and] at hk
          exact hk
        rw [hr] at HC
        clear hr hk
        go_enter Try.func28, Try.ntmps28
        go_wp2_with (go_at_call 45; refine HC.out.mono ?_; rintro en w2 ⟨rfl, hq2⟩)
        go_ret
        exact ⟨rfl, hq2.grown none⟩

set_option maxHeartbeats 4000000 in
set_option maxRecDepth 100000 in
theorem rnew_yes (c k : Int) (a : Option Addr) (n cap : Nat) (g : List Int) (w : World) (hl : Nt w a g) (hn : g.length = n) (hm : n ≤ 1000000) (hk : newOk c k g = true) :
    Calls Try.prog 28 #[.int .i64 c, .int .i64 k, .slice a n cap] w fun e w' => ∃ R, e = .returned (.pointer (some ⟨R, 0, none⟩)) ∧ Rz w' (fun i => w.heap.size ≤ i ∧ i < w'.heap.size) R ⟨c, k, g.map fun x => (x, 0), []⟩ ∧ w.grownBy w' none := by
  obtain ⟨i0, hinf, hz0, hz1, hz2⟩ := info_parts info_rfree
  have HC := hid_intro (rises_any a n cap c g w hl hn (by omega))
  simp only [newOk, Bool.and_eq_true, decide_eq_true_eq] at hk
  obtain ⟨⟨⟨h1, h2⟩, h3⟩, hr⟩ := hk
  rw [hr] at HC
  have HL := hid_intro hl
  clear hl hr
  have h1' : ¬ c < 2 := by omega
  have h2' : ¬ k < c := by omega
  have h3' : ¬ 524287 < k := by omega
  go_enter Try.func28, Try.ntmps28
  go_wp2_with (go_at_call 45; refine HC.out.mono ?_; rintro en w2 ⟨rfl, hq2⟩; have HQ := hid_intro hq2; clear hq2)
  have HB0 : Hid (Rb (w2.alloc (Obj.cells #[Value.int IntKind.i64 c, Value.int IntKind.i64 k, Value.slice none 0 0, Value.slice none 0 0] 64)) w2.heap.size c k (.slice none 0 0) (.slice none 0 0)) := heap_alloc_new w2 _
  have HG0 : Hid (w.grownBy (w2.alloc (Obj.cells #[Value.int IntKind.i64 c, Value.int IntKind.i64 k, Value.slice none 0 0, Value.slice none 0 0] 64)) none) := grown_trans (HQ.out.grown none) (World.grownBy_alloc w2 _ none)
  have hR : w.heap.size ≤ w2.heap.size := (HQ.out.grown none).size
  generalize w2.alloc (Obj.cells #[Value.int IntKind.i64 c, Value.int IntKind.i64 k, Value.slice none 0 0, Value.slice none 0 0] 64) = w1 at *
  generalize w2.heap.size = R at *
  go_loopw [8] (fun si wr => ∃ (i : Nat) (vL : Value), i ≤ n ∧ si = .int .i64 i ∧ Rb wr R c k vL (.slice none 0 0) ∧ wr.ownsRow w.heap.size 79 2 vL i (fcs ((g.take i).map fun x => (x, 0))) ∧ w.grownBy wr none) (fun si _ => n - (zOf si).toNat)
  case atStart => exact ⟨0, _, Nat.zero_le _, rfl, HB0.out, own_nil _ _ _ _, HG0.out⟩
  case round =>
    obtain ⟨i, vL, hi, rfl, hb, ho, hg⟩ := hrel
    have HB := hid_intro hb
    have HO := hid_intro ho
    have HG := hid_intro hg
    clear hb ho hg HB0 HG0
    by_cases hlt : i < n
    · obtain ⟨b, off, rfl, q0⟩ := HL.out.row i (by omega)
      have d0 := HG.out.cell q0 (by simp)
      have g1 : (i : Int) < (n : Int) := by omega
      have g0 : (0 : Int) ≤ (i : Int) := by omega
      have HTK := hid_intro (take_snoc (L := g) (i := i) (by omega))
      have c2 := HB.out.c2
      clear q0
      generalize g.getD i 0 = x at *
      have gA := World.grownBy_alloc wr (.cells #[.int .i64 x, .int .i64 0] 79) none
      have c2a : (wr.alloc (.cells #[.int .i64 x, .int .i64 0] 79)).cell? ⟨R, 2, none⟩ = some vL := (HB.out.keptN gA).c2
      have HOA : Hid (∀ W : World, W.heap = (wr.alloc (.cells #[.int .i64 x, .int .i64 0] 79)).heap → W.ownsRow w.heap.size 79 2 vL i (fcs ((g.take i).map fun x => (x, 0)))) := fun W e => own_same (own_kept5 HO.out gA) (fun g _ => by rw [e])
      have HNA := hid_intro (news2 wr 79 (.int .i64 x) (.int .i64 0))
      have HBA : Hid (∀ W w3 : World, W.grownBy w3 vL.ownBlock → Qt (wr.alloc (.cells #[.int .i64 x, .int .i64 0] 79)) W → Rb w3 R c k vL (.slice none 0 0) ∧ w.grownBy w3 none) := fun W w3 hg e => by
        have hbW : Rb W R c k vL (.slice none 0 0) := by
          unfold Rb
          rw [e.heap]
          exact HB.out.keptN gA
        have hoW := HOA.out W e.heap
        exact ⟨hbW.kept hg (own_ne_ty hoW hbW (by decide)), (grown_trans (grown_trans HG.out gA) (e.grown none)).andThen hg (fun j hj => .inl (own_lt hoW hj).1)⟩
      go_wp2_with fail
      go_region_law (refine step_append_at rfl (.tmp 40) (.tmp 46) 62 (by rfl) w.heap.size 79 i0 (.agg #[.int .i64 0, .int .i64 0]) 2 16 Try.underlying62 hinf hz0 hz1 hz2 rfl (by decide) vL i _ (by rfl) (by exact HOA.out _ rfl) ⟨wr.heap.size, 0, none⟩ 1 1 [.int .i64 x, .int .i64 0] (by rfl) (by rfl) (by exact HNA.out _ rfl) (by intro u hu; simp at hu; rcases hu with rfl | rfl <;> rfl) (by unfold maxLen; omega) (by omega) (by have := HG.out.size; simp; omega) ?_; intro v3 w3 ho3 hg3 loc3; obtain ⟨g3, cap3, cur3, e3, -⟩ := ho3.2.resolve_left (fun e => by have := e.2; omega); subst e3; have b3 := HBA.out _ w3 hg3 ⟨rfl, rfl, rfl, rfl⟩; have c33 := b3.1.c2; have f33 := b3.1.fz 2; have H3 := hid_intro ho3; have G3 := hid_intro b3; clear ho3 hg3 loc3 b3)
      all_goals
        have hgs := grown_cellP w3 R 2 (.slice (some ⟨g3, 0, none⟩) (i + 1) cap3)
        have ho5 := own_keptR H3.out hgs (fun g e e' => own_ne_ty H3.out G3.out.1 (by decide) (by rw [e, e']))
        have hl5 : fcs ((g.take (i + 1)).map fun x => (x, (0 : Int))) = fcs ((g.take i).map fun x => (x, (0 : Int))) ++ [.int .i64 x, .int .i64 0] := by
          rw [HTK.out, List.map_append, fcs_app]
          rfl
        rw [← hl5] at ho5
        have HO5 := hid_intro ho5
        have HB5 := hid_intro (G3.out.1.set2 (.slice (some ⟨g3, 0, none⟩) (i + 1) cap3))
        have HG5 := hid_intro (G3.out.2.andThen hgs (fun j e => .inl (by have := Option.some.inj e; omega)))
        clear hgs ho5 hl5 c33 f33
        go_wp2
        go_roundw
        case rel => exact ⟨i + 1, _, by omega, by go_num, HB5.out, HO5.out, HG5.out⟩
        case measure => simp [zOf]; omega
    · have hin : i = n := by omega
      subst hin
      have HZ : Hid (Rz wr (fun j => w.heap.size ≤ j ∧ j < wr.heap.size) R ⟨c, k, g.map fun x => (x, 0), []⟩) := by
        have ho := own_base HO.out (Nat.zero_le _)
        have e : g.take i = g := by rw [← hn, List.take_length]
        rw [e] at ho
        refine ⟨vL, .slice none 0 0, HB.out, ?_, own_nil _ _ _ _, ⟨hR, HB.out.lt⟩, fun g hg => ?_, (fun g hg => by cases hg), fun j hj => hj.2⟩
        · show wr.ownsRow 0 79 2 vL (g.map fun x => (x, (0 : Int))).length _
          rw [List.length_map, hn]
          exact ho
        · obtain ⟨h1, cur, hc⟩ := own_lt HO.out hg
          exact ⟨h1, (Array.getElem?_eq_some_iff.1 hc).1⟩
      go_wp2
      go_ret
      exact ⟨R, rfl, HZ.out, HG.out⟩

/-- What is usable, by the document. -/
def usR (r : Ro) : List Int := (r.l.filter fun x => r.ps.all fun y => decide (x.2 ≤ y)).map (·.1)
theorem usR_len (r : Ro) : (usR r).length ≤ r.l.length := by
  unfold usR
  rw [List.length_map]
  exact List.length_filter_le _ _
/-- The usable ones of the first i. -/
def usT (r : Ro) (i : Nat) : List Int := ((r.l.take i).filter fun x => r.ps.all fun y => decide (x.2 ≤ y)).map (·.1)
theorem usT_succ (r : Ro) {i : Nat} (h : i < r.l.length) : usT r (i + 1) = usT r i ++ (if (r.ps.all fun y => decide ((r.l.getD i (0, 0)).2 ≤ y)) = true then [(r.l.getD i (0, 0)).1] else []) := by
  unfold usT
  have hg : r.l.getD i (0, 0) = r.l[i] := by simp [List.getD, List.getElem?_eq_getElem h]
  rw [List.take_add_one, List.getElem?_eq_getElem h, hg]
  simp only [Option.toList_some, List.filter_append, List.map_append]
  by_cases e : (r.ps.all fun y => decide ((r.l[i]).2 ≤ y)) = true
  · rw [if_pos e, List.filter_cons_of_pos (p := fun x : Int × Int => r.ps.all fun y => decide (x.2 ≤ y)) e]
    rfl
  · rw [if_neg e, List.filter_cons_of_neg (p := fun x : Int × Int => r.ps.all fun y => decide (x.2 ≤ y)) e]
    rfl
def pinT (r : Ro) (x : Int) (j : Nat) : Bool := (r.ps.take j).all fun y => decide (x ≤ y)
theorem pinT_succ (r : Ro) (x : Int) {j : Nat} (h : j < r.ps.length) : pinT r x (j + 1) = (pinT r x j && decide (x ≤ r.ps.getD j 0)) := by
  unfold pinT
  rw [take_snoc h, List.all_append]
  simp

set_option maxHeartbeats 4000000 in
set_option maxRecDepth 100000 in
theorem rusable_any {w : World} {F : Nat → Prop} {R : Nat} {r : Ro} (h : Rz w F R r) (hs : r.l.length ≤ 2000000) (hs2 : r.ps.length ≤ 2000000) :
    Calls Try.prog 30 #[.pointer (some ⟨R, 0, none⟩)] w fun e w' => ∃ v, e = .returned v ∧ w'.ownsRow w.heap.size 3 1 v (usR r).length ((usR r).map (Value.int .i64)) ∧ w.grownBy w' none := by
  obtain ⟨i1, hi1, hy0, hy1, hy2⟩ := info_parts info_int
  obtain ⟨vL, vP, h⟩ := h
  obtain ⟨ao, cp, rfl, hc1, hc2, hat⟩ := own_pairs h.lr
  obtain ⟨bo, bc, rfl, hnt, hb1, hb2, -, -⟩ := owns_ints h.pr
  have c2 := h.c2
  have c3 := h.c3
  have HA := hid_intro hat
  have HN := hid_intro hnt
  clear h hat hnt
  obtain ⟨n, hn⟩ : ∃ n, n = r.l.length := ⟨_, rfl⟩
  obtain ⟨m, hm⟩ : ∃ m, m = r.ps.length := ⟨_, rfl⟩
  rw [← hn] at hs hc1 c2
  rw [← hm] at hs2 hb1 c3
  have HNE := hid_intro hn
  have HME := hid_intro hm
  clear hn hm
  have HU0 : Hid (usT r n = usR r) := by
    show _ = _
    unfold usT usR
    rw [HNE.out, List.take_length]
  go_enter Try.func30, Try.ntmps30
  go_wp2
  go_loopw [3, 4, 5, 6] (fun sv si _ _ wr => ∃ i : Nat, i ≤ n ∧ si = .int .i64 i ∧ (usT r i).length ≤ i ∧ wr.ownsRow w.heap.size 3 1 sv (usT r i).length ((usT r i).map (Value.int .i64)) ∧ w.grownBy wr none) (fun _ si _ _ _ => n - (zOf si).toNat)
  case atStart => exact ⟨0, Nat.zero_le _, rfl, Nat.le_refl _, own_nil _ _ _ _, World.grownBy.refl _ _⟩
  case round =>
    obtain ⟨i, hi, rfl, hul, hown, hg⟩ := hrel
    have HO := hid_intro hown
    have HG := hid_intro hg
    have d2 := hg.cell c2 (by simp)
    have d3 := hg.cell c3 (by simp)
    clear hown hg
    by_cases hlt : i < n
    · obtain ⟨gL, rfl, q1, q2⟩ := HA.out i (by rw [← HNE.out]; exact hlt)
      have e1 := HG.out.cell q1 (by simp)
      have e2 := HG.out.cell q2 (by simp)
      have HTK := hid_intro (usT_succ r (i := i) (by rw [← HNE.out]; exact hlt))
      clear q1 q2
      generalize (r.l.getD i (0, 0)).1 = x at *
      generalize (r.l.getD i (0, 0)).2 = y at *
      have g1 : (i : Int) < (n : Int) := by omega
      have g0 : (0 : Int) ≤ (i : Int) := by omega
      go_wp2
      have HWR : Hid (∀ W, Qt wr W → W.cell? ⟨R, 2, none⟩ = some (.slice (some ⟨gL, 0, none⟩) n cp) ∧ W.cell? ⟨R, 3, none⟩ = some (.slice bo m bc) ∧ W.cell? ⟨gL, i * 2, none⟩ = some (.int .i64 x) ∧ W.cell? ⟨gL, i * 2 + 1, none⟩ = some (.int .i64 y)) := fun W hW => ⟨(hW.cell _).trans d2, (hW.cell _).trans d3, (hW.cell _).trans e1, (hW.cell _).trans e2⟩
      have HW0 := hid_intro (Qt.refl wr)
      obtain ⟨w0, hw0⟩ : ∃ w0, w0 = wr := ⟨_, rfl⟩
      rw [← hw0] at HWR HO HG
      have HQ0 : Hid (Qt w0 wr) := by rw [hw0]; exact Qt.refl _
      clear hw0 d2 d3 e1 e2 HW0
      go_loopw [5, 6] (fun sb sj wr => ∃ j : Nat, j ≤ m ∧ sj = .int .i64 j ∧ sb = .bool (pinT r y j) ∧ Qt w0 wr) (fun _ sj _ => m - (zOf sj).toNat)
      case atStart => exact ⟨0, Nat.zero_le _, rfl, rfl, HQ0.out⟩
      case round =>
        obtain ⟨j, hj, rfl, hsb, hq⟩ := hrel
        have HQ := hid_intro hq
        obtain ⟨d2, d3, e1, e2⟩ := HWR.out _ hq
        clear hq HQ0
        by_cases hjm : j < m
        · obtain ⟨bb, boff, rfl, q3⟩ := HN.out.row j (by rw [← HME.out]; exact hjm)
          have f0 := (HQ.out.cell _).trans (HG.out.cell q3 (by simp))
          have HPS := hid_intro (pinT_succ r y (j := j) (by rw [← HME.out]; exact hjm))
          have k1 : (j : Int) < (m : Int) := by omega
          have k0 : (0 : Int) ≤ (j : Int) := by omega
          clear q3
          generalize r.ps.getD j 0 = z at *
          cases hp : pinT r y j with
          | false =>
            rw [hp] at hsb
            subst hsb
            have HP2 : Hid (pinT r y (j + 1) = false) := by show _ = _; rw [HPS.out, hp]; rfl
            clear HPS hp
            go_wp2
            go_quiet (fail)
            go_wp2
            go_roundw
            case rel => exact ⟨j + 1, by omega, by go_num, by rw [HP2.out], HQ.out.trans (Qt.drewN _ _)⟩
            case measure => simp [zOf]; omega
          | true =>
            rw [hp] at hsb
            subst hsb
            by_cases hyz : y ≤ z
            · have hd : decide (y ≤ z) = true := by simp [hyz]
              have HP2 : Hid (pinT r y (j + 1) = true) := by show _ = _; rw [HPS.out, hp, hd]; rfl
              clear HPS hp hyz
              go_wp2
              go_quiet (fail)
              go_wp2
              go_roundw
              case rel => exact ⟨j + 1, by omega, by go_num, by rw [HP2.out], HQ.out.trans (Qt.drewN _ _)⟩
              case measure => simp [zOf]; omega
            · have hd : decide (y ≤ z) = false := by simp; omega
              have HP2 : Hid (pinT r y (j + 1) = false) := by show _ = _; rw [HPS.out, hp, hd]; rfl
              clear HPS hp hyz
              go_wp2
              go_quiet (fail)
              go_wp2
              go_roundw
              case rel => exact ⟨j + 1, by omega, by go_num, by rw [HP2.out], HQ.out.trans (Qt.drewN _ _)⟩
              case measure => simp [zOf]; omega
        · have hjm2 : j = m := by omega
          subst hjm2
          have HPA : Hid (pinT r y j = r.ps.all fun z => decide (y ≤ z)) := by
            show _ = _
            unfold pinT
            rw [HME.out, List.take_length]
          have HGQ := hid_intro (grown_trans HG.out (HQ.out.grown none))
          have HOQ := hid_intro (own_kept5 HO.out (HQ.out.grown none))
          cases hp : pinT r y j with
          | false =>
            rw [hp] at hsb
            subst hsb
            have HT2 : Hid (usT r (i + 1) = usT r i) := by
              show _ = _
              rw [HTK.out, ← HPA.out, hp]
              simp
            clear hp HTK HPA
            go_wp2
            go_roundw
            case rel => exact ⟨i + 1, by omega, by go_num, by rw [HT2.out]; omega, by rw [HT2.out]; exact HOQ.out, HGQ.out⟩
            case measure => simp [zOf]; omega
          | true =>
            rw [hp] at hsb
            subst hsb
            have HT2 : Hid (usT r (i + 1) = usT r i ++ [x]) := by
              show _ = _
              rw [HTK.out, ← HPA.out, hp]
              simp
            clear hp HTK HPA
            go_wp2_with (first
              | (at_builtin; refine wpList_append_own _ rfl _ _ 22 rfl w.heap.size 3 i1 (.int .i64 0) 1 8 Try.underlying22 hi1 hy0 hy1 hy2 rfl (by decide) u3 (usT r i).length ((usT r i).map (Value.int .i64)) rfl (HOQ.out.alloc _) ⟨wr.heap.size, 0, none⟩ 1 1 [.int .i64 x] rfl rfl (cell_one_new _ _ _) (by intro u hu; simp at hu; subst hu; rfl) (by unfold maxLen; omega) (by omega) (by have := HGQ.out.size; simp; omega) ?_; intro v' w10 ho hg10 _)
              | go_in)
            have HO4 := hid_intro ho
            have HG4 := hid_intro (grown_app5 HGQ.out HOQ.out (Nat.le_refl _) hg10)
            clear ho hg10
            go_wp2
            go_roundw
            case rel => exact ⟨i + 1, by omega, by go_num, by rw [HT2.out, List.length_append]; simp; omega, by rw [HT2.out, List.map_append, List.length_append]; exact HO4.out, HG4.out⟩
            case measure => simp [zOf]; omega
    · have hin : i = n := by omega
      subst hin
      rw [HU0.out] at HO
      go_wp2
      go_ret
      exact ⟨_, rfl, HO.out, HG.out⟩

def rmR (r : Ro) : Int := (usR r).length + r.k - r.c

set_option maxHeartbeats 1000000 in
set_option maxRecDepth 100000 in
theorem rroom_any {w : World} {F : Nat → Prop} {R : Nat} {r : Ro} (h : Rz w F R r) (hs : r.l.length ≤ 2000000) (hs2 : r.ps.length ≤ 2000000) (k0 : 0 ≤ r.c) (k1 : r.c ≤ r.k) (k2 : r.k ≤ 2000000) :
    Calls Try.prog 31 #[.pointer (some ⟨R, 0, none⟩)] w fun e w' => e = .returned (.int .i64 (rmR r)) ∧ w.grownBy w' none := by
  have hul := usR_len r
  have HC := hid_intro (fun (W : World) (hW : w.grownBy W none) => rusable_any (h.keptN hW) hs hs2)
  obtain ⟨vL, vP, h⟩ := h
  have c0 := h.c0
  have c1 := h.c1
  have HR : Hid (rmR r = ((usR r).length : Int) + r.k - r.c) := rfl
  clear h
  obtain ⟨n, hn⟩ : ∃ n, n = (usR r).length := ⟨_, rfl⟩
  obtain ⟨k, hk⟩ : ∃ k, k = r.k := ⟨_, rfl⟩
  obtain ⟨c, hc⟩ : ∃ c, c = r.c := ⟨_, rfl⟩
  rw [← hk] at c1 k1 k2 HR
  rw [← hc] at c0 k0 k1 HR
  rw [← hn] at hul HR
  have HN := hid_intro hn
  clear hn hk hc
  have e1 : IntKind.i64.wrap ((n : Int) + k) = (n : Int) + k := by simp [IntKind.wrap, IntKind.signed, IntKind.bits]; omega
  have e2 : IntKind.i64.wrap ((n : Int) + k - c) = (n : Int) + k - c := by simp [IntKind.wrap, IntKind.signed, IntKind.bits]; omega
  go_enter Try.func31, Try.ntmps31
  go_wp2_with fail
  go_region_held3 (fun w' => w'.cell? ⟨R, 1, none⟩ = some (.int .i64 k) ∧ w'.cell? ⟨R, 0, none⟩ = some (.int .i64 c)) (first | exact ⟨c1, c0⟩ | exact T2.out | go_keep)
    (first | (go_at_call 30; refine (HC.out w.drew ((Qt.refl w).drew.grown none)).mono ?_; rintro en w2 ⟨v, rfl, ho, hg⟩; have T2 := hid_intro (show w2.cell? ⟨R, 1, none⟩ = some (.int .i64 k) ∧ w2.cell? ⟨R, 0, none⟩ = some (.int .i64 c) from ⟨hg.cell (show w.drew.cell? _ = _ from c1) (by simp), hg.cell (show w.drew.cell? _ = _ from c0) (by simp)⟩); rw [← HN.out] at ho; obtain ⟨ao, cap, rfl, _⟩ := owns_ints ho; have HG := hid_intro (grown_trans ((Qt.refl w).drew.grown none) hg); clear ho hg))
  all_goals
    go_wp2
    go_ret
    exact ⟨by rw [HR.out]; rfl, HG.out⟩
end Go.Proofs.Ytpoflmcmlnghhaa
