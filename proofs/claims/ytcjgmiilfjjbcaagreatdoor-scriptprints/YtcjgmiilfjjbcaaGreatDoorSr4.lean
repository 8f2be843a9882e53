import Derived.Test.YtcjgmiilfjjbcaaGreatDoorGrpY
import Derived.Test.YtcjgmiilfjjbcaaGreatDoorGrpD
namespace Go.Proofs.YtcjgmiilfjjbcaaGreatDoor
open Go.RowKit

theorem heap_keptS {w w' : World} {k : Nat} {x : Obj} (h : w.heap[k]? = some x) (hg : w.grownBy w' none) : w'.heap[k]? = some x := by
  rw [hg.block k (Array.getElem?_eq_some_iff.1 h).1 (by simp)]; exact h
theorem cell_heapS {w : World} {k i : Nat} {cs : Array Value} {t : TypeId} {v : Value} (h : w.heap[k]? = some (.cells cs t (0, 0))) (hv : cs[i]? = some v) : w.cell? ⟨k, i, none⟩ = some v := by
  rw [Lib.cell_of_heap h]; exact hv
theorem grown_cellS (w : World) (g i : Nat) (v : Value) : w.grownBy (w.setCell ⟨g, i, none⟩ v) (some g) :=
  ⟨rfl, rfl, rfl, by simp, fun k hk hne => Below.heap_setCell _ _ _ _ (fun e => hne (by rw [e]))⟩
theorem heap_at0S (w : World) (cs : Array Value) (t : TypeId) : (w.alloc (.cells cs t)).heap[w.heap.size]? = some (.cells cs t (0, 0)) := heap_alloc_new w _
theorem size_fateS : (Tryz.prog.info? 43).map (fun i => i.size) = some 2 := by kernel_rfl
theorem results_fate {fn : Func} {p u : Tmp} (h : fn.results = #[.cell p 43, .tmp u]) (tmps : Array Value) (w : World) (g : Nat) (x y : Value) (hp : tmps.getD p undef = .pointer (some ⟨g, 0, none⟩)) (hr : w.heap[g]? = some (.cells #[x, y] 43 (0, 0))) :
    (results fn tmps).run Tryz.prog w = .ok (.tuple #[.agg #[x, y], tmps.getD u undef]) w := by
  have hp' : tmps[p]?.getD undef = .pointer (some ⟨g, 0, none⟩) := by simpa using hp
  simp [results, h, hp', asAddr, run_loadVar_row w g 43 43 #[x, y] (0, 0) _ hr Tryz.underlying43 rfl (by rw [size_fateS]; rfl)]
theorem box2_put {w : World} {g : Nat} {t : TypeId} {x y : Value} (e : w.heap[g]? = some (.cells #[x, y] t (0, 0))) (u v : Value) : ((w.setCell ⟨g, 0, none⟩ u).setCell ⟨g, 1, none⟩ v).heap[g]? = some (.cells #[u, v] t (0, 0)) ∧ w.grownBy ((w.setCell ⟨g, 0, none⟩ u).setCell ⟨g, 1, none⟩ v) (some g) := by
  have k1 := heap_setCell_same w g 0 _ _ u e
  have k2 := heap_setCell_same _ g 1 _ _ v k1
  refine ⟨?_, (grown_cellS w g 0 u).trans (grown_cellS _ g 1 v)⟩
  rw [k2]
  rfl
theorem cutPrefix_any (T : List UInt8) (c : UInt8) (w : World) : Calls Tryz.prog 109 #[.string (tstr T), .string ⟨#[c]⟩] w fun en w' => en = .returned (.tuple #[.string (tstr (Lib.trimPrefix T [c])), .bool (Lib.hasPrefix T [c])]) ∧ w' = w := cutPrefix_call (tstr T) ⟨#[c]⟩ w
/-- What readFate answers. -/
def FtP (w : World) (r : Except Int (Int × Int)) (en : Ending) (w' : World) : Prop := w.grownBy w' none ∧ ((∃ k a, r = .ok (k, a) ∧ en = .returned (.tuple #[.agg #[.int .i64 k, .int .i64 a], .int .i64 0])) ∨ ∃ e, r = .error e ∧ e ≠ 0 ∧ en = .returned (.tuple #[.agg #[.int .i64 0, .int .i64 0], .int .i64 e]))
set_option maxHeartbeats 2000000 in
set_option maxRecDepth 100000 in
theorem readFate_any (T : List UInt8) (w : World) (hL : Lv w) (hT : T.length ≤ 2000000000) : Calls Tryz.prog 94 #[.string (tstr T)] w fun en w' => FtP w (fte T) en w' := by
  have HL : Hid (Lv w) := hL
  have htl := tstr_toList T
  clear hL
  have G1 := hid_intro (World.grownBy_alloc w (.cells #[.int .i64 0, .int .i64 0] 43) none)
  have x1 := heap_at0S w #[.int .i64 0, .int .i64 0] 43
  have X1 := hid_intro x1
  by_cases h1 : T = [108]
  · subst h1
    have : tstr [108] = ⟨#[108]⟩ := rfl
    rw [this]
    clear htl this
    go_enter Tryz.func94, Tryz.ntmps94
    go_wp2
    refine bodyPost_ret (results_fate rfl _ _ w.heap.size _ _ rfl X1.out) rfl ?_
    exact ⟨G1.out, .inl ⟨0, 0, rfl, rfl⟩⟩
  · by_cases h2 : T = [107]
    · subst h2
      have : tstr [107] = ⟨#[107]⟩ := rfl
      rw [this]
      have d0 := cell_heapS (i := 0) x1 rfl
      have d1 := cell_heapS (i := 1) x1 rfl
      have z0 := frozen_of_row _ w.heap.size 0 _ _ x1
      have z1 := frozen_of_row _ w.heap.size 1 _ _ x1
      clear htl this x1
      go_enter Tryz.func94, Tryz.ntmps94
      go_wp2
      refine bodyPost_ret (results_fate rfl _ _ w.heap.size _ _ rfl (heap_at0S _ _ _)) rfl ?_
      exact ⟨World.grownBy_alloc _ _ _, .inl ⟨1, 0, rfl, rfl⟩⟩
    · have n1 : ((tstr T).toList == [108]) = false := by rw [htl, beq_eq_false_iff_ne]; exact h1
      have n2 : ((tstr T).toList == [107]) = false := by rw [htl, beq_eq_false_iff_ne]; exact h2
      have HF : Hid (fte T = if Lib.hasPrefix T [116] = true then (nmE (T.drop 1)).map fun n => (2, n) else .error 231) := by show _ = _; unfold fte; rw [if_neg h1, if_neg h2]
      have HC := hid_intro (fun W => cutPrefix_any T 116 W)
      clear htl h1 h2
      by_cases hp : Lib.hasPrefix T [116] = true
      · have ht : Lib.trimPrefix T [116] = T.drop 1 := by unfold Lib.trimPrefix; rw [if_pos hp]; rfl
        rw [ht, hp] at HC
        rw [if_pos hp] at HF
        have HN := hid_intro (fun W hW => readNumber_any (T.drop 1) W hW (by rw [List.length_drop]; omega))
        have hc := nm_cases (T.drop 1)
        clear ht hp hT x1
        generalize tstr (T.drop 1) = sd at *
        generalize fte T = FT at *
        generalize tstr T = s at *
        rcases hc with ⟨n, _, e2, e3, e4, _⟩ | ⟨_, e2, e3, e4⟩
        · rw [e3, e4] at HN
          rw [e2] at HF
          clear e2 e3 e4
          go_enter Tryz.func94, Tryz.ntmps94
          go_wp2_with fail
          refine (HC.out _).mono ?_
          rintro en w2 ⟨rfl, rfl⟩
          go_wp2_with fail
          refine (HN.out _ (HL.out.keptN G1.out)).mono ?_
          rintro en w3 ⟨rfl, hg3⟩
          have X3 := hid_intro (heap_keptS X1.out hg3)
          have G3 := hid_intro (grown_trans G1.out hg3)
          have d0 := cell_heapS (i := 0) X3.out rfl
          have d1 := cell_heapS (i := 1) X3.out rfl
          have z0 := frozen_of_row _ w.heap.size 0 _ _ X3.out
          have z1 := frozen_of_row _ w.heap.size 1 _ _ X3.out
          clear hg3
          go_wp2
          obtain ⟨y1, y2⟩ := box2_put X3.out (.int .i64 2) (.int .i64 n)
          refine bodyPost_ret (results_fate rfl _ _ w.heap.size _ _ rfl y1) rfl ?_
          exact ⟨grown_new G3.out y2 (Nat.le_refl _), .inl ⟨2, n, HF.out, rfl⟩⟩
        · rw [e3, e4] at HN
          rw [e2] at HF
          clear e2 e3 e4
          go_enter Tryz.func94, Tryz.ntmps94
          go_wp2_with fail
          refine (HC.out _).mono ?_
          rintro en w2 ⟨rfl, rfl⟩
          go_wp2_with fail
          refine (HN.out _ (HL.out.keptN G1.out)).mono ?_
          rintro en w3 ⟨rfl, hg3⟩
          have X3 := hid_intro (heap_keptS X1.out hg3)
          have G3 := hid_intro (grown_trans G1.out hg3)
          have d0 := cell_heapS (i := 0) X3.out rfl
          have d1 := cell_heapS (i := 1) X3.out rfl
          have z0 := frozen_of_row _ w.heap.size 0 _ _ X3.out
          have z1 := frozen_of_row _ w.heap.size 1 _ _ X3.out
          clear hg3
          go_wp2
          obtain ⟨y1, y2⟩ := box2_put X3.out (.int .i64 0) (.int .i64 0)
          refine bodyPost_ret (results_fate rfl _ _ w.heap.size _ _ rfl (by first | exact y1 | exact X3.out)) rfl ?_
          exact ⟨by first | exact grown_new G3.out y2 (Nat.le_refl _) | exact G3.out, .inr ⟨232, HF.out, by decide, rfl⟩⟩
      · have hp2 : Lib.hasPrefix T [116] = false := by simpa using hp
        rw [hp2] at HC
        rw [if_neg hp] at HF
        clear hp hp2 hT x1
        generalize tstr (Lib.trimPrefix T [116]) = sd at *
        generalize fte T = FT at *
        generalize tstr T = s at *
        go_enter Tryz.func94, Tryz.ntmps94
        go_wp2_with fail
        refine (HC.out _).mono ?_
        rintro en w2 ⟨rfl, rfl⟩
        go_wp2
        refine bodyPost_ret (results_fate rfl _ _ w.heap.size _ _ rfl X1.out) rfl ?_
        exact ⟨G1.out, .inr ⟨231, HF.out, by decide, rfl⟩⟩

/-- Fates as cells. -/
def fcl (l : List (Int × Int)) : List Value := l.flatMap fun p => [.int .i64 p.1, .int .i64 p.2]
theorem fcl_app (l m : List (Int × Int)) : fcl (l ++ m) = fcl l ++ fcl m := by unfold fcl; exact List.flatMap_append
/-- A step in a box, all of it the call's own. -/
structure OpI (w : World) (B O : Nat) (o : Opq) (kv vv hv fv : Value) : Prop where
  box : w.heap[O]? = some (.cells #[.int .i64 o.k, .int .i64 o.a, .int .i64 o.b, .int .i64 o.c, kv, vv, hv, fv] 35 (0, 0))
  key : w.ownsRow B 5 1 kv o.key.length (o.key.map (Value.int .u8))
  val : w.ownsRow B 5 1 vv o.val.length (o.val.map (Value.int .u8))
  hi : w.ownsRow B 5 1 hv o.hi.length (o.hi.map (Value.int .u8))
  f : w.ownsRow B 43 2 fv o.f.length (fcl o.f)
  bk : Bt o.key
  bv : Bt o.val
  bh : Bt o.hi
theorem OpI.keptN {w w' : World} {B O : Nat} {o : Opq} {kv vv hv fv : Value} (h : OpI w B O o kv vv hv fv) (hg : w.grownBy w' none) : OpI w' B O o kv vv hv fv :=
  ⟨heap_keptS h.box hg, own_keptD h.key hg, own_keptD h.val hg, own_keptD h.hi hg, own_keptD h.f hg, h.bk, h.bv, h.bh⟩
theorem own_neB {w : World} {b1 e1 s1 n1 : Nat} {v1 : Value} {x1 : List Value} {O : Nat} {cs : Array Value} {t : TypeId} {fr : Nat × Nat} (h : w.ownsRow b1 e1 s1 v1 n1 x1) (k : w.heap[O]? = some (.cells cs t fr)) (hne : e1 ≠ t) : v1.ownBlock = none ∨ v1.ownBlock ≠ some O := by
  rcases h.2 with ⟨h1, _⟩ | ⟨g, cap, cur, h1, _, h3, _⟩
  · left; rw [h1]; rfl
  · right
    rw [h1]
    simp only [Value.ownBlock, ne_eq, Option.some.injEq]
    intro e
    subst e
    rw [h3] at k
    simp only [Option.some.injEq, Obj.cells.injEq] at k
    exact hne k.2.1
/-- The box is written to. -/
theorem OpI.own {w w' : World} {O base n e sz : Nat} {v : Value} {xs : List Value} {cs : Array Value} {t : TypeId} (h : w.ownsRow base e sz v n xs) (k : w.heap[O]? = some (.cells cs t (0, 0))) (hne : e ≠ t) (hg : w.grownBy w' (some O)) : w'.ownsRow base e sz v n xs :=
  h.kept hg (own_neB h k hne)
theorem OpI.set {w w' : World} {B O : Nat} {o o' : Opq} {kv vv hv fv kv' vv' hv' fv' : Value} (h : OpI w B O o kv vv hv fv) (hg : w.grownBy w' (some O))
    (hb : w'.heap[O]? = some (.cells #[.int .i64 o'.k, .int .i64 o'.a, .int .i64 o'.b, .int .i64 o'.c, kv', vv', hv', fv'] 35 (0, 0)))
    (h1 : w.ownsRow B 5 1 kv' o'.key.length (o'.key.map (Value.int .u8))) (h2 : w.ownsRow B 5 1 vv' o'.val.length (o'.val.map (Value.int .u8))) (h3 : w.ownsRow B 5 1 hv' o'.hi.length (o'.hi.map (Value.int .u8))) (h4 : w.ownsRow B 43 2 fv' o'.f.length (fcl o'.f)) (g1 : Bt o'.key) (g2 : Bt o'.val) (g3 : Bt o'.hi) : OpI w' B O o' kv' vv' hv' fv' :=
  ⟨hb, OpI.own h1 h.box (by decide) hg, OpI.own h2 h.box (by decide) hg, OpI.own h3 h.box (by decide) hg, OpI.own h4 h.box (by decide) hg, g1, g2, g3⟩
end Go.Proofs.YtcjgmiilfjjbcaaGreatDoor
