import Derived.Test.YtpoflmcmlnghhaaRp7
namespace Go.Proofs.Ytpoflmcmlnghhaa
open Go.RowKit Go.Maps

/-! ### a life in memory: a pool, and four lists: what is its owner's (0), what is free (1), since when (2), the pins (3) -/
def upd {T : Type} (f : Fin 4 → T) (k : Fin 4) (v : T) : Fin 4 → T := fun j => if j = k then v else f j
theorem upd_same {T : Type} (f : Fin 4 → T) (k : Fin 4) (v : T) : upd f k v k = v := by simp [upd]
theorem upd_ne {T : Type} (f : Fin 4 → T) {k j : Fin 4} (v : T) (h : j ≠ k) : upd f k v j = f j := by simp [upd, h]
def lcell (B : Nat) (vs : Fin 4 → Value) (ver : Int) : Array Value := #[.pointer (some ⟨B, 0, none⟩), vs 0, vs 1, vs 2, vs 3, .int .i64 ver]
/-- A list that is owned. -/
def Ow (w : World) (base : Nat) (v : Value) (l : List Int) : Prop := w.ownsRow base 3 1 v l.length (l.map (Value.int .i64))
theorem Ow.shape {w : World} {base : Nat} {v : Value} {l : List Int} (h : Ow w base v l) : ∃ ao cap, v = .slice ao l.length cap ∧ Nt w ao l ∧ l.length ≤ cap ∧ cap ≤ 9223372036854775807 := by
  obtain ⟨ao, cap, h1, h2, h3, h4, _⟩ := owns_ints h
  exact ⟨ao, cap, h1, h2, h3, h4⟩
theorem Ow.of {w : World} {base n : Nat} {v : Value} {l : List Int} (h : w.ownsRow base 3 1 v n (l.map (Value.int .i64))) : Ow w base v l := by
  have e := h.1
  rw [List.length_map, Nat.mul_one] at e
  unfold Ow
  rw [e]
  exact h
theorem Ow.base {w : World} {base base' : Nat} {v : Value} {l : List Int} (h : Ow w base v l) (hb : base' ≤ base) : Ow w base' v l := own_base h hb
theorem Ow.keptN {w w' : World} {base : Nat} {v : Value} {l : List Int} (h : Ow w base v l) (hg : w.grownBy w' none) : Ow w' base v l := own_kept5 h hg
theorem Ow.kept {w w' : World} {base : Nat} {v : Value} {l : List Int} {row : Option Nat} (h : Ow w base v l) (hg : w.grownBy w' row) (hne : ∀ g, v.ownBlock = some g → row ≠ some g) : Ow w' base v l := own_keptR h hg hne
theorem Ow.fr {w w' : World} {base : Nat} {v : Value} {l : List Int} {F : Nat → Prop} (h : Ow w base v l) (hf : Fr w w' F) (hne : ∀ g, v.ownBlock = some g → ¬ F g) : Ow w' base v l := own_fr h hf hne
theorem Ow.lt {w : World} {base : Nat} {v : Value} {l : List Int} (h : Ow w base v l) {g : Nat} (hg : v.ownBlock = some g) : base ≤ g ∧ g < w.heap.size := by
  obtain ⟨h1, cur, h2⟩ := own_lt h hg
  exact ⟨h1, (Array.getElem?_eq_some_iff.1 h2).1⟩
theorem Ow.nil (w : World) (base : Nat) : Ow w base (.slice none 0 0) [] := own_nil _ _ _ _

structure Lv (w : World) (F : Nat → Prop) (X B : Nat) (vs : Fin 4 → Value) (ls : Fin 4 → List Int) (ver : Int) : Prop where
  bx : w.heap[X]? = some (.cells (lcell B vs ver) 42 (0, 0))
  own : ∀ k, Ow w 0 (vs k) (ls k)
  fX : F X
  fV : ∀ k g, (vs k).ownBlock = some g → F g
  dis : ∀ j k g, (vs j).ownBlock = some g → (vs k).ownBlock = some g → j = k
  low : ∀ i, F i → i < w.heap.size
theorem Lv.cell {w : World} {F : Nat → Prop} {X B : Nat} {vs : Fin 4 → Value} {ls : Fin 4 → List Int} {ver : Int} (h : Lv w F X B vs ls ver) (i : Nat) : w.cell? ⟨X, i, none⟩ = (lcell B vs ver)[i]? := cell_of_row w X i _ _ _ h.bx
theorem Lv.fz {w : World} {F : Nat → Prop} {X B : Nat} {vs : Fin 4 → Value} {ls : Fin 4 → List Int} {ver : Int} (h : Lv w F X B vs ls ver) (i : Nat) : w.frozen? ⟨X, i, none⟩ = false := frozen_of_row w X i _ _ h.bx
theorem Lv.c0 {w : World} {F : Nat → Prop} {X B : Nat} {vs : Fin 4 → Value} {ls : Fin 4 → List Int} {ver : Int} (h : Lv w F X B vs ls ver) : w.cell? ⟨X, 0, none⟩ = some (.pointer (some ⟨B, 0, none⟩)) := h.cell 0
theorem Lv.c1 {w : World} {F : Nat → Prop} {X B : Nat} {vs : Fin 4 → Value} {ls : Fin 4 → List Int} {ver : Int} (h : Lv w F X B vs ls ver) : w.cell? ⟨X, 1, none⟩ = some (vs 0) := h.cell 1
theorem Lv.c2 {w : World} {F : Nat → Prop} {X B : Nat} {vs : Fin 4 → Value} {ls : Fin 4 → List Int} {ver : Int} (h : Lv w F X B vs ls ver) : w.cell? ⟨X, 2, none⟩ = some (vs 1) := h.cell 2
theorem Lv.c3 {w : World} {F : Nat → Prop} {X B : Nat} {vs : Fin 4 → Value} {ls : Fin 4 → List Int} {ver : Int} (h : Lv w F X B vs ls ver) : w.cell? ⟨X, 3, none⟩ = some (vs 2) := h.cell 3
theorem Lv.c4 {w : World} {F : Nat → Prop} {X B : Nat} {vs : Fin 4 → Value} {ls : Fin 4 → List Int} {ver : Int} (h : Lv w F X B vs ls ver) : w.cell? ⟨X, 4, none⟩ = some (vs 3) := h.cell 4
theorem Lv.c5 {w : World} {F : Nat → Prop} {X B : Nat} {vs : Fin 4 → Value} {ls : Fin 4 → List Int} {ver : Int} (h : Lv w F X B vs ls ver) : w.cell? ⟨X, 5, none⟩ = some (.int .i64 ver) := h.cell 5
theorem Lv.lt {w : World} {F : Nat → Prop} {X B : Nat} {vs : Fin 4 → Value} {ls : Fin 4 → List Int} {ver : Int} (h : Lv w F X B vs ls ver) : X < w.heap.size := h.low _ h.fX
theorem Lv.ne {w : World} {F : Nat → Prop} {X B : Nat} {vs : Fin 4 → Value} {ls : Fin 4 → List Int} {ver : Int} (h : Lv w F X B vs ls ver) (k : Fin 4) : (vs k).ownBlock ≠ some X := fun e => own_ne_ty (h.own k) h.bx (by decide) e.symm
theorem Lv.fr {w w' : World} {F G : Nat → Prop} {X B : Nat} {vs : Fin 4 → Value} {ls : Fin 4 → List Int} {ver : Int} (h : Lv w F X B vs ls ver) (hf : Fr w w' G) (hd : ∀ i, F i → ¬ G i) : Lv w' F X B vs ls ver :=
  ⟨(hf.block X h.lt (hd X h.fX)).trans h.bx, fun k => (h.own k).fr hf (fun g hg => hd g (h.fV k g hg)), h.fX, h.fV, h.dis, fun i hi => Nat.lt_of_lt_of_le (h.low i hi) hf.size⟩
theorem Lv.keptN {w w' : World} {F : Nat → Prop} {X B : Nat} {vs : Fin 4 → Value} {ls : Fin 4 → List Int} {ver : Int} (h : Lv w F X B vs ls ver) (hg : w.grownBy w' none) : Lv w' F X B vs ls ver := h.fr (Fr.ofN (F := fun _ => False) hg) (fun _ _ e => e)
theorem Lv.wide {w : World} {F G : Nat → Prop} {X B : Nat} {vs : Fin 4 → Value} {ls : Fin 4 → List Int} {ver : Int} (h : Lv w F X B vs ls ver) (k : ∀ i, F i → G i) (hl : ∀ i, G i → i < w.heap.size) : Lv w G X B vs ls ver := ⟨h.bx, h.own, k _ h.fX, fun j g e => k _ (h.fV j g e), h.dis, hl⟩

theorem lcell_set {w : World} {X B : Nat} {vs : Fin 4 → Value} {ver : Int} (h : w.heap[X]? = some (.cells (lcell B vs ver) 42 (0, 0))) (k : Fin 4) (v : Value) : (w.setCell ⟨X, k.val + 1, none⟩ v).heap[X]? = some (.cells (lcell B (upd vs k v) ver) 42 (0, 0)) := by
  obtain ⟨k, hk⟩ := k
  match k, hk with
  | 0, _ => exact heap_setCell_same w X 1 _ _ v h
  | 1, _ => exact heap_setCell_same w X 2 _ _ v h
  | 2, _ => exact heap_setCell_same w X 3 _ _ v h
  | 3, _ => exact heap_setCell_same w X 4 _ _ v h
theorem fr_wide_cell {w w1 : World} {F : Nat → Prop} {X i : Nat} {v : Value} (h : Fr w w1 F) (hX : F X) : Fr w (w1.setCell ⟨X, i, none⟩ v) F := h.trans (Fr.of (grown_cellP w1 X i v) (fun j e => .inr (by rw [← Option.some.inj e]; exact hX)))

/-- One of the lists is another one now. -/
theorem Lv.set {w w1 : World} {F : Nat → Prop} {X B : Nat} {vs : Fin 4 → Value} {ls : Fin 4 → List Int} {ver : Int} {row : Option Nat} (h : Lv w F X B vs ls ver) (k : Fin 4) (hg : w.grownBy w1 row) (hr : ∀ g, row = some g → (vs k).ownBlock = some g) (v' : Value) (ys : List Int) (ho : Ow w1 0 v' ys) (hv : ∀ g, v'.ownBlock = some g → (vs k).ownBlock = some g ∨ w.heap.size ≤ g) :
    Lv (w1.setCell ⟨X, k.val + 1, none⟩ v') (Nf F w (w1.setCell ⟨X, k.val + 1, none⟩ v')) X B (upd vs k v') (upd ls k ys) ver ∧ Fr w (w1.setCell ⟨X, k.val + 1, none⟩ v') F := by
  have hz : (w1.setCell ⟨X, k.val + 1, none⟩ v').heap.size = w1.heap.size := by simp
  have hs := hg.size
  have hgc := grown_cellP w1 X (k.val + 1) v'
  have hb1 : w1.heap[X]? = some (.cells (lcell B vs ver) 42 (0, 0)) := (hg.block X h.lt (fun e => h.ne k (hr X e.symm))).trans h.bx
  have hfr : Fr w w1 F := Fr.of hg (fun j e => .inr (h.fV k j (hr j e)))
  refine ⟨⟨lcell_set hb1 k v', fun j => ?_, .inl h.fX, fun j g e => ?_, fun i j g e1 e2 => ?_, fun i hi => ?_⟩, fr_wide_cell hfr h.fX⟩
  · by_cases e : j = k
    · subst e
      rw [upd_same, upd_same]
      exact ho.kept hgc (fun g e e' => own_ne_ty ho hb1 (by decide) (by rw [e, e']))
    · rw [upd_ne _ _ e, upd_ne _ _ e]
      have h1 : Ow w1 0 (vs j) (ls j) := (h.own j).kept hg (fun g e1 e2 => e (h.dis j k g e1 (hr g e2)))
      exact h1.kept hgc (fun g e e' => own_ne_ty h1 hb1 (by decide) (by rw [e, e']))
  · by_cases e0 : j = k
    · subst e0
      rw [upd_same] at e
      rcases hv g e with h1 | h1
      · exact .inl (h.fV j g h1)
      · exact .inr ⟨h1, by rw [hz]; exact (ho.lt e).2⟩
    · rw [upd_ne _ _ e0] at e
      exact .inl (h.fV j g e)
  · have key : ∀ j g, j ≠ k → (vs j).ownBlock = some g → v'.ownBlock = some g → False := fun j g hj e1 e2 => by
      rcases hv g e2 with h1 | h1
      · exact hj (h.dis j k g e1 h1)
      · have := ((h.own j).lt e1).2
        omega
    by_cases hi : i = k
    · subst hi
      by_cases hj : j = i
      · exact hj.symm
      · rw [upd_same] at e1
        rw [upd_ne _ _ hj] at e2
        exact (key j g hj e2 e1).elim
    · rw [upd_ne _ _ hi] at e1
      by_cases hj : j = k
      · subst hj
        rw [upd_same] at e2
        exact (key i g hi e1 e2).elim
      · rw [upd_ne _ _ hj] at e2
        exact h.dis i j g e1 e2
  · rcases hi with h1 | h1
    · have := h.low i h1
      omega
    · exact h1.2
/-- The version. -/
theorem Lv.setV {w : World} {F : Nat → Prop} {X B : Nat} {vs : Fin 4 → Value} {ls : Fin 4 → List Int} {ver : Int} (h : Lv w F X B vs ls ver) (x : Int) : Lv (w.setCell ⟨X, 5, none⟩ (.int .i64 x)) F X B vs ls x ∧ Fr w (w.setCell ⟨X, 5, none⟩ (.int .i64 x)) F := by
  have hgc := grown_cellP w X 5 (.int .i64 x)
  refine ⟨⟨heap_setCell_same w X 5 _ _ (.int .i64 x) h.bx, fun j => (h.own j).kept hgc (fun g e e' => h.ne j (by rw [e, ← e'])), h.fX, h.fV, h.dis, fun i hi => by have := h.low i hi; simpa using this⟩, fr_wide_cell (Fr.refl _ _) h.fX⟩

def pnd (ps : List Int) (v : Int) : Bool := ps.any fun y => decide (y < v)
theorem pnd_take {ps : List Int} {v : Int} {i : Nat} (h : i < ps.length) : pnd (ps.take (i + 1)) v = (pnd (ps.take i) v || decide (ps.getD i 0 < v)) := by
  unfold pnd
  rw [take_snoc h]
  simp
set_option maxHeartbeats 1000000 in
set_option maxRecDepth 100000 in
theorem pinned_any {w : World} {F : Nat → Prop} {X B : Nat} {vs : Fin 4 → Value} {ls : Fin 4 → List Int} {ver : Int} (h : Lv w F X B vs ls ver) (v : Int) :
    Calls Try.prog 18 #[.pointer (some ⟨X, 0, none⟩), .int .i64 v] w fun e w' => e = .returned (.bool (pnd (ls 3) v)) ∧ w' = w := by
  obtain ⟨ao, cap, ev, hnt, hc1, hc2⟩ := (h.own 3).shape
  have c4 := h.c4
  rw [ev] at c4
  clear ev h
  have HL := hid_intro hnt
  clear hnt
  generalize ls 3 = ps at *
  obtain ⟨n, hn⟩ : ∃ n, n = ps.length := ⟨_, rfl⟩
  rw [← hn] at c4 hc1
  go_enter Try.func18, Try.ntmps18
  go_wp2
  go_loopw [5] (fun si wr => ∃ i : Nat, i ≤ n ∧ si = .int .i64 i ∧ pnd (ps.take i) v = false ∧ wr = w) (fun si _ => n - (zOf si).toNat)
  case atStart => exact ⟨0, Nat.zero_le _, rfl, by simp [pnd], rfl⟩
  case round =>
    obtain ⟨i, hi, rfl, ha, rfl⟩ := hrel
    have HA := hid_intro ha
    clear ha
    by_cases hlt : i < n
    · obtain ⟨b, off, rfl, q0⟩ := HL.out.row i (by omega)
      have HM := hid_intro (nget_mem (show i < ps.length by omega))
      have HT := hid_intro (pnd_take (ps := ps) (v := v) (i := i) (by omega))
      generalize ps.getD i 0 = y at *
      by_cases he : y < v
      · have HX : Hid (pnd ps v = true) := by
          show _ = _
          unfold pnd
          rw [List.any_eq_true]
          exact ⟨y, HM.out, by simp [he]⟩
        go_wp2
        go_ret
        first | exact ⟨by rw [HX.out]; rfl, rfl⟩ | exact ⟨by rw [HX.out], rfl⟩ | exact ⟨HX.out, trivial⟩ | simp [HX.out]
      · have HX : Hid (pnd (ps.take (i + 1)) v = false) := by
          show _ = _
          rw [HT.out, HA.out]
          simp; omega
        go_wp2
        go_roundw
        case rel => exact ⟨i + 1, by omega, by go_num, HX.out, by trivial⟩
        case measure => simp [zOf]; omega
    · have hin : i = n := by omega
      subst hin
      have HX : Hid (pnd ps v = false) := by
        have := HA.out
        rw [hn, List.take_length] at this
        exact this
      go_wp2
      go_ret
      first | exact ⟨by rw [HX.out]; rfl, rfl⟩ | exact ⟨by rw [HX.out], rfl⟩ | exact ⟨HX.out, trivial⟩ | simp [HX.out]

theorem erase_snoc (T : List Int) (x y : Int) : (T ++ [y]).erase x = if x ∈ T then T.erase x ++ [y] else if y = x then T else T ++ [y] := by
  rw [List.erase_append]
  split
  · rfl
  · by_cases e : y = x
    · subst e; simp
    · rw [if_neg e]; simp [e]
theorem Ow.snoc {w : World} {base n : Nat} {v : Value} {T : List Int} {y : Int} (h : w.ownsRow base 3 1 v n (T.map (Value.int .i64) ++ [.int .i64 y])) : Ow w base v (T ++ [y]) := by
  apply Ow.of (n := n)
  rw [List.map_append]
  exact h
set_option maxHeartbeats 1000000 in
set_option maxRecDepth 100000 in
theorem without_any (a : Option Addr) (n cap : Nat) (L : List Int) (x : Int) (w : World) (hl : Nt w a L) (hn : L.length = n) (hm : n ≤ 2000000) :
    Calls Try.prog 37 #[.slice a n cap, .int .i64 x] w fun e w' => ∃ v, e = .returned v ∧ Ow w' w.heap.size v (L.erase x) ∧ w.grownBy w' none := by
  obtain ⟨i1, hi1, hy0, hy1, hy2⟩ := info_parts info_int
  have HL := hid_intro hl
  clear hl
  go_enter Try.func37, Try.ntmps37
  go_wp2
  go_loopw [5, 6, 7] (fun sv so si wr => ∃ i : Nat, i ≤ n ∧ si = .int .i64 i ∧ so = .bool (decide (x ∈ L.take i)) ∧ Ow wr w.heap.size sv ((L.take i).erase x) ∧ w.grownBy wr none) (fun _ _ si _ => n - (zOf si).toNat)
  case atStart => exact ⟨0, Nat.zero_le _, rfl, by simp, by simp; exact Ow.nil _ _, World.grownBy.refl _ _⟩
  case round =>
    obtain ⟨i, hi, rfl, hso, hown, hg⟩ := hrel
    have HG := hid_intro hg
    have HO := hid_intro hown
    clear hg hown
    by_cases hlt : i < n
    · obtain ⟨b, off, rfl, q0⟩ := HL.out.row i (by omega)
      have d0 := HG.out.cell q0 (by simp)
      have HT := hid_intro (take_snoc (L := L) (i := i) (by omega))
      have HE := hid_intro (erase_snoc (L.take i) x (L.getD i 0))
      have hle : ((L.take i).erase x).length ≤ i := Nat.le_trans (List.length_erase_le) (by simp; omega)
      clear q0
      generalize L.getD i 0 = y at *
      by_cases hx : x ∈ L.take i
      · rw [decide_eq_true hx] at hso
        subst hso
        have HX : Hid (decide (x ∈ L.take (i + 1)) = true) := by
          show _ = _
          rw [HT.out]
          simp [hx]
        have HR : Hid ((L.take (i + 1)).erase x = (L.take i).erase x ++ [y]) := by
          show _ = _
          rw [HT.out, HE.out, if_pos hx]
        by_cases he : y = x
        · have h2 : (y == x) = true := by simp [he]
          clear hx he HT HE
          go_wp2_with (first
            | (at_builtin; refine wpList_append_own _ rfl _ _ 22 rfl w.heap.size 3 i1 (.int .i64 0) 1 8 Try.underlying22 hi1 hy0 hy1 hy2 rfl (by decide) u5 _ _ rfl (World.ownsRow.alloc HO.out _) ⟨wr.heap.size, 0, none⟩ 1 1 [.int .i64 y] rfl rfl (cell_one_new _ _ _) (by intro u hu; simp at hu; subst hu; rfl) (by unfold maxLen; omega) (by omega) (by have := HG.out.size; simp; omega) ?_; intro v' w10 ho hg10 _)
            | go_in)
          have HO4 := hid_intro (Ow.snoc ho)
          have HG4 := hid_intro (grown_app5 HG.out HO.out (Nat.le_refl _) hg10)
          clear ho hg10
          go_wp2
          go_roundw
          case rel => exact ⟨i + 1, by omega, by go_num, by rw [HX.out], by rw [HR.out]; exact HO4.out, HG4.out⟩
          case measure => simp [zOf]; omega
        · have h2 : (y == x) = false := by simp [he]
          clear hx he HT HE
          go_wp2_with (first
            | (at_builtin; refine wpList_append_own _ rfl _ _ 22 rfl w.heap.size 3 i1 (.int .i64 0) 1 8 Try.underlying22 hi1 hy0 hy1 hy2 rfl (by decide) u5 _ _ rfl (World.ownsRow.alloc HO.out _) ⟨wr.heap.size, 0, none⟩ 1 1 [.int .i64 y] rfl rfl (cell_one_new _ _ _) (by intro u hu; simp at hu; subst hu; rfl) (by unfold maxLen; omega) (by omega) (by have := HG.out.size; simp; omega) ?_; intro v' w10 ho hg10 _)
            | go_in)
          have HO4 := hid_intro (Ow.snoc ho)
          have HG4 := hid_intro (grown_app5 HG.out HO.out (Nat.le_refl _) hg10)
          clear ho hg10
          go_wp2
          go_roundw
          case rel => exact ⟨i + 1, by omega, by go_num, by rw [HX.out], by rw [HR.out]; exact HO4.out, HG4.out⟩
          case measure => simp [zOf]; omega
      · rw [decide_eq_false hx] at hso
        subst hso
        by_cases he : y = x
        · have h2 : (y == x) = true := by simp [he]
          have HX : Hid (decide (x ∈ L.take (i + 1)) = true) := by
            show _ = _
            rw [HT.out]
            simp [he]
          have HR : Hid (Ow wr w.heap.size u5 ((L.take (i + 1)).erase x)) := by
            have := HO.out
            rw [List.erase_of_not_mem hx] at this
            show Ow _ _ _ _
            rw [HT.out, HE.out, if_neg hx, if_pos he]
            exact this
          clear hx he HT HE
          go_wp2
          go_roundw
          case rel => exact ⟨i + 1, by omega, by go_num, by rw [HX.out], HR.out, HG.out⟩
          case measure => simp [zOf]; omega
        · have h2 : (y == x) = false := by simp [he]
          have HX : Hid (decide (x ∈ L.take (i + 1)) = false) := by
            show _ = _
            rw [HT.out]
            simp [hx, Ne.symm he]
          have HR : Hid ((L.take (i + 1)).erase x = (L.take i).erase x ++ [y]) := by
            show _ = _
            rw [HT.out, HE.out, if_neg hx, if_neg he, List.erase_of_not_mem hx]
          clear hx he HT HE
          go_wp2_with (first
            | (at_builtin; refine wpList_append_own _ rfl _ _ 22 rfl w.heap.size 3 i1 (.int .i64 0) 1 8 Try.underlying22 hi1 hy0 hy1 hy2 rfl (by decide) u5 _ _ rfl (World.ownsRow.alloc HO.out _) ⟨wr.heap.size, 0, none⟩ 1 1 [.int .i64 y] rfl rfl (cell_one_new _ _ _) (by intro u hu; simp at hu; subst hu; rfl) (by unfold maxLen; omega) (by omega) (by have := HG.out.size; simp; omega) ?_; intro v' w10 ho hg10 _)
            | go_in)
          have HO4 := hid_intro (Ow.snoc ho)
          have HG4 := hid_intro (grown_app5 HG.out HO.out (Nat.le_refl _) hg10)
          clear ho hg10
          go_wp2
          go_roundw
          case rel => exact ⟨i + 1, by omega, by go_num, by rw [HX.out], by rw [HR.out]; exact HO4.out, HG4.out⟩
          case measure => simp [zOf]; omega
    · have hin : i = n := by omega
      subst hin
      have HO5 : Hid (Ow wr w.heap.size u5 (L.erase x)) := by
        have := HO.out
        rw [← hn, List.take_length] at this
        exact this
      go_wp2
      go_ret
      exact ⟨_, rfl, HO5.out, HG.out⟩
end Go.Proofs.Ytpoflmcmlnghhaa
