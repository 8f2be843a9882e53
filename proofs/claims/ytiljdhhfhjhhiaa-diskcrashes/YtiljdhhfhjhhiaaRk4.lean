import Derived.Test.YtiljdhhfhjhhiaaRk3
import Derived.Test.YtiljdhhfhjhhiaaDkIm
import Derived.Deep.LoopGhost
namespace Go.Proofs.Ytiljdhhfhjhhiaa
open Go.RowKit Go.MuLone

/-- One page more lasts. -/
theorem Rm.more {w w3 : World} {F G : Nat → Prop} {d : Dd} {g : Nat} {z : List Int} {v' : Value} (h : Rm w F d) (hg : Rw w g z) (hl : z.length = 4096) (bt : Bt z)
    (h3 : w.grownBy w3 d.vL.ownBlock) (own : w3.ownsRow 0 22 1 v' (d.bl.length + 1) ((d.bl.map fun x => pv x.1) ++ [pv g])) (loc : v'.ownBlock = d.vL.ownBlock ∨ v'.ownBlock = some w.heap.size)
    (hG : ∀ k, F k → G k) (hGg : G g) (hGs : v'.ownBlock = some w.heap.size → G w.heap.size) (low : ∀ k, G k → k < w3.heap.size) :
    Rm w3 G { d with vL := v', bl := d.bl ++ [(g, z)] } := by
  have pg : ∀ k y, Pb w F k y → w3.heap[k]? = w.heap[k]? := fun k y hp => h3.block k hp.lt (row_ne h.lr hp.at_ (by decide))
  refine ⟨?_, fun k hk => ?_, owns_same h.pr fun k hk => ?_, fun k hk => hG k (h.fp k hk), fun x hx => ?_, fun p hp => ⟨((h.pp p hp).1.same (pg _ _ (h.pp p hp).1)).wide (hG _ (h.pp p hp).1.mem), (h.pp p hp).2⟩, h.pc, low⟩
  · rw [List.length_append, List.map_append]
    exact own
  · rcases loc with e | e
    · exact hG k (h.fl k (e ▸ hk))
    · rw [e] at hk
      rw [← Option.some.inj hk]; exact hGs e
  · obtain ⟨cur, hc⟩ := row_block h.pr hk
    exact h3.block k (Array.getElem?_eq_some_iff.1 hc).1 (row_ne h.lr hc (by decide))
  · rcases List.mem_append.1 hx with hx | hx
    · exact ((h.bp x hx).same (pg _ _ (h.bp x hx))).wide (hG _ (h.bp x hx).mem)
    · simp at hx
      subst hx
      exact ⟨(h3.block g hg.lt (row_ne h.lr hg (by decide))).trans hg, hl, bt, hGg⟩

/-- Another page stands at j. -/
theorem Rm.swap {w : World} {F G : Nat → Prop} {d : Dd} {gL cap j g : Nat} {z : List Int} (h : Rm w F d) (hv : d.vL = .slice (some ⟨gL, 0, none⟩) d.bl.length cap) (hg : Rw w g z) (hl : z.length = 4096) (bt : Bt z) (hG : ∀ k, F k → G k) (hGg : G g) (low : ∀ k, G k → k < w.heap.size) :
    Rm (w.setCell ⟨gL, j, none⟩ (pv g)) G { d with bl := d.bl.set j (g, z) } := by
  have own := h.lr
  rw [hv] at own
  obtain ⟨cur, hc⟩ := row_block h.lr (k := gL) (by rw [hv]; rfl)
  have gs := grown_cell w gL j (pv g)
  have ne : ∀ (k : Nat) (cs : Array Value) (t : TypeId) (fz : Nat × Nat), w.heap[k]? = some (.cells cs t fz) → t ≠ 22 → (w.setCell ⟨gL, j, none⟩ (pv g)).heap[k]? = w.heap[k]? := by
    intro k cs t fz hk ht
    refine gs.block k (Array.getElem?_eq_some_iff.1 hk).1 (fun e => ?_)
    rw [Option.some.inj e, hc] at hk
    simp only [Option.some.injEq, Obj.cells.injEq] at hk
    exact ht hk.2.1.symm
  refine ⟨?_, fun k hk => hG k (h.fl k hk), owns_same h.pr fun k hk => ?_, fun k hk => hG k (h.fp k hk), fun x hx => ?_, fun p hp => ⟨((h.pp p hp).1.same (ne _ _ _ _ (h.pp p hp).1.at_ (by decide))).wide (hG _ (h.pp p hp).1.mem), (h.pp p hp).2⟩, h.pc, fun k hk => by have := low k hk; have := gs.size; omega⟩
  · show World.ownsRow _ 0 22 1 d.vL (d.bl.set j (g, z)).length ((d.bl.set j (g, z)).map fun x => pv x.1)
    rw [List.length_set, List.map_set, hv]
    refine ⟨by rw [List.length_set]; exact own.1, ?_⟩
    rcases own.2 with ⟨h0, _⟩ | ⟨g', cap', cur', hv', a1, a2, a3, a4, a5, a6⟩
    · cases h0
    · injection hv' with e1 e2 e3
      injection e1 with e1
      injection e1 with e4
      subst e4 e3
      refine .inr ⟨gL, cap, _, rfl, a1, heap_setCell_same w gL j _ _ (pv g) a2, a3, a4, by simp [a5], ?_⟩
      rw [Array.toList_setIfInBounds, ← a6, List.take_set]
  · obtain ⟨cur2, hc2⟩ := row_block h.pr hk
    exact ne _ _ _ _ hc2 (by decide)
  · rcases List.mem_or_eq_of_mem_set hx with e | e
    · exact ((h.bp x e).same (ne _ _ _ _ (h.bp x e).at_ (by decide))).wide (hG _ (h.bp x e).mem)
    · subst e
      exact ⟨(ne _ _ _ _ hg (by decide)).trans hg, hl, bt, hGg⟩

/-- The state of 'lasts' while pages of zeros are laid. -/
structure Lr12 (w wr : World) (B : Nat) (F : Nat → Prop) (d : Dd) (U i h c : Nat) (v : Value) (bl : List (Nat × List Int)) : Prop where
  bx : Rx wr B { d with vL := v, bl := bl }
  dm : Rm wr (Nf F w wr) { d with vL := v, bl := bl }
  kp : Kp w wr F
  u : wr.heap[U]? = some (.cells #[.int .i64 i, pv h] 90 (0, 0))
  L : bl.map (·.2) = d.bl.map (·.2) ++ List.replicate c zp

theorem Lr12.next {w wr w2 w3 : World} {B : Nat} {F : Nat → Prop} {d : Dd} {U i h c : Nat} {v v3 : Value} {bl : List (Nat × List Int)} (q : Lr12 w wr B F d U i h c v bl) (fb : F B) (g2 : wr.grownBy w2 none) (r2 : Rw w2 wr.heap.size zp)
    (hg3 : (w2.alloc (.cells #[pv wr.heap.size] 22)).grownBy w3 v.ownBlock) (own3 : w3.ownsRow 0 22 1 v3 (bl.length + 1) ((bl.map fun x => pv x.1) ++ [pv wr.heap.size])) (loc3 : v3.ownBlock = v.ownBlock ∨ v3.ownBlock = some (w2.alloc (.cells #[pv wr.heap.size] 22)).heap.size) :
    Lr12 w (w3.setCell ⟨B, 1, none⟩ v3) B F d U i h (c + 1) v3 (bl ++ [(wr.heap.size, zp)]) := by
  have g1 : wr.grownBy (w2.alloc (.cells #[pv wr.heap.size] 22)) none := grown_trans g2 (World.grownBy_alloc _ _ _)
  have b1 := q.bx.kept g1 (by simp)
  have m1 := q.dm.keptN g1
  have hnB := m1.other b1 (by decide) (by decide) (by decide)
  have b3 : Rx w3 B { d with vL := v, bl := bl } := b1.kept hg3 (fun e => hnB (.inl e.symm))
  have s0 := q.kp.size
  have s1 := g1.size
  have s3 := hg3.size
  have sr := r2.lt
  have sA : (w2.alloc (.cells #[pv wr.heap.size] 22)).heap.size = w2.heap.size + 1 := by simp
  have rz : Rw (w2.alloc (.cells #[pv wr.heap.size] 22)) wr.heap.size zp := r2.keptN (World.grownBy_alloc _ _ _)
  have m3 : Rm w3 (Nf F w w3) { d with vL := v3, bl := bl ++ [(wr.heap.size, zp)] } :=
    m1.more rz zp_len zp_bt hg3 own3 loc3 (fun k hk => hk.imp id (fun x => ⟨x.1, by omega⟩)) (.inr ⟨s0, by omega⟩) (fun e => .inr ⟨by omega, (own3.lt _ e).2⟩) (fun k hk => hk.elim (fun x => by have := q.dm.low k (.inl x); omega) (fun x => x.2))
  have g4 := grown_cell w3 B 1 v3
  have sW : (w3.setCell ⟨B, 1, none⟩ v3).heap.size = w3.heap.size := by simp
  have hu : (w2.alloc (.cells #[pv wr.heap.size] 22)).heap[U]? = some (.cells #[.int .i64 i, pv h] 90 (0, 0)) := (g1.block U (Array.getElem?_eq_some_iff.1 q.u).1 (by simp)).trans q.u
  have hUB : U ≠ B := b1.ne hu (by decide)
  have eN : Nf F w (w3.setCell ⟨B, 1, none⟩ v3) = Nf F w w3 := by unfold Nf; rw [sW]
  refine ⟨b3.set 1 v3 _ rfl, ?_, ?_, ?_, ?_⟩
  · rw [eN]
    exact m3.box (d' := { d with vL := v, bl := bl }) b3 g4
  · refine (q.kp.trans (Kp.of (F := F) g1 (fun k e => by cases e)) (fun k hk => .inl hk)).trans ((Kp.of (F := fun k => F k ∨ w.heap.size ≤ k) hg3 (fun k e => ?_)).trans (Kp.of (F := F) g4 (fun k e => by rw [← Option.some.inj e]; exact fb)) (fun k hk => .inl (.inl hk))) (fun k hk => hk)
    rcases q.dm.fl k e with x | x
    · exact .inl x
    · exact .inr x.1
  · rw [g4.block U (by have := (Array.getElem?_eq_some_iff.1 hu).1; omega) (fun e => hUB (Option.some.inj e)), hg3.block U (Array.getElem?_eq_some_iff.1 hu).1 (row_ne m1.lr hu (by decide))]
    exact hu
  · rw [List.map_append, q.L, List.append_assoc, List.replicate_succ']
    rfl

theorem Lr12.drew {w wr : World} {B : Nat} {F : Nat → Prop} {d : Dd} {U i h c : Nat} {v : Value} {bl : List (Nat × List Int)} (q : Lr12 w wr B F d U i h c v bl) : Lr12 w wr.drew B F d U i h c v bl :=
  ⟨q.bx, q.dm.same (Nat.le_refl _) (fun _ _ => rfl), ⟨q.kp.os, q.kp.tape, q.kp.output, q.kp.size, q.kp.block⟩, q.u, q.L⟩

theorem Lr12.qt {w wr wq : World} {B : Nat} {F : Nat → Prop} {d : Dd} {U i h c : Nat} {v : Value} {bl : List (Nat × List Int)} (q : Lr12 w wr B F d U i h c v bl) (hq : Qt wr wq) : Lr12 w wq B F d U i h c v bl := by
  have e : Nf F w wq = Nf F w wr := by unfold Nf; rw [hq.heap]
  refine ⟨q.bx.same (by rw [hq.heap]), ?_, ⟨hq.os.trans q.kp.os, hq.tape.trans q.kp.tape, hq.output.trans q.kp.output, by rw [hq.heap]; exact q.kp.size, fun k hk hf => by rw [hq.heap]; exact q.kp.block k hk hf⟩, by rw [hq.heap]; exact q.u, q.L⟩
  rw [e]
  exact q.dm.same (by rw [hq.heap]; exact Nat.le_refl _) (fun _ _ => by rw [hq.heap])

/-- 'lasts', done. -/
theorem Lr12.fin {w wr w3 w5 : World} {B : Nat} {F : Nat → Prop} {d : Dd} {U i h c n g gL capL : Nat} {bl : List (Nat × List Int)} {z y : List Int} (q : Lr12 w wr B F d U i h c (.slice (some ⟨gL, 0, none⟩) bl.length capL) bl) (hy : bl[i]? = some (g, y)) (hc : c = i + 1 - d.bl.length)
    (g3 : wr.grownBy w3 none) (hs3 : wr.heap.size < w3.heap.size) (g5 : w3.grownBy w5 (some wr.heap.size)) (hr : Rw w5 wr.heap.size (z.take n ++ y.drop n)) (hz : z.length = 4096) (bz : Bt z) (hn : n ≤ 4096) :
    ∃ v bl, Rx (w5.setCell ⟨gL, i, none⟩ (pv wr.heap.size)) B { d with vL := v, bl := bl } ∧ Rm (w5.setCell ⟨gL, i, none⟩ (pv wr.heap.size)) (Nf F w (w5.setCell ⟨gL, i, none⟩ (pv wr.heap.size))) { d with vL := v, bl := bl } ∧ Kp w (w5.setCell ⟨gL, i, none⟩ (pv wr.heap.size)) F ∧ bl.map (·.2) = landL (d.bl.map (·.2)) i z n := by
  have hp := q.dm.bp (g, y) (List.mem_of_getElem? hy)
  have hyl : y.length = 4096 := hp.len
  have gg : wr.grownBy w5 none := grown_new g3 g5 (Nat.le_refl _)
  have m5 := q.dm.keptN gg
  have b5 := q.bx.kept gg (by simp)
  have s0 := q.kp.size
  have s5 := g5.size
  have gs := grown_cell w5 gL i (pv wr.heap.size)
  have sz : (w5.setCell ⟨gL, i, none⟩ (pv wr.heap.size)).heap.size = w5.heap.size := by simp
  obtain ⟨cur, hcur⟩ := row_block m5.lr (k := gL) rfl
  have hLB : gL ≠ B := b5.ne hcur (by decide)
  have e : Nf F w (w5.setCell ⟨gL, i, none⟩ (pv wr.heap.size)) = Nf F w w5 := by unfold Nf; rw [sz]
  refine ⟨.slice (some ⟨gL, 0, none⟩) bl.length capL, bl.set i (wr.heap.size, z.take n ++ y.drop n), ?_, ?_, ?_, ?_⟩
  · exact b5.kept gs (fun e => hLB (Option.some.inj e).symm)
  · rw [e]
    exact m5.swap (j := i) (cap := capL) rfl hr (by rw [List.length_append, List.length_take, List.length_drop]; omega) ((bz.take n).app (hp.bt.drop n)) (fun k hk => hk.imp id (fun x => ⟨x.1, by have := x.2; omega⟩)) (.inr ⟨s0, hr.lt⟩) (fun k hk => hk.elim (fun x => by have := q.dm.low k (.inl x); omega) (fun x => x.2))
  · refine (q.kp.trans (Kp.of (F := F) gg (fun k e => by cases e)) (fun k hk => .inl hk)).trans (Kp.of (F := fun k => F k ∨ w.heap.size ≤ k) gs (fun k e => ?_)) (fun k hk => hk)
    rw [← Option.some.inj e]
    rcases q.dm.fl gL rfl with x | x
    · exact .inl x
    · exact .inr x.1
  · unfold landL
    rw [List.map_set, q.L, hc, List.length_map]
    have ey : (d.bl.map (·.2) ++ List.replicate (i + 1 - d.bl.length) zp).getD i [] = y := by
      rw [← hc, ← q.L, List.getD, List.getElem?_map, hy]; rfl
    rw [ey]

theorem fill_step (z y : List Int) (k : Nat) (hk : k < 4096) (hz : z.length = 4096) (hy : y.length = 4096) : (z.take k ++ y.drop k).set k (z.getD k 0) = z.take (k + 1) ++ y.drop (k + 1) := by
  apply List.ext_getElem?
  intro j
  rw [List.getElem?_set]
  simp only [List.getElem?_append, List.length_take, List.getElem?_drop, List.length_append, List.length_drop]
  by_cases e : k = j
  · subst e
    rw [if_pos rfl, if_pos (by omega), if_pos (by omega), List.getElem?_take, if_pos (by omega), List.getD, List.getElem?_eq_getElem (by omega)]
    rfl
  · rw [if_neg e]
    by_cases h1 : j < k
    · rw [if_pos (by omega), if_pos (by omega), List.getElem?_take, List.getElem?_take, if_pos h1, if_pos (by omega)]
    · rw [if_neg (by omega), if_neg (by omega)]
      congr 1
      omega

set_option maxHeartbeats 8000000 in
set_option maxRecDepth 8000 in
theorem rlasts_b {w : World} {B : Nat} {F : Nat → Prop} {d : Dd} (hb : Rx w B d) (hm : Rm w F d) (fb : F B) (i h : Nat) (z : List Int) (at_ : Int) (hp : (i, h, z) ∈ d.pl) (_hd : d.bl.length < 524288) :
    Calls Try.prog 55 #[.pointer (some ⟨B, 0, none⟩), .agg #[.int .i64 i, pv h], .int .i64 at_] w fun e w' => e = .returned (.tuple #[]) ∧ ∃ v bl, Rx w' B { d with vL := v, bl := bl } ∧ Rm w' (Nf F w w') { d with vL := v, bl := bl } ∧ Kp w w' F ∧ bl.map (·.2) = landL (d.bl.map (·.2)) i z (rch 2 at_) := by
  obtain ⟨i0, hinf, hz0, hz1, hz2⟩ := info_parts info_bytes
  have hi : i < 524288 := (hm.pp _ hp).2
  have hzl : z.length = 4096 := (hm.pp _ hp).1.len
  have hbz := hid_intro (hm.pp _ hp).1.bt
  have HP := hid_intro hp
  have HM := hid_intro hm
  have HB := hid_intro hb
  clear hm hb hp
  rw [pv_eq]
  go_enter Try.func55, Try.ntmps55
  go_wp2_with fail
  go_loopg [16] (i + 1 - d.bl.length) (fun k _ wr => ∃ v bl c, k = i + 1 - bl.length ∧ bl.length = d.bl.length + c ∧ (d.bl.length ≤ i → bl.length ≤ i + 1) ∧ (i < d.bl.length → c = 0) ∧ Lr12 w wr B F d w.heap.size i h c v bl)
  case atStart =>
    have hg := World.grownBy_alloc w (.cells #[.int .i64 i, pv h] 90) none
    exact ⟨d.vL, d.bl, 0, rfl, rfl, fun e => by omega, fun _ => rfl, HB.out.kept hg (by simp), (HM.out.keptN hg).wide (fun k hk => .inl hk) (fun k hk => hk.elim (fun x => by have := HM.out.low k x; simp; omega) (fun x => x.2)), Kp.of hg (fun k e => by cases e), heap_alloc_new w _, by simp⟩
  case round =>
    obtain ⟨v, bl, c, hk, hlc, hle, hc0, hL⟩ := hrel
    obtain ⟨ao, cap, ev⟩ : ∃ ao cap, v = .slice ao bl.length cap := owns_slice hL.dm.lr
    subst ev
    have c1 := hL.bx.c1
    have f1 := hL.bx.fz 1
    have u0 : wr.cell? ⟨w.heap.size, 0, none⟩ = some (.int .i64 i) := cell_of_row wr _ 0 _ _ _ hL.u
    have u1 : wr.cell? ⟨w.heap.size, 1, none⟩ = some (.slice (some ⟨h, 0, none⟩) 4096 4096) := cell_of_row wr _ 1 _ _ _ hL.u
    simp only at c1
    have HL := hid_intro hL
    have HC := hid_intro (And.intro hk (And.intro hlc (And.intro hle hc0)))
    clear hL
    by_cases hlt : bl.length ≤ i
    · have hlt' : (bl.length : Int) ≤ i := by omega
      have hblm : bl.length < 524289 := by omega
      clear hk hlc hle hc0
      go_wp2_with fail
      go_region
      all_goals
        go_wp2_with fail
        refine (zeros_12 _).mono ?_
        rintro e w2 ⟨rfl, hr2, hg2⟩
        have LD := hid_intro HL.out.drew
        have R2 := hid_intro hr2
        have G2 := hid_intro hg2
        have c1a := (HL.out.drew.bx.kept hg2 (by simp)).c1
        have c1b := (HL.out.drew.bx.kept (grown_trans hg2 (World.grownBy_alloc w2 (.cells #[.slice (some ⟨wr.heap.size, 0, none⟩) 4096 4096] 22) none)) (by simp)).c1
        have OA := hid_intro (HL.out.drew.dm.lr.kept (grown_trans hg2 (World.grownBy_alloc w2 (.cells #[.slice (some ⟨wr.heap.size, 0, none⟩) 4096 4096] 22) none)) (Classical.em _))
        simp only at c1a c1b
        clear hr2 hg2 c1 f1 u0 u1
        go_wp2_with (at_builtin; refine wpList_append_own_at _ rfl _ _ 59 rfl 0 22 i0 (.slice none 0 0) 1 24 Try.underlying59 hinf hz0 hz1 hz2 rfl (by decide) (.slice ao bl.length cap) bl.length _ rfl OA.out ⟨w2.heap.size, 0, none⟩ 1 1 [pv wr.heap.size] rfl rfl (cell_oneIm _ _ _) (by intro u hu; simp at hu; subst hu; rfl) (by unfold maxLen; omega) (by omega) (Nat.zero_le _) ?_)
        intro v3 w3 ho3 hg3 _ loc3
        obtain ⟨g3, cap3, cur3, e3, -⟩ := ho3.2.resolve_left (fun e => by have := e.2; omega)
        subst e3
        have LN := hid_intro (LD.out.next fb G2.out R2.out hg3 ho3 (by simpa using loc3))
        have b3 := (LD.out.bx.kept (grown_trans G2.out (World.grownBy_alloc w2 (.cells #[pv wr.heap.size] 22) none)) (by simp)).kept hg3 (fun e => (LD.out.dm.keptN (grown_trans G2.out (World.grownBy_alloc w2 (.cells #[pv wr.heap.size] 22) none))).other (LD.out.bx.kept (grown_trans G2.out (World.grownBy_alloc w2 (.cells #[pv wr.heap.size] 22) none)) (by simp)) (by decide) (by decide) (by decide) (.inl e.symm))
        have c13 := b3.c1
        have f13 := b3.fz 1
        clear ho3 hg3 loc3 b3
        go_wp2
        go_roundg (i + 1 - (bl.length + 1))
        case measure => have := HC.out.1; omega
        case rel =>
          obtain ⟨hk, hlc, hle, hc0⟩ := HC.out
          exact ⟨_, bl ++ [(wr.heap.size, zp)], c + 1, by rw [List.length_append]; rfl, by rw [List.length_append, hlc]; rfl, fun e => by rw [List.length_append]; have := hle e; simp; omega, fun e => by omega, LN.out⟩
    · have hlt' : (i : Int) < (bl.length : Int) := by omega
      have hc : c = i + 1 - d.bl.length := by omega
      have hx : bl[i]? = some bl[i] := List.getElem?_eq_getElem (by omega)
      revert hx
      generalize bl[i] = x
      intro hx
      obtain ⟨g, y⟩ := x
      obtain ⟨g0, cap0, cur0, hv, _, hg0, hcap, _⟩ := HL.out.dm.lr.2.resolve_left (fun e => by have := e.2; change bl.length = 0 at this; omega)
      simp only [Value.slice.injEq] at hv
      obtain ⟨rfl, _, rfl⟩ := hv
      have ci : wr.cell? ⟨g0, i, none⟩ = some (.slice (some ⟨g, 0, none⟩) 4096 4096) := by
        have := HL.out.dm.lr.cellAt i (by simp; omega)
        rw [this, List.getElem?_map, hx]
        rfl
      have PY := hid_intro (HL.out.dm.bp (g, y) (List.mem_of_getElem? hx))
      have PZ := hid_intro (HL.out.dm.pp _ HP.out).1
      have hyl : y.length = 4096 := PY.out.len
      have HX := hid_intro hx
      clear hk hlc hle hc0 hx hg0 hcap
      obtain ⟨n, hn⟩ : ∃ n, n = rch 2 at_ := ⟨_, rfl⟩
      have hn4 : n ≤ 4096 := by rw [hn]; exact rch_le _ _
      have hn5 : (at_ ≤ 0 → n = 0) ∧ (0 < at_ → 4096 ≤ at_ → n = 4096) ∧ (0 < at_ → at_ < 4096 → (n : Int) = at_) := by
        rw [hn]
        unfold rch
        rw [if_neg (by decide), if_pos rfl]
        refine ⟨fun a => by rw [if_pos a], fun a b => by rw [if_neg (by omega), if_pos b], fun a b => by rw [if_neg (by omega), if_neg (by omega)]; omega⟩
      have HN := hid_intro hn
      clear hn
      go_wp2_with fail
      go_quiet (fail)
      have LQ := hid_intro (HL.out.qt (Qt.drewN wr nq))
      clear HL ci PY PZ c1 u0 u1 f1
      generalize wr.drewN nq = wq at *
      have c1 := LQ.out.bx.c1
      have u0 : wq.cell? ⟨w.heap.size, 0, none⟩ = some (.int .i64 i) := cell_of_row wq _ 0 _ _ _ LQ.out.u
      have u1 : wq.cell? ⟨w.heap.size, 1, none⟩ = some (.slice (some ⟨h, 0, none⟩) 4096 4096) := cell_of_row wq _ 1 _ _ _ LQ.out.u
      have ci : wq.cell? ⟨g0, i, none⟩ = some (.slice (some ⟨g, 0, none⟩) 4096 4096) := by
        have := LQ.out.dm.lr.cellAt i (by simp; omega)
        rw [this, List.getElem?_map, HX.out]
        rfl
      have PY := hid_intro (LQ.out.dm.bp (g, y) (List.mem_of_getElem? HX.out))
      simp only at c1
      go_wp2_with fail
      go_region_with (go_at_call 11; refine (refBytes_any _ _ _ y _ (by exact PY.out.byt.keptN ((Qt.refl _).drew.grown none)) (by omega)).mono ?_; rintro en w3 ⟨rfl, ho3, hg3, hs3⟩; have G3 := hid_intro (grown_trans ((Qt.refl wq).drew.grown none) hg3); have R3 := hid_intro (show Rw w3 wq.heap.size y from Rw.of_owns ho3); have S3 := hid_intro (show wq.heap.size < w3.heap.size from hs3); clear ho3 hg3 hs3)
      all_goals
        go_wp2_with fail
        go_loopw [8] (fun si wr => ∃ k : Nat, k ≤ n ∧ si = .int .i64 (k : Int) ∧ Rw wr wq.heap.size (z.take k ++ y.drop k) ∧ w3.grownBy wr (some wq.heap.size)) (fun si _ => 4096 - (intOf si).toNat)
        case atStart => exact ⟨0, Nat.zero_le _, rfl, by simpa using R3.out, World.grownBy.refl _ _⟩
        case round =>
          obtain ⟨k, hkn, rfl, hrk, hgk⟩ := hrel
          have gq : wq.grownBy wr none := grown_new G3.out hgk (Nat.le_refl _)
          have LK := hid_intro gq
          by_cases hk : k < n
          · have a1 : (k : Int) < at_ := by omega
            have a2 : (k : Int) < 4096 := by omega
            have u1k := gq.cell u1 (by simp)
            have pz := ((LQ.out.dm.pp _ HP.out).1.byt.keptN gq)
            have ch : wr.cell? ⟨h, k, none⟩ = some (.int .u8 (z.getD k 0)) := by
              have := pz.cells ⟨h, 0, none⟩ rfl k (.int .u8 (z.getD k 0)) (by simp [List.getD, List.getElem?_eq_getElem (show k < z.length by omega)])
              rw [Addr.add_lit, Nat.zero_add] at this
              exact this
            have hlk : (z.take k ++ y.drop k).length = 4096 := by rw [List.length_append, List.length_take, List.length_drop]; omega
            have cp := hrk.cell k (by omega)
            have fp_ := hrk.fz k
            have HR := hid_intro (hrk.set k (z.getD k 0))
            have HG := hid_intro (grown_trans hgk (grown_cell wr wq.heap.size k (.int .u8 (z.getD k 0))))
            clear hrk hgk gq pz hlk
            revert ch cp HR HG
            obtain ⟨zk, hzk⟩ : ∃ zk, zk = z.getD k 0 := ⟨_, rfl⟩
            rw [← hzk]
            have HZK := hid_intro hzk
            clear hzk
            intro ch cp HR HG
            go_wp2
            go_roundw
            case rel =>
              refine ⟨k + 1, by omega, by go_num, ?_, HG.out⟩
              have := HR.out
              rw [show (z.take k ++ y.drop k).set k zk = z.take (k + 1) ++ y.drop (k + 1) by rw [HZK.out]; exact fill_step z y k (by omega) hzl hyl] at this
              exact this
            case measure => simp [intOf]; omega
          · obtain rfl : k = n := by omega
            have a1 : ¬ ((k : Int) < at_ ∧ (k : Int) < 4096) := by omega
            have c1k := (LQ.out.bx.kept gq (by simp)).c1
            have u0k := gq.cell u0 (by simp)
            have cik := gq.cell ci (by simp)
            obtain ⟨curk, hck⟩ := row_block (LQ.out.dm.keptN gq).lr (k := g0) rfl
            have fik := frozen_of_row wr g0 i _ _ hck
            simp only at c1k
            have FIN : Hid (∀ W, Qt wr W → _) := fun W hW => LQ.out.fin HX.out hc G3.out S3.out (grown_trans hgk (hW.grown _)) (show Rw W wq.heap.size _ from hrk.keptN (hW.grown none)) hzl hbz.out hn4
            clear hrk hgk gq hck
            by_cases b1 : (k : Int) < at_
            · have b2 : ¬ (k : Int) < 4096 := by omega
              go_wp2_with fail
              go_region
              all_goals
                go_wp2
                go_end0
                refine ⟨rfl, ?_⟩
                rw [← HN.out]
                exact FIN.out _ (Qt.refl _).drew
            · go_wp2_with fail
              go_region
              all_goals
                go_wp2
                go_end0
                refine ⟨rfl, ?_⟩
                rw [← HN.out]
                exact FIN.out _ (Qt.refl _).drew
end Go.Proofs.Ytiljdhhfhjhhiaa
