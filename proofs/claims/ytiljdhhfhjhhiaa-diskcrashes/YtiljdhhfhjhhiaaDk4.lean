import Derived.Test.YtiljdhhfhjhhiaaDk3
import Derived.Deep.RegionHeld3
import Derived.Deep.LoopGhost
namespace Go.Proofs.Ytiljdhhfhjhhiaa
open Go.RowKit Go.MuLone

/-- A page of zeros. -/
def zp : List Int := List.replicate 4096 0
theorem zp_len : zp.length = 4096 := List.length_replicate
theorem zp_bt : Bt zp := by intro z hz; rw [List.eq_of_mem_replicate hz]; omega

/-- What lasts, when the first n bytes of z reach page i. -/
def landL (L : List (List Int)) (i : Nat) (z : List Int) (n : Nat) : List (List Int) := (L ++ List.replicate (i + 1 - L.length) zp).set i (z.take n ++ ((L ++ List.replicate (i + 1 - L.length) zp).getD i []).drop n)

theorem info_bytes : (Try.prog.info? 22).map (fun i => (i.zero, i.size, i.bytes)) = some (some (.slice none 0 0), 1, 24) := by kernel_rfl

theorem make_n (n : Nat) (hn : n ≤ 65536) : ∃ ZZ : Array Value, (∀ W : World, (Instr.makeSlice 22 (.int .i64 (n : Int)) (.int .i64 (n : Int))).run Try.prog W = .ok (.slice (some ⟨W.heap.size, 0, none⟩) n n) (W.alloc (.cells ZZ 5))) ∧ ZZ = ((List.replicate n (0 : Int)).map (Value.int .u8)).toArray := by
  obtain ⟨i0, hi, hz0, hz1, hz2⟩ := info_parts info_u8
  refine ⟨madeCells #[Value.int .u8 0] n, fun W => ?_, by rw [← made]⟩
  have := run_makeSlice (P := Try.prog) (w := W) 22 5 i0 (.int .u8 0) Try.underlying22 hi hz0 .i64 .i64 (n : Int) (n : Int) (by omega) (by omega) (by rw [hz1]; simp; omega) (by rw [hz2]; omega) (by omega)
  rw [hz1, show (Value.int .u8 0).cells = #[Value.int .u8 0] from rfl, Int.toNat_natCast, Nat.mul_one] at this
  exact this
theorem make_zp : ∃ ZZ : Array Value, (∀ W : World, (Instr.makeSlice 22 (.int .i64 4096) (.int .i64 4096)).run Try.prog W = .ok (.slice (some ⟨W.heap.size, 0, none⟩) 4096 4096) (W.alloc (.cells ZZ 5))) ∧ ZZ = (zp.map (Value.int .u8)).toArray := make_n 4096 (by omega)

/-- append, within a region that draws its order; where the new slice lies. -/
theorem step_append_at {ops : Array Oper} {o : Oper} {a : Act} {w : World} {K : Act → World → Prop} {Q : Exit → Act → World → Prop} {E : Prop} (hgd : o.guard = none) (s x : Operand) (t : TypeId)
    (ho : o.op = .call { callee := .builtin .append, args := #[s, x], argTypes := #[t, t] })
    (base : Nat) (e : TypeId) (i : TypeInfo) (z : Value) (size bytes : Nat) (ht : Try.prog.underlying t = some (.slice e)) (hi : Try.prog.info? e = some i) (hz : i.zero = some z) (hsize : i.size = size) (hby : i.bytes = bytes) (hzs : z.cells.size = size) (hsz : 0 < size)
    (v : Value) (n : Nat) (xs : List Value) (hs : a.eval s = v) (hown : w.ownsRow base e size v n xs)
    (ad : Addr) (m c : Nat) (news : List Value) (hx : a.eval x = .slice (some ad) m c) (hl : news.length = m * size) (hnews : ∀ j u, news[j]? = some u → w.cell? (ad.add j) = some u) (h1 : ∀ u ∈ news, u.oneCell' = true)
    (h63 : n + m ≤ maxLen) (hbytes : (n + m) * bytes ≤ 140737488355328) (hbase : base ≤ w.heap.size)
    (h : ∀ v' w', w'.ownsRow base e size v' (n + m) (xs ++ news) → w.grownBy w' v.ownBlock → (v'.ownBlock = v.ownBlock ∨ v'.ownBlock = some w.heap.size) → K (a.put o.dst v') w') :
    if Region.wanted o (yielded ops a.tmps) = true then Oper.wp Try.prog o a w K Q else E := by
  have hw : Region.wanted o (yielded ops a.tmps) = true := by simp [Region.wanted, hgd]
  rw [if_pos hw]
  obtain ⟨v', w', hrun, r1, r2, r3, r4⟩ := run_append_own_at (P := Try.prog) w base t o.type e i z size bytes ht hi hz hsize hby hzs hsz v n xs hown ad m c news hl hnews h1 h63 hbytes hbase
  unfold Oper.wp
  simp [execOp, ho, resolve, invoke, builtin, hs, hx, hrun, Result.andThen]
  exact h v' w' r1 r2 r4

theorem lit_ne {i j : Nat} (h : ¬ i = j) : (Lit.int .i64 (j : Int)) ≠ .int .i64 (i : Int) := fun e' => h (by injection e' with _ e'; omega)
/-- delete, within a region that draws its order. -/
theorem step_delete_mp {ops : Array Oper} {o : Oper} {a : Act} {w : World} {K : Act → World → Prop} {Q : Exit → Act → World → Prop} {E : Prop} (hgd : o.guard = none) (m x : Operand)
    (ho : o.op = Op.call { callee := Callee.builtin Builtin.delete, args := #[m, x], argTypes := #[75, 3] })
    (b n : Nat) (f : Nat → Option Nat) (hm : a.eval m = .map (some b)) (hp : Mp w b n f) (i : Nat) (hx : a.eval x = .int .i64 i) (hi : i < 1048576)
    (h : ∀ w', Mp w' b n (fun j => if i = j then none else f j) → w.mapTurned w' b → K (a.put o.dst (.tuple #[])) w') :
    if Region.wanted o (yielded ops a.tmps) = true then Oper.wp Try.prog o a w K Q else E := by
  have hw : Region.wanted o (yielded ops a.tmps) = true := by simp [Region.wanted, hgd]
  rw [if_pos hw]
  obtain ⟨D, h1, h2⟩ := hp
  obtain ⟨w', hrun, r1, r2⟩ := h1.drop kyd Try.underlying75 (key_i i hi) o.type
  unfold Oper.wp
  simp [execOp, ho, resolve, invoke, builtin, hm, hx, hrun, Result.andThen]
  refine h w' ⟨_, r1, fun j hj => ?_⟩ r2
  by_cases e : i = j
  · subst e
    dsimp only
    rw [if_pos rfl]
    exact ⟨by rw [Go.Maps.has_del_same]; rfl, fun h' hh => by cases hh⟩
  · dsimp only
    rw [if_neg e]
    have hne := lit_ne e
    obtain ⟨a1, a2⟩ := h2 j hj
    exact ⟨by rw [Go.Maps.has_del_other hne]; exact a1, fun h' hh z => by rw [Go.Maps.atKey_del_other hne]; exact a2 h' hh z⟩

/-- One page more lasts. -/
theorem Dm.more {w w3 : World} {F G : Nat → Prop} {d : Dd} {g : Nat} {z : List Int} {v' : Value} (h : Dm w F d) (hF : ∀ k, F k → k < g) (hg : Rw w g z) (hl : z.length = 4096) (bt : Bt z)
    (h3 : w.grownBy w3 d.vL.ownBlock) (own : w3.ownsRow 0 22 1 v' (d.bl.length + 1) ((d.bl.map fun x => pv x.1) ++ [pv g])) (loc : v'.ownBlock = d.vL.ownBlock ∨ v'.ownBlock = some w.heap.size)
    (hG : ∀ k, F k → G k) (hGg : G g) (hGs : v'.ownBlock = some w.heap.size → G w.heap.size) (low : ∀ k, G k → k < w3.heap.size) :
    Dm w3 G { d with vL := v', bl := d.bl ++ [(g, z)] } := by
  obtain ⟨n0, hn0, hmp⟩ := h.mp
  obtain ⟨es, clock, hmm⟩ := hmp.isMap
  have ty : ∀ k cs t fz, w.heap[k]? = some (.cells cs t fz) → t ≠ 22 → some k ≠ d.vL.ownBlock := by
    intro k cs t fz hk ht e
    rcases h.lr.2 with ⟨hv, _⟩ | ⟨g', cap, cur, hv, _, hg', _⟩
    · rw [hv] at e; cases e
    · rw [hv] at e
      have := Option.some.inj e
      simp at this
      subst this
      rw [hk] at hg'
      simp only [Option.some.injEq, Obj.cells.injEq] at hg'
      exact ht hg'.2.1
  have pgB : ∀ k y, Pb w F k y → w3.heap[k]? = w.heap[k]? := fun k y hp => h3.block k hp.lt (ty k _ _ _ hp.at_ (by decide))
  have hmk : w3.heap[d.m]? = w.heap[d.m]? := h3.block d.m (Array.getElem?_eq_some_iff.1 hmm).1 (fun e => by
    rcases h.lr.2 with ⟨hv, _⟩ | ⟨g', cap, cur, hv, _, hg', _⟩
    · rw [hv] at e; cases e
    · rw [hv] at e
      have := Option.some.inj e
      simp at this
      subst this
      rw [hg'] at hmm
      cases hmm)
  refine ⟨?_, fun k hk => ?_, owns_same h.pr fun k hk => ?_, fun k hk => hG k (h.fp k hk), ?_, fun p hp => ⟨((h.pp p hp).1.same (pgB _ _ (h.pp p hp).1)).wide (hG _ (h.pp p hp).1.mem), (h.pp p hp).2⟩, ?_, ⟨n0, hn0, hmp.same hmk⟩, h.pc, hG _ h.fm, low⟩
  · rw [List.length_append, List.map_append]
    exact own
  · rcases loc with e | e
    · exact hG k (h.fl k (e ▸ hk))
    · rw [e] at hk
      rw [← Option.some.inj hk]; exact hGs e
  · rcases h.pr.2 with ⟨hv, _⟩ | ⟨g', cap, cur, hv, _, hg', _⟩
    · rw [hv] at hk; cases hk
    rw [hv] at hk
    have := Option.some.inj hk
    simp at this
    subst this
    exact h3.block g' (Array.getElem?_eq_some_iff.1 hg').1 (ty g' _ _ _ hg' (by decide))
  · intro x hx
    rcases List.mem_append.1 hx with hx | hx
    · exact ((h.bp x hx).same (pgB _ _ (h.bp x hx))).wide (hG _ (h.bp x hx).mem)
    · simp at hx
      subst hx
      exact ⟨(h3.block g hg.lt (fun e => by have := hF g (h.fl g e.symm); omega)).trans hg, hl, bt, hGg⟩
  · rw [List.map_append, List.append_assoc]
    have := h.nd
    rw [List.nodup_append] at this ⊢
    obtain ⟨n1, n2, n3⟩ := this
    have hb' : ∀ x ∈ d.bl.map (·.1), x < g := by
      intro x hx
      obtain ⟨y, hy, rfl⟩ := List.mem_map.1 hx
      exact hF _ (h.bp y hy).mem
    have hp' : ∀ x ∈ d.pl.map (·.2.1), x < g := by
      intro x hx
      obtain ⟨y, hy, rfl⟩ := List.mem_map.1 hx
      exact hF _ (h.pp y hy).1.mem
    refine ⟨n1, ?_, ?_⟩
    · show (g :: d.pl.map (·.2.1)).Nodup
      rw [List.nodup_cons]
      exact ⟨fun hx => by have := hp' _ hx; simp at this, n2⟩
    · intro a ha b hb e
      subst e
      rcases List.mem_append.1 hb with hb | hb
      · simp at hb
        subst hb
        have := hb' _ ha
        simp at this
      · exact n3 a ha a hb rfl

/-- A page that lasts is written on. -/
theorem Dm.page {w w' : World} {F : Nat → Prop} {d : Dd} {j g : Nat} {y y' : List Int} (h : Dm w F d) (hj : d.bl[j]? = some (g, y)) (hg : w.grownBy w' (some g)) (hr : Rw w' g y') (hl : y'.length = 4096) (bt : Bt y') :
    Dm w' F { d with bl := d.bl.set j (g, y') } := by
  have hm : (g, y) ∈ d.bl := List.mem_of_getElem? hj
  have hpb := h.bp _ hm
  obtain ⟨hjl, hje⟩ := List.getElem?_eq_some_iff.1 hj
  obtain ⟨n0, hn0, hmp⟩ := h.mp
  obtain ⟨es, clock, hmm⟩ := hmp.isMap
  have hnd := h.nd
  have e1 : (d.bl.set j (g, y')).map (·.1) = d.bl.map (·.1) := by
    apply List.ext_getElem?
    intro k
    rw [List.getElem?_map, List.getElem?_map, List.getElem?_set]
    by_cases e : j = k
    · subst e
      rw [if_pos rfl, if_pos hjl, hj]; rfl
    · rw [if_neg e]
  have e2 : ((d.bl.set j (g, y')).map fun x => pv x.1) = d.bl.map fun x => pv x.1 := by
    have := congrArg (List.map pv) e1
    rw [List.map_map, List.map_map] at this
    exact this
  have st : ∀ k, k < w.heap.size → k ≠ g → w'.heap[k]? = w.heap[k]? := fun k hk hn => hg.block k hk (fun e => hn (Option.some.inj e))
  refine ⟨?_, h.fl, owns_same h.pr fun k hk => st k ((h.pr.lt k hk).2) (fun e => ?_), h.fp, ?_, fun p hp => ⟨(h.pp p hp).1.same (st _ (h.pp p hp).1.lt (fun e => ?_)), (h.pp p hp).2⟩, ?_, ⟨n0, hn0, hmp.same (st _ (Array.getElem?_eq_some_iff.1 hmm).1 (fun e => ?_))⟩, h.pc, h.fm, fun k hk => Nat.lt_of_lt_of_le (h.low k hk) hg.size⟩
  · rw [List.length_set, e2]
    refine owns_same h.lr fun k hk => st k ((h.lr.lt k hk).2) (fun e => ?_)
    subst e
    rcases h.lr.2 with ⟨hv, _⟩ | ⟨g', cap, cur, hv, _, hg', _⟩
    · rw [hv] at hk; cases hk
    · rw [hv] at hk
      have := Option.some.inj hk
      simp at this
      subst this
      rw [hpb.at_] at hg'
      simp only [Option.some.injEq, Obj.cells.injEq] at hg'
      exact absurd hg'.2.1 (by decide)
  · subst e
    rcases h.pr.2 with ⟨hv, _⟩ | ⟨g', cap, cur, hv, _, hg', _⟩
    · rw [hv] at hk; cases hk
    · rw [hv] at hk
      have := Option.some.inj hk
      simp at this
      subst this
      rw [hpb.at_] at hg'
      simp only [Option.some.injEq, Obj.cells.injEq] at hg'
      exact absurd hg'.2.1 (by decide)
  · intro x hx
    obtain ⟨k, hk⟩ := List.mem_iff_getElem?.1 hx
    rw [List.getElem?_set] at hk
    by_cases e : j = k
    · subst e
      rw [if_pos rfl, if_pos hjl] at hk
      obtain rfl := Option.some.inj hk
      exact ⟨hr, hl, bt, hpb.mem⟩
    · rw [if_neg e] at hk
      have hxm : x ∈ d.bl := List.mem_of_getElem? hk
      refine (h.bp x hxm).same (st _ (h.bp x hxm).lt (fun ex => e ?_))
      have nb := (List.nodup_append.1 hnd).1
      have a1 : (d.bl.map (·.1))[j]? = some g := by rw [List.getElem?_map, hj]; rfl
      have a2 : (d.bl.map (·.1))[k]? = some g := by rw [List.getElem?_map, hk, ← ex]; rfl
      exact (List.getElem?_inj (by rw [List.length_map]; exact hjl) nb).1 (a1.trans a2.symm)
  · have := (List.nodup_append.1 hnd).2.2 g (List.mem_map.2 ⟨_, hm, rfl⟩) p.2.1 (List.mem_map.2 ⟨p, hp, rfl⟩)
    exact this e.symm
  · rw [e1]; exact hnd
  · subst e
    rw [hpb.at_] at hmm
    cases hmm

theorem splice0 (cs zs : List Int) : splice cs 0 zs = zs ++ cs.drop zs.length := by simp [splice]

theorem owns_slice {w : World} {base : Nat} {e : TypeId} {size n : Nat} {v : Value} {xs : List Value} (h : w.ownsRow base e size v n xs) : ∃ ao cap, v = .slice ao n cap := by
  rcases h.2 with ⟨rfl, rfl⟩ | ⟨g, cap, cur, rfl, _⟩
  · exact ⟨none, 0, rfl⟩
  · exact ⟨_, cap, rfl⟩

/-- The state of 'land' while pages of zeros are laid. -/
structure Ld (w wr : World) (B : Nat) (F : Nat → Prop) (s : Int) (d : Dd) (U i h c : Nat) (v : Value) (bl : List (Nat × List Int)) : Prop where
  bx : Bx wr B s { d with vL := v, bl := bl }
  dm : Dm wr (fun k => F k ∨ w.heap.size ≤ k ∧ k < wr.heap.size) { d with vL := v, bl := bl }
  kp : Kp w wr F
  u : wr.heap[U]? = some (.cells #[.int .i64 i, pv h] 90 (0, 0))
  L : bl.map (·.2) = d.bl.map (·.2) ++ List.replicate c zp

theorem Ld.next {w wr W1 w3 W : World} {B : Nat} {F : Nat → Prop} {s : Int} {d : Dd} {U i h c : Nat} {v v3 : Value} {bl : List (Nat × List Int)} (q : Ld w wr B F s d U i h c v bl) (fb : F B) {ZZ : Array Value} (hZZ : ZZ = (zp.map (Value.int .u8)).toArray)
    (hW : Qt ((wr.alloc (.cells ZZ 5)).alloc (.cells #[pv wr.heap.size] 22)) W1) (hg3 : W1.grownBy w3 v.ownBlock) (own3 : w3.ownsRow 0 22 1 v3 (bl.length + 1) ((bl.map fun x => pv x.1) ++ [pv wr.heap.size])) (loc3 : v3.ownBlock = v.ownBlock ∨ v3.ownBlock = some W1.heap.size)
    (hq : Qt (w3.setCell ⟨B, 3, none⟩ v3) W) : Ld w W B F s d U i h (c + 1) v3 (bl ++ [(wr.heap.size, zp)]) := by
  subst hZZ
  have g1 : wr.grownBy W1 none := grown_trans (grown_trans (World.grownBy_alloc _ _ _) (World.grownBy_alloc _ _ _)) (hW.grown none)
  have b1 := q.bx.kept g1 (by simp)
  have m1 := q.dm.keptN g1
  have hnB := m1.other b1 (by decide) (by decide) (by decide)
  have b3 : Bx w3 B s { d with vL := v, bl := bl } := b1.kept hg3 (fun e => hnB (.inl e.symm))
  have s1 := g1.size
  have s0 := q.kp.size
  have s3 := hg3.size
  have sA : W1.heap.size = wr.heap.size + 2 := by rw [hW.heap]; simp
  have rz : Rw W1 wr.heap.size zp := by
    unfold Rw
    rw [hW.heap, Below.heap_alloc _ _ _ (by simp)]
    exact heap_alloc_new wr _
  have m3 : Dm w3 (fun k => F k ∨ w.heap.size ≤ k ∧ k < w3.heap.size) { d with vL := v3, bl := bl ++ [(wr.heap.size, zp)] } :=
    m1.more (fun k hk => q.dm.low k hk) rz zp_len zp_bt hg3 own3 loc3 (fun k hk => hk.imp id (fun x => ⟨x.1, by omega⟩)) (.inr ⟨s0, by omega⟩) (fun e => .inr ⟨by omega, (own3.lt _ e).2⟩) (fun k hk => hk.elim (fun x => by have := q.dm.low k (.inl x); omega) (fun x => x.2))
  have g4 : w3.grownBy W (some B) := grown_trans (grown_cell w3 B 3 v3) (hq.grown (some B))
  have sW : W.heap.size = w3.heap.size := by rw [hq.heap]; simp
  have bW : Bx W B s { d with vL := v3, bl := bl ++ [(wr.heap.size, zp)] } := (b3.set 3 v3 s { d with vL := v3, bl := bl ++ [(wr.heap.size, zp)] } rfl).same (by rw [hq.heap])
  refine ⟨bW, ?_, ?_, ?_, ?_⟩
  · have := m3.box (d' := { d with vL := v, bl := bl }) b3 g4
    rw [sW]
    exact this
  · refine (q.kp.trans (Kp.of (F := F) g1 (fun k e => by cases e)) (fun k hk => .inl hk)).trans ((Kp.of (F := fun k => F k ∨ w.heap.size ≤ k) hg3 (fun k e => ?_)).trans (Kp.of (F := F) g4 (fun k e => by rw [← Option.some.inj e]; exact fb)) (fun k hk => .inl (.inl hk))) (fun k hk => hk)
    rcases q.dm.fl k e with x | x
    · exact .inl x
    · exact .inr x.1
  · have hu : W1.heap[U]? = some (.cells #[.int .i64 i, pv h] 90 (0, 0)) := (g1.block U (Array.getElem?_eq_some_iff.1 q.u).1 (by simp)).trans q.u
    have hUB : U ≠ B := b1.ne hu (by decide)
    rw [g4.block U (by have := (Array.getElem?_eq_some_iff.1 hu).1; omega) (fun e => hUB (Option.some.inj e)), hg3.block U (Array.getElem?_eq_some_iff.1 hu).1 (fun e => ?_)]
    · exact hu
    · rcases m1.lr.2 with ⟨hv, _⟩ | ⟨g', cap, cur, hv, _, hg', _⟩
      · change v = _ at hv
        rw [hv] at e; cases e
      · change v = _ at hv
        rw [hv] at e
        have := Option.some.inj e
        simp at this
        subst this
        rw [hu] at hg'
        simp only [Option.some.injEq, Obj.cells.injEq] at hg'
        exact absurd hg'.2.1 (by decide)
  · rw [List.map_append, q.L, List.append_assoc, List.replicate_succ']
    rfl

/-- 'land', done. -/
theorem Ld.fin {w wr W5 W : World} {B : Nat} {F : Nat → Prop} {s : Int} {d : Dd} {U i h c n g : Nat} {v : Value} {bl : List (Nat × List Int)} {z y : List Int} (q : Ld w wr B F s d U i h c v bl) (hW : Qt wr W5) (hy : bl[i]? = some (g, y)) (hc : c = i + 1 - d.bl.length)
    (hgw : W5.grownBy W (some g)) (hr : Rt W g 5 (splice y 0 (z.take n))) (hz : z.length = 4096) (bz : Bt z) (hn : n ≤ 4096) :
    ∃ v bl, Bx W B s { d with vL := v, bl := bl } ∧ Dm W (fun k => F k ∨ w.heap.size ≤ k ∧ k < W.heap.size) { d with vL := v, bl := bl } ∧ Kp w W F ∧ bl.map (·.2) = landL (d.bl.map (·.2)) i z n := by
  have g1 := hW.grown none
  have b1 := q.bx.kept g1 (by simp)
  have m1 := q.dm.keptN g1
  have hp := m1.bp (g, y) (List.mem_of_getElem? hy)
  have hyl : y.length = 4096 := hp.len
  have hsp : splice y 0 (z.take n) = z.take n ++ y.drop n := by rw [splice0, List.length_take, Nat.min_eq_left (by omega)]
  rw [hsp] at hr
  have m2 := m1.page hy hgw hr (by rw [List.length_append, List.length_take, List.length_drop]; omega) ((bz.take n).app (hp.bt.drop n))
  have s1 := g1.size
  have s2 := hgw.size
  have hgB : g ≠ B := b1.ne hp.at_ (by decide)
  have bW := b1.kept hgw (fun e => hgB (Option.some.inj e).symm)
  refine ⟨v, bl.set i (g, z.take n ++ y.drop n), bW, m2.wide (fun k hk => hk.imp id (fun x => ⟨x.1, by omega⟩)) (fun k hk => hk.elim (fun x => by have := q.dm.low k (.inl x); omega) (fun x => x.2)), ?_, ?_⟩
  · refine (q.kp.trans (Kp.of (F := F) g1 (fun k e => by cases e)) (fun k hk => .inl hk)).trans (Kp.of (F := fun k => F k ∨ w.heap.size ≤ k) hgw (fun k e => ?_)) (fun k hk => hk)
    rw [← Option.some.inj e]
    rcases hp.mem with x | x
    · exact .inl x
    · exact .inr x.1
  · unfold landL
    rw [List.map_set, q.L, hc, List.length_map]
    have ey : (d.bl.map (·.2) ++ List.replicate (i + 1 - d.bl.length) zp).getD i [] = y := by
      rw [← hc, ← q.L, List.getD, List.getElem?_map, hy]; rfl
    rw [ey]

set_option maxHeartbeats 4000000 in
set_option maxRecDepth 4000 in
theorem land_b {w : World} {B : Nat} {F : Nat → Prop} {s : Int} {d : Dd} (hb : Bx w B s d) (hm : Dm w F d) (fb : F B) (i h n : Nat) (z : List Int) (hn : n ≤ 4096) (hp : (i, h, z) ∈ d.pl) (_hd : d.bl.length < 524288) :
    Calls Try.prog 49 #[.pointer (some ⟨B, 0, none⟩), .agg #[.int .i64 i, pv h], .int .i64 n] w fun e w' => e = .returned (.tuple #[]) ∧ ∃ v bl, Bx w' B s { d with vL := v, bl := bl } ∧ Dm w' (fun k => F k ∨ w.heap.size ≤ k ∧ k < w'.heap.size) { d with vL := v, bl := bl } ∧ Kp w w' F ∧ bl.map (·.2) = landL (d.bl.map (·.2)) i z n := by
  obtain ⟨i0, hinf, hz0, hz1, hz2⟩ := info_parts info_bytes
  have hi : i < 524288 := (hm.pp _ hp).2
  have hzl : z.length = 4096 := (hm.pp _ hp).1.len
  have hbz := hid_intro (hm.pp _ hp).1.bt
  have HP := hid_intro hp
  have HM := hid_intro hm
  have HB := hid_intro hb
  clear hm hb hp
  rw [pv_eq]
  go_enter Try.func49, Try.ntmps49
  go_wp2_with fail
  go_loopg [13] (i + 1 - d.bl.length) (fun k _ wr => ∃ v bl c, k = i + 1 - bl.length ∧ bl.length = d.bl.length + c ∧ (d.bl.length ≤ i → bl.length ≤ i + 1) ∧ (i < d.bl.length → c = 0) ∧ Ld w wr B F s d w.heap.size i h c v bl)
  case atStart =>
    have hg := World.grownBy_alloc w (.cells #[.int .i64 i, pv h] 90) none
    exact ⟨d.vL, d.bl, 0, rfl, rfl, fun e => by omega, fun _ => rfl, HB.out.kept hg (by simp), (HM.out.keptN hg).wide (fun k hk => .inl hk) (fun k hk => hk.elim (fun x => by have := HM.out.low k x; simp; omega) (fun x => x.2)), Kp.of hg (fun k e => by cases e), heap_alloc_new w _, by simp⟩
  case round =>
    obtain ⟨v, bl, c, hk, hlc, hle, hc0, hL⟩ := hrel
    obtain ⟨ao, cap, ev⟩ : ∃ ao cap, v = .slice ao bl.length cap := owns_slice hL.dm.lr
    subst ev
    have c3 := hL.bx.c3
    have f3 := hL.bx.fz 3
    have u0 : wr.cell? ⟨w.heap.size, 0, none⟩ = some (.int .i64 i) := cell_of_row wr _ 0 _ _ _ hL.u
    have u1 : wr.cell? ⟨w.heap.size, 1, none⟩ = some (.slice (some ⟨h, 0, none⟩) 4096 4096) := cell_of_row wr _ 1 _ _ _ hL.u
    have HL := hid_intro hL
    have HC := hid_intro (And.intro hk (And.intro hlc (And.intro hle hc0)))
    clear hL
    by_cases hlt : bl.length ≤ i
    · have hlt' : (bl.length : Int) ≤ i := by omega
      have hblm : bl.length < 524289 := by omega
      clear hk hlc hle hc0
      obtain ⟨ZZ, hmk, hZZ⟩ := make_zp
      have HZZ := hid_intro hZZ
      clear hZZ
      have c3a : (wr.alloc (.cells ZZ 5)).cell? ⟨B, 3, none⟩ = some (.slice ao bl.length cap) := (HL.out.bx.kept (World.grownBy_alloc wr (.cells ZZ 5) none) (by simp)).c3
      have c3b : ((wr.alloc (.cells ZZ 5)).alloc (.cells #[.slice (some ⟨wr.heap.size, 0, none⟩) 4096 4096] 22)).cell? ⟨B, 3, none⟩ = some (.slice ao bl.length cap) := (HL.out.bx.kept (grown_trans (World.grownBy_alloc wr (.cells ZZ 5) none) (World.grownBy_alloc _ (.cells #[.slice (some ⟨wr.heap.size, 0, none⟩) 4096 4096] 22) none)) (by simp)).c3
      have HO : Hid (∀ W : World, W.heap = ((wr.alloc (.cells ZZ 5)).alloc (.cells #[pv wr.heap.size] 22)).heap → W.ownsRow 0 22 1 (.slice ao bl.length cap) bl.length (bl.map fun x => pv x.1)) := fun W e => by
        refine owns_same HL.out.dm.lr fun g hg => ?_
        rw [e]
        exact (grown_trans (World.grownBy_alloc wr (.cells ZZ 5) none) (World.grownBy_alloc _ (.cells #[pv wr.heap.size] 22) none)).block g (HL.out.dm.lr.lt g hg).2 (by simp)
      have HN : Hid (∀ W : World, W.heap = ((wr.alloc (.cells ZZ 5)).alloc (.cells #[pv wr.heap.size] 22)).heap → ∀ j u, [pv wr.heap.size][j]? = some u → W.cell? ((⟨wr.heap.size + 1, 0, none⟩ : Addr).add j) = some u) := fun W e j u hu => by
        have hA := heap_alloc_new (wr.alloc (.cells ZZ 5)) (.cells #[pv wr.heap.size] 22)
        rw [show (wr.alloc (.cells ZZ 5)).heap.size = wr.heap.size + 1 by simp] at hA
        rw [Addr.add_lit, Nat.zero_add, cell_of_row W (wr.heap.size + 1) j _ _ _ (by rw [e]; exact hA)]
        simpa using hu
      have HBB : Hid (∀ W w3 : World, W.grownBy w3 (Value.slice ao bl.length cap).ownBlock → W.heap = ((wr.alloc (.cells ZZ 5)).alloc (.cells #[pv wr.heap.size] 22)).heap → Bx w3 B s { d with vL := .slice ao bl.length cap, bl := bl }) := fun W w3 hg e => by
        have gA : wr.grownBy ((wr.alloc (.cells ZZ 5)).alloc (.cells #[pv wr.heap.size] 22)) none := grown_trans (World.grownBy_alloc wr _ none) (World.grownBy_alloc _ _ none)
        have bA : Bx W B s { d with vL := .slice ao bl.length cap, bl := bl } := (HL.out.bx.kept gA (by simp)).same (by rw [e])
        have mA := (HL.out.dm.keptN gA).other (HL.out.bx.kept gA (by simp)) (by decide) (by decide) (by decide)
        exact bA.kept hg (fun e' => mA (.inl e'.symm))
      go_wp2_with fail
      go_region
      go_wp2_with fail
      go_region_law (refine step_append_at rfl (.tmp 18) (.tmp 20) 59 (by rfl) 0 22 i0 (.slice none 0 0) 1 24 Try.underlying59 hinf hz0 hz1 hz2 rfl (by decide) (.slice ao bl.length cap) bl.length _ (by rfl) (by exact HO.out _ rfl) ⟨wr.heap.size + 1, 0, none⟩ 1 1 [pv wr.heap.size] (by rfl) (by rfl) (by exact HN.out _ rfl) (by intro u hu; simp at hu; subst hu; rfl) (by unfold maxLen; omega) (by omega) (Nat.zero_le _) ?_; intro v3 w3 ho3 hg3 loc3; obtain ⟨g3, cap3, cur3, e3, -⟩ := ho3.2.resolve_left (fun e => by have := e.2; omega); subst e3; have b3 := HBB.out _ w3 hg3 rfl; have c33 := b3.c3; have f33 := b3.fz 3; have H3 := hid_intro ho3; have G3 := hid_intro hg3; have L3 := hid_intro loc3; clear ho3 hg3 loc3 b3)
      all_goals
        go_wp2
        go_roundg (i + 1 - (bl.length + 1))
        case measure => have := HC.out.1; omega
        case rel =>
          obtain ⟨hk, hlc, hle, hc0⟩ := HC.out
          exact ⟨_, bl ++ [(wr.heap.size, zp)], c + 1, by rw [List.length_append]; rfl, by rw [List.length_append, hlc]; rfl, fun e => by rw [List.length_append]; have := hle e; simp; omega, fun e => by omega, HL.out.next fb HZZ.out (by exact ⟨rfl, rfl, rfl, rfl⟩) G3.out H3.out L3.out (Qt.refl _)⟩
    · have hlt' : (i : Int) < (bl.length : Int) := by omega
      have hc : c = i + 1 - d.bl.length := by omega
      have hx : bl[i]? = some bl[i] := List.getElem?_eq_getElem (by omega)
      revert hx
      generalize bl[i] = x
      intro hx
      obtain ⟨g, y⟩ := x
      obtain ⟨g0, cap0, cur0, hv, _, hg0, hcap, _⟩ := HL.out.dm.lr.2.resolve_left (fun e => by have := e.2; change bl.length = 0 at this; omega)
      simp only [Value.slice.injEq] at hv
      obtain ⟨rfl, _, rfl⟩ := hv
      have ci : wr.cell? ⟨g0, i, none⟩ = some (.slice (some ⟨g, 0, none⟩) 4096 4096) := by
        have := HL.out.dm.lr.cellAt i (by simp; omega)
        rw [this, List.getElem?_map, hx]
        rfl
      have hn' : (n : Int) ≤ 4096 := by omega
      have RT : Hid (∀ W : World, W.heap = wr.heap → Rt W g 5 y) := fun W e => by
        have := (HL.out.dm.bp (g, y) (List.mem_of_getElem? hx)).at_
        unfold Rt; rw [e]; exact this
      have BY : Hid (∀ W : World, W.heap = wr.heap → Byt W (some ⟨h, 0, none⟩) n 4096 (z.take n)) := fun W e =>
        ((HL.out.dm.pp _ HP.out).1.byt.take n 4096 hn (fun e => by cases e)).heap e
      have hyl : y.length = 4096 := (HL.out.dm.bp (g, y) (List.mem_of_getElem? hx)).len
      have HX := hid_intro hx
      clear hk hlc hle hc0 hx
      go_wp2_with fail
      go_region
      go_wp2_with fail
      go_region_law (refine step_copy_rt rfl (.tmp 31) (.tmp 35) (by rfl) _ _ _ _ _ _ (by rfl) (by rfl) g 0 5 y (z.take n) (by exact RT.out _ rfl) (by exact BY.out _ rfl) hn (fun _ => rfl) (by omega) ?_; intro w5 hr5 hg5 hs5; have R5 := hid_intro hr5; have G5 := hid_intro hg5; clear hr5 hg5 hs5)
      all_goals
        go_wp2
        go_end0
        exact ⟨rfl, HL.out.fin (by exact ⟨rfl, rfl, rfl, rfl⟩) HX.out hc G5.out R5.out hzl hbz.out hn⟩
end Go.Proofs.Ytiljdhhfhjhhiaa
