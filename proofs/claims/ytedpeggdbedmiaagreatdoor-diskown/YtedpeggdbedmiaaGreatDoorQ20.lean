import Derived.Test.YtedpeggdbedmiaaGreatDoorQ19
import Derived.Deep.RegionHeld3
import Derived.Deep.LoopGhost
import Derived.Deep.RegionWith
namespace Go.Proofs.YtedpeggdbedmiaaGreatDoor
open Go.RowKit Go.MuLone
def zp : List Int := List.replicate 4096 0
theorem zp_len : zp.length = 4096 := List.length_replicate
theorem zp_bt : Bt zp := by intro z hz; rw [List.eq_of_mem_replicate hz]; omega
def landL (L : List (List Int)) (i : Nat) (z : List Int) (n : Nat) : List (List Int) := (L ++ List.replicate (i + 1 - L.length) zp).set i (z.take n ++ ((L ++ List.replicate (i + 1 - L.length) zp).getD i []).drop n)
theorem info_bytes : (Tryz.prog.info? 47).map (fun i => (i.zero, i.size, i.bytes)) = some (some (.slice none 0 0), 1, 24) := by kernel_rfl
theorem make_n (n : Nat) (hn : n ≤ 65536) : ∃ ZZ : Array Value, (∀ W : World, (Instr.makeSlice 47 (.int .i64 (n : Int)) (.int .i64 (n : Int))).run Tryz.prog W = .ok (.slice (some ⟨W.heap.size, 0, none⟩) n n) (W.alloc (.cells ZZ 5))) ∧ ZZ = ((List.replicate n (0 : Int)).map (Value.int .u8)).toArray := by
 obtain ⟨i0, hi, hz0, hz1, hz2⟩ := info_parts info_u8
 refine ⟨madeCells #[Value.int .u8 0] n, fun W => ?_, by rw [← made]⟩
 have := run_makeSlice (P := Tryz.prog) (w := W) 47 5 i0 (.int .u8 0) Tryz.underlying47 hi hz0 .i64 .i64 (n : Int) (n : Int) (by omega) (by omega) (by rw [hz1]; simp; omega) (by rw [hz2]; omega) (by omega)
 rw [hz1, show (Value.int .u8 0).cells = #[Value.int .u8 0] from rfl, Int.toNat_natCast, Nat.mul_one] at this
 exact this
theorem make_zp : ∃ ZZ : Array Value, (∀ W : World, (Instr.makeSlice 47 (.int .i64 4096) (.int .i64 4096)).run Tryz.prog W = .ok (.slice (some ⟨W.heap.size, 0, none⟩) 4096 4096) (W.alloc (.cells ZZ 5))) ∧ ZZ = (zp.map (Value.int .u8)).toArray := make_n 4096 (by omega)
theorem step_append_at {ops : Array Oper} {o : Oper} {a : Act} {w : World} {K : Act → World → Prop} {Q : Exit → Act → World → Prop} {E : Prop} (hgd : o.guard = none) (s x : Operand) (t : TypeId)
  (ho : o.op = .call { callee := .builtin .append, args := #[s, x], argTypes := #[t, t] })
  (base : Nat) (e : TypeId) (i : TypeInfo) (z : Value) (size bytes : Nat) (ht : Tryz.prog.underlying t = some (.slice e)) (hi : Tryz.prog.info? e = some i) (hz : i.zero = some z) (hsize : i.size = size) (hby : i.bytes = bytes) (hzs : z.cells.size = size) (hsz : 0 < size)
  (v : Value) (n : Nat) (xs : List Value) (hs : a.eval s = v) (hown : w.ownsRow base e size v n xs)
  (ad : Addr) (m c : Nat) (news : List Value) (hx : a.eval x = .slice (some ad) m c) (hl : news.length = m * size) (hnews : ∀ j u, news[j]? = some u → w.cell? (ad.add j) = some u) (h1 : ∀ u ∈ news, u.oneCell' = true)
  (h63 : n + m ≤ maxLen) (hbytes : (n + m) * bytes ≤ 140737488355328) (hbase : base ≤ w.heap.size)
  (h : ∀ v' w', w'.ownsRow base e size v' (n + m) (xs ++ news) → w.grownBy w' v.ownBlock → (v'.ownBlock = v.ownBlock ∨ v'.ownBlock = some w.heap.size) → K (a.put o.dst v') w') :
  if Region.wanted o (yielded ops a.tmps) = true then Oper.wp Tryz.prog o a w K Q else E := by
 have hw : Region.wanted o (yielded ops a.tmps) = true := by simp [Region.wanted, hgd]
 rw [if_pos hw]
 obtain ⟨v', w', hrun, r1, r2, r3, r4⟩ := run_append_own_at (P := Tryz.prog) w base t o.type e i z size bytes ht hi hz hsize hby hzs hsz v n xs hown ad m c news hl hnews h1 h63 hbytes hbase
 unfold Oper.wp
 simp [execOp, ho, resolve, invoke, builtin, hs, hx, hrun, Result.andThen]
 exact h v' w' r1 r2 r4
theorem lit_ne {i j : Nat} (h : ¬ i = j) : (Lit.int .i64 (j : Int)) ≠ .int .i64 (i : Int) := fun e' => h (by injection e' with _ e'; omega)
theorem step_delete_mp {ops : Array Oper} {o : Oper} {a : Act} {w : World} {K : Act → World → Prop} {Q : Exit → Act → World → Prop} {E : Prop} (hgd : o.guard = none) (m x : Operand)
  (ho : o.op = Op.call { callee := Callee.builtin Builtin.delete, args := #[m, x], argTypes := #[67, 3] })
  (b n : Nat) (f : Nat → Option Nat) (hm : a.eval m = .map (some b)) (hp : Mp w b n f) (i : Nat) (hx : a.eval x = .int .i64 i) (hi : i < 1048576)
  (h : ∀ w', Mp w' b n (fun j => if i = j then none else f j) → w.mapTurned w' b → K (a.put o.dst (.tuple #[])) w') :
  if Region.wanted o (yielded ops a.tmps) = true then Oper.wp Tryz.prog o a w K Q else E := by
 have hw : Region.wanted o (yielded ops a.tmps) = true := by simp [Region.wanted, hgd]
 rw [if_pos hw]
 obtain ⟨D, h1, h2⟩ := hp
 obtain ⟨w', hrun, r1, r2⟩ := h1.drop kyd Tryz.underlying67 (key_i i hi) o.type
 unfold Oper.wp
 simp [execOp, ho, resolve, invoke, builtin, hm, hx, hrun, Result.andThen]
 refine h w' ⟨_, r1, fun j hj => ?_⟩ r2
 by_cases e : i = j
 ·subst e
  dsimp only
  rw [if_pos rfl]
  exact ⟨by rw [Go.Maps.has_del_same]; rfl, fun h' hh => by cases hh⟩
 ·dsimp only
  rw [if_neg e]
  have hne := lit_ne e
  obtain ⟨a1, a2⟩ := h2 j hj
  exact ⟨by rw [Go.Maps.has_del_other hne]; exact a1, fun h' hh z => by rw [Go.Maps.atKey_del_other hne]; exact a2 h' hh z⟩
theorem Dm.more {w w3 : World} {F G : Nat → Prop} {d : Dd} {g : Nat} {z : List Int} {v' : Value} (h : Dm w F d) (hF : ∀ k, F k → k < g) (hg : Rw w g z) (hl : z.length = 4096) (bt : Bt z)
  (h3 : w.grownBy w3 d.vL.ownBlock) (own : w3.ownsRow 0 47 1 v' (d.bl.length + 1) ((d.bl.map fun x => pv x.1) ++ [pv g])) (loc : v'.ownBlock = d.vL.ownBlock ∨ v'.ownBlock = some w.heap.size)
  (hG : ∀ k, F k → G k) (hGg : G g) (hGs : v'.ownBlock = some w.heap.size → G w.heap.size) (low : ∀ k, G k → k < w3.heap.size) :
  Dm w3 G { d with vL := v', bl := d.bl ++ [(g, z)] } := by
 obtain ⟨n0, hn0, hmp⟩ := h.mp
 obtain ⟨es, clock, hmm⟩ := hmp.isMap
 have ty : ∀ k cs t fz, w.heap[k]? = some (.cells cs t fz) → t ≠ 47 → some k ≠ d.vL.ownBlock := by
  intro k cs t fz hk ht e
  rcases h.lr.2 with ⟨hv, _⟩ | ⟨g', cap, cur, hv, _, hg', _⟩
  ·rw [hv] at e; cases e
  ·rw [hv] at e
   have := Option.some.inj e
   simp at this
   subst this
   rw [hk] at hg'
   simp only [Option.some.injEq, Obj.cells.injEq] at hg'
   exact ht hg'.2.1
 have pgB : ∀ k y, Pb w F k y → w3.heap[k]? = w.heap[k]? := fun k y hp => h3.block k hp.lt (ty k _ _ _ hp.at_ (by decide))
 have hmk : w3.heap[d.m]? = w.heap[d.m]? := h3.block d.m (Array.getElem?_eq_some_iff.1 hmm).1 (fun e => by
  rcases h.lr.2 with ⟨hv, _⟩ | ⟨g', cap, cur, hv, _, hg', _⟩
  ·rw [hv] at e; cases e
  ·rw [hv] at e
   have := Option.some.inj e
   simp at this
   subst this
   rw [hg'] at hmm
   cases hmm)
 refine ⟨?_, fun k hk => ?_, owns_same h.pr fun k hk => ?_, fun k hk => hG k (h.fp k hk), ?_, fun p hp => ⟨((h.pp p hp).1.same (pgB _ _ (h.pp p hp).1)).wide (hG _ (h.pp p hp).1.mem), (h.pp p hp).2⟩, ?_, ⟨n0, hn0, hmp.same hmk⟩, h.pc, hG _ h.fm, low⟩
 ·rw [List.length_append, List.map_append]
  exact own
 ·rcases loc with e | e
  ·exact hG k (h.fl k (e ▸ hk))
  ·rw [e] at hk
   rw [← Option.some.inj hk]; exact hGs e
 ·rcases h.pr.2 with ⟨hv, _⟩ | ⟨g', cap, cur, hv, _, hg', _⟩
  ·rw [hv] at hk; cases hk
  rw [hv] at hk
  have := Option.some.inj hk
  simp at this
  subst this
  exact h3.block g' (Array.getElem?_eq_some_iff.1 hg').1 (ty g' _ _ _ hg' (by decide))
 ·intro x hx
  rcases List.mem_append.1 hx with hx | hx
  ·exact ((h.bp x hx).same (pgB _ _ (h.bp x hx))).wide (hG _ (h.bp x hx).mem)
  ·simp at hx
   subst hx
   exact ⟨(h3.block g hg.lt (fun e => by have := hF g (h.fl g e.symm); omega)).trans hg, hl, bt, hGg⟩
 ·rw [List.map_append, List.append_assoc]
  have := h.nd
  rw [List.nodup_append] at this ⊢
  obtain ⟨n1, n2, n3⟩ := this
  have hb' : ∀ x ∈ d.bl.map (·.1), x < g := by
   intro x hx
   obtain ⟨y, hy, rfl⟩ := List.mem_map.1 hx
   exact hF _ (h.bp y hy).mem
  have hp' : ∀ x ∈ d.pl.map (·.2.1), x < g := by
   intro x hx
   obtain ⟨y, hy, rfl⟩ := List.mem_map.1 hx
   exact hF _ (h.pp y hy).1.mem
  refine ⟨n1, ?_, ?_⟩
  ·show (g :: d.pl.map (·.2.1)).Nodup
   rw [List.nodup_cons]
   exact ⟨fun hx => by have := hp' _ hx; simp at this, n2⟩
  ·intro a ha b hb e
   subst e
   rcases List.mem_append.1 hb with hb | hb
   ·simp at hb
    subst hb
    have := hb' _ ha
    simp at this
   ·exact n3 a ha a hb rfl
theorem Dm.page {w w' : World} {F : Nat → Prop} {d : Dd} {j g : Nat} {y y' : List Int} (h : Dm w F d) (hj : d.bl[j]? = some (g, y)) (hg : w.grownBy w' (some g)) (hr : Rw w' g y') (hl : y'.length = 4096) (bt : Bt y') :
  Dm w' F { d with bl := d.bl.set j (g, y') } := by
 have hm : (g, y) ∈ d.bl := List.mem_of_getElem? hj
 have hpb := h.bp _ hm
 obtain ⟨hjl, hje⟩ := List.getElem?_eq_some_iff.1 hj
 obtain ⟨n0, hn0, hmp⟩ := h.mp
 obtain ⟨es, clock, hmm⟩ := hmp.isMap
 have hnd := h.nd
 have e1 : (d.bl.set j (g, y')).map (·.1) = d.bl.map (·.1) := by
  apply List.ext_getElem?
  intro k
  rw [List.getElem?_map, List.getElem?_map, List.getElem?_set]
  by_cases e : j = k
  ·subst e
   rw [if_pos rfl, if_pos hjl, hj]; rfl
  ·rw [if_neg e]
 have e2 : ((d.bl.set j (g, y')).map fun x => pv x.1) = d.bl.map fun x => pv x.1 := by
  have := congrArg (List.map pv) e1
  rw [List.map_map, List.map_map] at this
  exact this
 have st : ∀ k, k < w.heap.size → k ≠ g → w'.heap[k]? = w.heap[k]? := fun k hk hn => hg.block k hk (fun e => hn (Option.some.inj e))
 refine ⟨?_, h.fl, owns_same h.pr fun k hk => st k ((h.pr.lt k hk).2) (fun e => ?_), h.fp, ?_, fun p hp => ⟨(h.pp p hp).1.same (st _ (h.pp p hp).1.lt (fun e => ?_)), (h.pp p hp).2⟩, ?_, ⟨n0, hn0, hmp.same (st _ (Array.getElem?_eq_some_iff.1 hmm).1 (fun e => ?_))⟩, h.pc, h.fm, fun k hk => Nat.lt_of_lt_of_le (h.low k hk) hg.size⟩
 ·rw [List.length_set, e2]
  refine owns_same h.lr fun k hk => st k ((h.lr.lt k hk).2) (fun e => ?_)
  subst e
  rcases h.lr.2 with ⟨hv, _⟩ | ⟨g', cap, cur, hv, _, hg', _⟩
  ·rw [hv] at hk; cases hk
  ·rw [hv] at hk
   have := Option.some.inj hk
   simp at this
   subst this
   rw [hpb.at_] at hg'
   simp only [Option.some.injEq, Obj.cells.injEq] at hg'
   exact absurd hg'.2.1 (by decide)
 ·subst e
  rcases h.pr.2 with ⟨hv, _⟩ | ⟨g', cap, cur, hv, _, hg', _⟩
  ·rw [hv] at hk; cases hk
  ·rw [hv] at hk
   have := Option.some.inj hk
   simp at this
   subst this
   rw [hpb.at_] at hg'
   simp only [Option.some.injEq, Obj.cells.injEq] at hg'
   exact absurd hg'.2.1 (by decide)
 ·intro x hx
  obtain ⟨k, hk⟩ := List.mem_iff_getElem?.1 hx
  rw [List.getElem?_set] at hk
  by_cases e : j = k
  ·subst e
   rw [if_pos rfl, if_pos hjl] at hk
   obtain rfl := Option.some.inj hk
   exact ⟨hr, hl, bt, hpb.mem⟩
  ·rw [if_neg e] at hk
   have hxm : x ∈ d.bl := List.mem_of_getElem? hk
   refine (h.bp x hxm).same (st _ (h.bp x hxm).lt (fun ex => e ?_))
   have nb := (List.nodup_append.1 hnd).1
   have a1 : (d.bl.map (·.1))[j]? = some g := by rw [List.getElem?_map, hj]; rfl
   have a2 : (d.bl.map (·.1))[k]? = some g := by rw [List.getElem?_map, hk, ← ex]; rfl
   exact (List.getElem?_inj (by rw [List.length_map]; exact hjl) nb).1 (a1.trans a2.symm)
 ·have := (List.nodup_append.1 hnd).2.2 g (List.mem_map.2 ⟨_, hm, rfl⟩) p.2.1 (List.mem_map.2 ⟨p, hp, rfl⟩)
  exact this e.symm
 ·rw [e1]; exact hnd
 ·subst e
  rw [hpb.at_] at hmm
  cases hmm
theorem splice0 (cs zs : List Int) : splice cs 0 zs = zs ++ cs.drop zs.length := by simp [splice]
theorem owns_slice {w : World} {base : Nat} {e : TypeId} {size n : Nat} {v : Value} {xs : List Value} (h : w.ownsRow base e size v n xs) : ∃ ao cap, v = .slice ao n cap := by
 rcases h.2 with ⟨rfl, rfl⟩ | ⟨g, cap, cur, rfl, _⟩
 ·exact ⟨none, 0, rfl⟩
 ·exact ⟨_, cap, rfl⟩
structure Ld (w wr : World) (B : Nat) (F : Nat → Prop) (s : Int) (d : Dd) (U i h c : Nat) (v : Value) (bl : List (Nat × List Int)) : Prop where
 bx : Bx wr B s { d with vL := v, bl := bl }
 dm : Dm wr (fun k => F k ∨ w.heap.size ≤ k ∧ k < wr.heap.size) { d with vL := v, bl := bl }
 kp : Kp w wr F
 u : wr.heap[U]? = some (.cells #[.int .i64 i, pv h] 78 (0, 0))
 L : bl.map (·.2) = d.bl.map (·.2) ++ List.replicate c zp
theorem Ld.next {w wr W1 w3 W : World} {B : Nat} {F : Nat → Prop} {s : Int} {d : Dd} {U i h c : Nat} {v v3 : Value} {bl : List (Nat × List Int)} (q : Ld w wr B F s d U i h c v bl) (fb : F B) {ZZ : Array Value} (hZZ : ZZ = (zp.map (Value.int .u8)).toArray)
  (hW : Qt ((wr.alloc (.cells ZZ 5)).alloc (.cells #[pv wr.heap.size] 47)) W1) (hg3 : W1.grownBy w3 v.ownBlock) (own3 : w3.ownsRow 0 47 1 v3 (bl.length + 1) ((bl.map fun x => pv x.1) ++ [pv wr.heap.size])) (loc3 : v3.ownBlock = v.ownBlock ∨ v3.ownBlock = some W1.heap.size)
  (hq : Qt (w3.setCell ⟨B, 3, none⟩ v3) W) : Ld w W B F s d U i h (c + 1) v3 (bl ++ [(wr.heap.size, zp)]) := by
 subst hZZ
 have g1 : wr.grownBy W1 none := grown_trans (grown_trans (World.grownBy_alloc _ _ _) (World.grownBy_alloc _ _ _)) (hW.grown none)
 have b1 := q.bx.kept g1 (by simp)
 have m1 := q.dm.keptN g1
 have hnB := m1.other b1 (by decide) (by decide) (by decide)
 have b3 : Bx w3 B s { d with vL := v, bl := bl } := b1.kept hg3 (fun e => hnB (.inl e.symm))
 have s1 := g1.size
 have s0 := q.kp.size
 have s3 := hg3.size
 have sA : W1.heap.size = wr.heap.size + 2 := by rw [hW.heap]; simp
 have rz : Rw W1 wr.heap.size zp := by
  unfold Rw
  rw [hW.heap, Below.heap_alloc _ _ _ (by simp)]
  exact heap_alloc_new wr _
 have m3 : Dm w3 (fun k => F k ∨ w.heap.size ≤ k ∧ k < w3.heap.size) { d with vL := v3, bl := bl ++ [(wr.heap.size, zp)] } :=
  m1.more (fun k hk => q.dm.low k hk) rz zp_len zp_bt hg3 own3 loc3 (fun k hk => hk.imp id (fun x => ⟨x.1, by omega⟩)) (.inr ⟨s0, by omega⟩) (fun e => .inr ⟨by omega, (own3.lt _ e).2⟩) (fun k hk => hk.elim (fun x => by have := q.dm.low k (.inl x); omega) (fun x => x.2))
 have g4 : w3.grownBy W (some B) := grown_trans (grown_cell w3 B 3 v3) (hq.grown (some B))
 have sW : W.heap.size = w3.heap.size := by rw [hq.heap]; simp
 have bW : Bx W B s { d with vL := v3, bl := bl ++ [(wr.heap.size, zp)] } := (b3.set 3 v3 s { d with vL := v3, bl := bl ++ [(wr.heap.size, zp)] } rfl).same (by rw [hq.heap])
 refine ⟨bW, ?_, ?_, ?_, ?_⟩
 ·have := m3.box (d' := { d with vL := v, bl := bl }) b3 g4
  rw [sW]
  exact this
 ·refine (q.kp.trans (Kp.of (F := F) g1 (fun k e => by cases e)) (fun k hk => .inl hk)).trans ((Kp.of (F := fun k => F k ∨ w.heap.size ≤ k) hg3 (fun k e => ?_)).trans (Kp.of (F := F) g4 (fun k e => by rw [← Option.some.inj e]; exact fb)) (fun k hk => .inl (.inl hk))) (fun k hk => hk)
  rcases q.dm.fl k e with x | x
  ·exact .inl x
  ·exact .inr x.1
 ·have hu : W1.heap[U]? = some (.cells #[.int .i64 i, pv h] 78 (0, 0)) := (g1.block U (Array.getElem?_eq_some_iff.1 q.u).1 (by simp)).trans q.u
  have hUB : U ≠ B := b1.ne hu (by decide)
  rw [g4.block U (by have := (Array.getElem?_eq_some_iff.1 hu).1; omega) (fun e => hUB (Option.some.inj e)), hg3.block U (Array.getElem?_eq_some_iff.1 hu).1 (fun e => ?_)]
  ·exact hu
  ·rcases m1.lr.2 with ⟨hv, _⟩ | ⟨g', cap, cur, hv, _, hg', _⟩
   ·change v = _ at hv
    rw [hv] at e; cases e
   ·change v = _ at hv
    rw [hv] at e
    have := Option.some.inj e
    simp at this
    subst this
    rw [hu] at hg'
    simp only [Option.some.injEq, Obj.cells.injEq] at hg'
    exact absurd hg'.2.1 (by decide)
 ·rw [List.map_append, q.L, List.append_assoc, List.replicate_succ']
  rfl
theorem Ld.fin {w wr W5 W : World} {B : Nat} {F : Nat → Prop} {s : Int} {d : Dd} {U i h c n g : Nat} {v : Value} {bl : List (Nat × List Int)} {z y : List Int} (q : Ld w wr B F s d U i h c v bl) (hW : Qt wr W5) (hy : bl[i]? = some (g, y)) (hc : c = i + 1 - d.bl.length)
  (hgw : W5.grownBy W (some g)) (hr : Rt W g 5 (splice y 0 (z.take n))) (hz : z.length = 4096) (bz : Bt z) (hn : n ≤ 4096) :
  ∃ v bl, Bx W B s { d with vL := v, bl := bl } ∧ Dm W (fun k => F k ∨ w.heap.size ≤ k ∧ k < W.heap.size) { d with vL := v, bl := bl } ∧ Kp w W F ∧ bl.map (·.2) = landL (d.bl.map (·.2)) i z n := by
 have g1 := hW.grown none
 have b1 := q.bx.kept g1 (by simp)
 have m1 := q.dm.keptN g1
 have hp := m1.bp (g, y) (List.mem_of_getElem? hy)
 have hyl : y.length = 4096 := hp.len
 have hsp : splice y 0 (z.take n) = z.take n ++ y.drop n := by rw [splice0, List.length_take, Nat.min_eq_left (by omega)]
 rw [hsp] at hr
 have m2 := m1.page hy hgw hr (by rw [List.length_append, List.length_take, List.length_drop]; omega) ((bz.take n).app (hp.bt.drop n))
 have s1 := g1.size
 have s2 := hgw.size
 have hgB : g ≠ B := b1.ne hp.at_ (by decide)
 have bW := b1.kept hgw (fun e => hgB (Option.some.inj e).symm)
 refine ⟨v, bl.set i (g, z.take n ++ y.drop n), bW, m2.wide (fun k hk => hk.imp id (fun x => ⟨x.1, by omega⟩)) (fun k hk => hk.elim (fun x => by have := q.dm.low k (.inl x); omega) (fun x => x.2)), ?_, ?_⟩
 ·refine (q.kp.trans (Kp.of (F := F) g1 (fun k e => by cases e)) (fun k hk => .inl hk)).trans (Kp.of (F := fun k => F k ∨ w.heap.size ≤ k) hgw (fun k e => ?_)) (fun k hk => hk)
  rw [← Option.some.inj e]
  rcases hp.mem with x | x
  ·exact .inl x
  ·exact .inr x.1
 ·unfold landL
  rw [List.map_set, q.L, hc, List.length_map]
  have ey : (d.bl.map (·.2) ++ List.replicate (i + 1 - d.bl.length) zp).getD i [] = y := by
   rw [← hc, ← q.L, List.getD, List.getElem?_map, hy]; rfl
  rw [ey]
set_option maxHeartbeats 4000000 in
set_option maxRecDepth 4000 in
theorem land_b {w : World} {B : Nat} {F : Nat → Prop} {s : Int} {d : Dd} (hb : Bx w B s d) (hm : Dm w F d) (fb : F B) (i h n : Nat) (z : List Int) (hn : n ≤ 4096) (hp : (i, h, z) ∈ d.pl) (_hd : d.bl.length < 524288) :
  Calls Tryz.prog 26 #[.pointer (some ⟨B, 0, none⟩), .agg #[.int .i64 i, pv h], .int .i64 n] w fun e w' => e = .returned (.tuple #[]) ∧ ∃ v bl, Bx w' B s { d with vL := v, bl := bl } ∧ Dm w' (fun k => F k ∨ w.heap.size ≤ k ∧ k < w'.heap.size) { d with vL := v, bl := bl } ∧ Kp w w' F ∧ bl.map (·.2) = landL (d.bl.map (·.2)) i z n := by
 obtain ⟨i0, hinf, hz0, hz1, hz2⟩ := info_parts info_bytes
 have hi : i < 524288 := (hm.pp _ hp).2
 have hzl : z.length = 4096 := (hm.pp _ hp).1.len
 have hbz := hid_intro (hm.pp _ hp).1.bt
 have HP := hid_intro hp
 have HM := hid_intro hm
 have HB := hid_intro hb
 clear hm hb hp
 rw [pv_eq]
 go_enter Tryz.func26, Tryz.ntmps26
 go_wp2_with fail
 go_loopg [13] (i + 1 - d.bl.length) (fun k _ wr => ∃ v bl c, k = i + 1 - bl.length ∧ bl.length = d.bl.length + c ∧ (d.bl.length ≤ i → bl.length ≤ i + 1) ∧ (i < d.bl.length → c = 0) ∧ Ld w wr B F s d w.heap.size i h c v bl)
 case atStart =>
  have hg := World.grownBy_alloc w (.cells #[.int .i64 i, pv h] 78) none
  exact ⟨d.vL, d.bl, 0, rfl, rfl, fun e => by omega, fun _ => rfl, HB.out.kept hg (by simp), (HM.out.keptN hg).wide (fun k hk => .inl hk) (fun k hk => hk.elim (fun x => by have := HM.out.low k x; simp; omega) (fun x => x.2)), Kp.of hg (fun k e => by cases e), heap_alloc_new w _, by simp⟩
 case round =>
  obtain ⟨v, bl, c, hk, hlc, hle, hc0, hL⟩ := hrel
  obtain ⟨ao, cap, ev⟩ : ∃ ao cap, v = .slice ao bl.length cap := owns_slice hL.dm.lr
  subst ev
  have c3 := hL.bx.c3
  have f3 := hL.bx.fz 3
  have u0 : wr.cell? ⟨w.heap.size, 0, none⟩ = some (.int .i64 i) := cell_of_row wr _ 0 _ _ _ hL.u
  have u1 : wr.cell? ⟨w.heap.size, 1, none⟩ = some (.slice (some ⟨h, 0, none⟩) 4096 4096) := cell_of_row wr _ 1 _ _ _ hL.u
  have HL := hid_intro hL
  have HC := hid_intro (And.intro hk (And.intro hlc (And.intro hle hc0)))
  clear hL
  by_cases hlt : bl.length ≤ i
  ·have hlt' : (bl.length : Int) ≤ i := by omega
   have hblm : bl.length < 524289 := by omega
   clear hk hlc hle hc0
   obtain ⟨ZZ, hmk, hZZ⟩ := make_zp
   have HZZ := hid_intro hZZ
   clear hZZ
   have c3a : (wr.alloc (.cells ZZ 5)).cell? ⟨B, 3, none⟩ = some (.slice ao bl.length cap) := (HL.out.bx.kept (World.grownBy_alloc wr (.cells ZZ 5) none) (by simp)).c3
   have c3b : ((wr.alloc (.cells ZZ 5)).alloc (.cells #[.slice (some ⟨wr.heap.size, 0, none⟩) 4096 4096] 47)).cell? ⟨B, 3, none⟩ = some (.slice ao bl.length cap) := (HL.out.bx.kept (grown_trans (World.grownBy_alloc wr (.cells ZZ 5) none) (World.grownBy_alloc _ (.cells #[.slice (some ⟨wr.heap.size, 0, none⟩) 4096 4096] 47) none)) (by simp)).c3
   have HO : Hid (∀ W : World, W.heap = ((wr.alloc (.cells ZZ 5)).alloc (.cells #[pv wr.heap.size] 47)).heap → W.ownsRow 0 47 1 (.slice ao bl.length cap) bl.length (bl.map fun x => pv x.1)) := fun W e => by
    refine owns_same HL.out.dm.lr fun g hg => ?_
    rw [e]
    exact (grown_trans (World.grownBy_alloc wr (.cells ZZ 5) none) (World.grownBy_alloc _ (.cells #[pv wr.heap.size] 47) none)).block g (HL.out.dm.lr.lt g hg).2 (by simp)
   have HN : Hid (∀ W : World, W.heap = ((wr.alloc (.cells ZZ 5)).alloc (.cells #[pv wr.heap.size] 47)).heap → ∀ j u, [pv wr.heap.size][j]? = some u → W.cell? ((⟨wr.heap.size + 1, 0, none⟩ : Addr).add j) = some u) := fun W e j u hu => by
    have hA := heap_alloc_new (wr.alloc (.cells ZZ 5)) (.cells #[pv wr.heap.size] 47)
    rw [show (wr.alloc (.cells ZZ 5)).heap.size = wr.heap.size + 1 by simp] at hA
    rw [Addr.add_lit, Nat.zero_add, cell_of_row W (wr.heap.size + 1) j _ _ _ (by rw [e]; exact hA)]
    simpa using hu
   have HBB : Hid (∀ W w3 : World, W.grownBy w3 (Value.slice ao bl.length cap).ownBlock → W.heap = ((wr.alloc (.cells ZZ 5)).alloc (.cells #[pv wr.heap.size] 47)).heap → Bx w3 B s { d with vL := .slice ao bl.length cap, bl := bl }) := fun W w3 hg e => by
    have gA : wr.grownBy ((wr.alloc (.cells ZZ 5)).alloc (.cells #[pv wr.heap.size] 47)) none := grown_trans (World.grownBy_alloc wr _ none) (World.grownBy_alloc _ _ none)
    have bA : Bx W B s { d with vL := .slice ao bl.length cap, bl := bl } := (HL.out.bx.kept gA (by simp)).same (by rw [e])
    have mA := (HL.out.dm.keptN gA).other (HL.out.bx.kept gA (by simp)) (by decide) (by decide) (by decide)
    exact bA.kept hg (fun e' => mA (.inl e'.symm))
   go_wp2_with fail
   go_region
   go_wp2_with fail
   go_region_law (refine step_append_at rfl (.tmp 18) (.tmp 20) 25 (by rfl) 0 47 i0 (.slice none 0 0) 1 24 Tryz.underlying25 hinf hz0 hz1 hz2 rfl (by decide) (.slice ao bl.length cap) bl.length _ (by rfl) (by exact HO.out _ rfl) ⟨wr.heap.size + 1, 0, none⟩ 1 1 [pv wr.heap.size] (by rfl) (by rfl) (by exact HN.out _ rfl) (by intro u hu; simp at hu; subst hu; rfl) (by unfold maxLen; omega) (by omega) (Nat.zero_le _) ?_; intro v3 w3 ho3 hg3 loc3; obtain ⟨g3, cap3, cur3, e3, -⟩ := ho3.2.resolve_left (fun e => by have := e.2; omega); subst e3; have b3 := HBB.out _ w3 hg3 rfl; have c33 := b3.c3; have f33 := b3.fz 3; have H3 := hid_intro ho3; have G3 := hid_intro hg3; have L3 := hid_intro loc3; clear ho3 hg3 loc3 b3)
   all_goals
    go_wp2
    go_roundg (i + 1 - (bl.length + 1))
    case measure => have := HC.out.1; omega
    case rel =>
     obtain ⟨hk, hlc, hle, hc0⟩ := HC.out
     exact ⟨_, bl ++ [(wr.heap.size, zp)], c + 1, by rw [List.length_append]; rfl, by rw [List.length_append, hlc]; rfl, fun e => by rw [List.length_append]; have := hle e; simp; omega, fun e => by omega, HL.out.next fb HZZ.out (by exact ⟨rfl, rfl, rfl, rfl⟩) G3.out H3.out L3.out (Qt.refl _)⟩
  ·have hlt' : (i : Int) < (bl.length : Int) := by omega
   have hc : c = i + 1 - d.bl.length := by omega
   have hx : bl[i]? = some bl[i] := List.getElem?_eq_getElem (by omega)
   revert hx
   generalize bl[i] = x
   intro hx
   obtain ⟨g, y⟩ := x
   obtain ⟨g0, cap0, cur0, hv, _, hg0, hcap, _⟩ := HL.out.dm.lr.2.resolve_left (fun e => by have := e.2; change bl.length = 0 at this; omega)
   simp only [Value.slice.injEq] at hv
   obtain ⟨rfl, _, rfl⟩ := hv
   have ci : wr.cell? ⟨g0, i, none⟩ = some (.slice (some ⟨g, 0, none⟩) 4096 4096) := by
    have := HL.out.dm.lr.cellAt i (by simp; omega)
    rw [this, List.getElem?_map, hx]
    rfl
   have hn' : (n : Int) ≤ 4096 := by omega
   have RT : Hid (∀ W : World, W.heap = wr.heap → Rt W g 5 y) := fun W e => by
    have := (HL.out.dm.bp (g, y) (List.mem_of_getElem? hx)).at_
    unfold Rt; rw [e]; exact this
   have BY : Hid (∀ W : World, W.heap = wr.heap → Byt W (some ⟨h, 0, none⟩) n 4096 (z.take n)) := fun W e =>
    ((HL.out.dm.pp _ HP.out).1.byt.take n 4096 hn (fun e => by cases e)).heap e
   have hyl : y.length = 4096 := (HL.out.dm.bp (g, y) (List.mem_of_getElem? hx)).len
   have HX := hid_intro hx
   clear hk hlc hle hc0 hx
   go_wp2_with fail
   go_region
   go_wp2_with fail
   go_region_law (refine step_copy_rt rfl (.tmp 31) (.tmp 35) (by rfl) _ _ _ _ _ _ (by rfl) (by rfl) g 0 5 y (z.take n) (by exact RT.out _ rfl) (by exact BY.out _ rfl) hn (fun _ => rfl) (by omega) ?_; intro w5 hr5 hg5 hs5; have R5 := hid_intro hr5; have G5 := hid_intro hg5; clear hr5 hg5 hs5)
   all_goals
    go_wp2
    go_end0
    exact ⟨rfl, HL.out.fin (by exact ⟨rfl, rfl, rfl, rfl⟩) HX.out hc G5.out R5.out hzl hbz.out hn⟩
end Go.Proofs.YtedpeggdbedmiaaGreatDoor
namespace Go.Proofs.YtedpeggdbedmiaaGreatDoor
open Go.RowKit Go.MuLone
def nwk (l : List (Nat × Nat × List Int)) (k j : Nat) : Option Nat := if (l.take k).any (fun p => p.1 == j) then none else nw l j
theorem nwk_zero (l : List (Nat × Nat × List Int)) : nwk l 0 = nw l := by funext j; simp [nwk]
theorem nwk_succ (l : List (Nat × Nat × List Int)) (k : Nat) (p : Nat × Nat × List Int) (h : l[k]? = some p) : (fun j => if p.1 = j then none else nwk l k j) = nwk l (k + 1) := by
 funext j
 unfold nwk
 rw [List.take_add_one, h, List.any_append]
 by_cases e : p.1 = j
 ·simp [e]
 ·rw [if_neg e]
  have e' : (p.1 == j) = false := by simp [e]
  simp only [Option.toList_some, List.any_cons, List.any_nil, e', Bool.or_false]
theorem nwk_all (l : List (Nat × Nat × List Int)) : nwk l l.length = nw [] := by
 funext j
 unfold nwk
 rw [List.take_length]
 by_cases e : l.any (fun p => p.1 == j) = true
 ·rw [if_pos e, nw_nil]
 ·rw [if_neg e, nw_nil]
  unfold nw
  rw [List.find?_eq_none.2, Option.map_none]
  intro p hp hc
  exact e (List.any_eq_true.2 ⟨p, List.mem_reverse.1 hp, hc⟩)
theorem Dm.clear {w wr : World} {F : Nat → Prop} {d : Dd} (h : Dm w F d) (hg : w.grownBy wr (some d.m)) (hmp : ∃ n, n ≤ d.done ∧ Mp wr d.m n (nw [])) : Dm wr F { d with vP := .slice none 0 0, pl := [] } := by
 obtain ⟨n0, hn0, hmp0⟩ := h.mp
 obtain ⟨es, clock, hmm⟩ := hmp0.isMap
 have st : ∀ (k : Nat) (cs : Array Value) (t : TypeId) (fz : Nat × Nat), w.heap[k]? = some (.cells cs t fz) → wr.heap[k]? = w.heap[k]? := by
  intro k cs t fz hk
  refine hg.block k (Array.getElem?_eq_some_iff.1 hk).1 (fun e => ?_)
  have := Option.some.inj e
  subst this
  rw [hk] at hmm
  cases hmm
 refine ⟨owns_same h.lr fun k hk => ?_, h.fl, World.ownsRow_nil _ _ _ _, fun g e => (by cases e), fun x hx => (h.bp x hx).same (st _ _ _ _ (h.bp x hx).at_), fun x hx => (by cases hx), ?_, hmp, Nat.zero_le _, h.fm, fun k hk => Nat.lt_of_lt_of_le (h.low k hk) hg.size⟩
 ·rcases h.lr.2 with ⟨hv, _⟩ | ⟨g', cap, cur, hv, _, hg', _⟩
  ·rw [hv] at hk; cases hk
  rw [hv] at hk
  have := Option.some.inj hk
  simp at this
  subst this
  exact st _ _ _ _ hg'
 ·have := (List.nodup_append.1 h.nd).1
  simpa using this
set_option maxHeartbeats 4000000 in
set_option maxRecDepth 4000 in
theorem settle_b {w : World} {B : Nat} {F : Nat → Prop} {s : Int} {d : Dd} (hb : Bx w B s d) (hm : Dm w F d) (fb : F B) (hd : d.pl.length < 1099511627776) :
  Calls Tryz.prog 27 #[.pointer (some ⟨B, 0, none⟩)] w fun e w' => e = .returned (.tuple #[]) ∧ Bx w' B s { d with vP := .slice none 0 0, pl := [], pg := d.bl.length } ∧ Dm w' (fun k => F k ∨ w.heap.size ≤ k ∧ k < w'.heap.size) { d with vP := .slice none 0 0, pl := [], pg := d.bl.length } ∧ Kp w w' F := by
 have c3 := hb.c3
 have c4 := hb.c4
 obtain ⟨ap, cp, ev⟩ := owns_slice hm.pr
 obtain ⟨al, cl, el⟩ := owns_slice hm.lr
 rw [ev] at c4
 have hnB := hm.other hb (by decide) (by decide) (by decide)
 have hmB : d.m ≠ B := fun e => hnB (.inr (.inr (.inr (.inr e.symm))))
 have HM := hid_intro hm
 have HB := hid_intro hb
 have HV := hid_intro ev
 have HE := hid_intro el
 clear hm hb ev el
 go_enter Tryz.func27, Tryz.ntmps27
 go_wp2_with fail
 go_loopw [9] (fun si wr => ∃ k : Nat, k ≤ d.pl.length ∧ si = .int .i64 k ∧ (∃ n, n ≤ d.done ∧ Mp wr d.m n (nwk d.pl k)) ∧ w.grownBy wr (some d.m)) (fun si _ => d.pl.length - (intOf si).toNat)
 case atStart => exact ⟨0, Nat.zero_le _, rfl, by rw [nwk_zero]; exact HM.out.mp, World.grownBy.refl _ _⟩
 case round =>
  obtain ⟨k, hk, rfl, ⟨n, hn, hmp⟩, hg⟩ := hrel
  have bR := HB.out.kept hg (fun e => hmB (Option.some.inj e).symm)
  by_cases hlt : k < d.pl.length
  ·have hlt' : (k : Int) < (d.pl.length : Int) := by omega
   have c5 := bR.c5
   obtain ⟨gP, capP, curP, hv, _, hgP, hcap, _⟩ := HM.out.pr.2.resolve_left (fun e => by have := e.2; omega)
   have hv2 := HV.out
   rw [hv] at hv2
   simp only [Value.slice.injEq] at hv2
   obtain ⟨rfl, _, rfl⟩ := hv2
   have hx : d.pl[k]? = some d.pl[k] := List.getElem?_eq_getElem hlt
   revert hx
   generalize d.pl[k] = x
   intro hx
   obtain ⟨no, h, z⟩ := x
   have hno : no < 524288 := (HM.out.pp _ (List.mem_of_getElem? hx)).2
   have hgPm : gP ≠ d.m := fun e => by
    obtain ⟨n, _, hmp'⟩ := HM.out.mp
    obtain ⟨es, clock, hmm⟩ := hmp'.isMap
    subst e
    rw [hgP] at hmm
    cases hmm
   have own : wr.ownsRow 0 78 2 (.slice (some ⟨gP, 0, none⟩) d.pl.length capP) d.pl.length (wcells d.pl) := by
    have := HM.out.pr
    rw [hv] at this
    exact this.kept hg (.inr (fun e => hgPm (Option.some.inj e)))
   have q0 : wr.cell? ⟨gP, k * 2, none⟩ = some (.int .i64 no) := by
    rw [own.cellAt (k * 2) (by omega), Nat.mul_comm]; exact (wcells_at _ _ _ hx).1
   have q1 : wr.cell? ⟨gP, k * 2 + 1, none⟩ = some (.slice (some ⟨h, 0, none⟩) 4096 4096) := by
    rw [own.cellAt (k * 2 + 1) (by omega), Nat.mul_comm]; exact (wcells_at _ _ _ hx).2
   have HX := hid_intro hx
   have HG := hid_intro hg
   have HMP := hid_intro hmp
   have BR := hid_intro bR
   clear hx hg hmp bR own hgP hcap c3 c4
   have c5a : (wr.alloc (.cells #[.int .i64 no, .slice (some ⟨h, 0, none⟩) 4096 4096] 78)).cell? ⟨B, 5, none⟩ = some (.map (some d.m)) := (BR.out.kept (World.grownBy_alloc wr _ none) (by simp)).c5
   have MA : Hid (∀ W : World, W.heap = (wr.alloc (.cells #[.int .i64 no, .slice (some ⟨h, 0, none⟩) 4096 4096] 78)).heap → Mp W d.m n (nwk d.pl k)) := fun W e => by
    obtain ⟨es, clock, hmm⟩ := HMP.out.isMap
    refine HMP.out.same ?_
    rw [e]
    exact (World.grownBy_alloc wr _ none).block d.m (Array.getElem?_eq_some_iff.1 hmm).1 (by simp)
   go_wp2_with fail
   go_region_law (refine step_delete_mp rfl (.tmp 16) (.tmp 18) (by rfl) d.m n _ (by rfl) (by exact MA.out _ rfl) no (by rfl) (by omega) ?_; intro w4 mp4 ht4; have M4 := hid_intro mp4; have T4 := hid_intro ht4; clear mp4 ht4)
   all_goals
    go_wp2
    go_roundw
    case rel =>
     have m4 := M4.out
     rw [nwk_succ d.pl k _ HX.out] at m4
     exact ⟨k + 1, by omega, by go_num, ⟨n, hn, m4⟩, grown_trans (grown_trans HG.out (World.grownBy_alloc wr (.cells #[.int .i64 no, .slice (some ⟨h, 0, none⟩) 4096 4096] 78) _)) (grown_trans ((Qt.refl _).drew.grown _) T4.out.grown)⟩
    case measure => simp [intOf]; omega
  ·have hkn : k = d.pl.length := by omega
   subst hkn
   rw [nwk_all] at hmp
   have c3 := bR.c3
   have c4 := bR.c4
   have c6 := bR.c6
   have f4 := bR.fz 4
   have f6 := bR.fz 6
   rw [HE.out] at c3
   have dm1 := HM.out.clear hg ⟨n, hn, hmp⟩
   have hs1 := hg.size
   have kp1 : Kp w wr F := Kp.of hg (fun k e => by rw [← Option.some.inj e]; exact HM.out.fm)
   have low := HM.out.low
   have fin : ∀ W, Qt ((wr.setCell ⟨B, 4, none⟩ (.slice none 0 0)).setCell ⟨B, 6, none⟩ (.int .i64 d.bl.length)) W → Bx W B s { d with vP := .slice none 0 0, pl := [], pg := d.bl.length } ∧ Dm W (fun k => F k ∨ w.heap.size ≤ k ∧ k < W.heap.size) { d with vP := .slice none 0 0, pl := [], pg := d.bl.length } ∧ Kp w W F := by
    intro W q
    have gW : wr.grownBy W (some B) := grown_trans (grown_trans (grown_cell _ _ _ _) (grown_cell _ _ _ _)) (q.grown _)
    have sW : W.heap.size = wr.heap.size := by rw [q.heap]; simp
    refine ⟨?_, ?_, kp1.trans (Kp.of (F := F) gW (fun k e => by rw [← Option.some.inj e]; exact fb)) (fun k hk => .inl hk)⟩
    ·exact ((bR.set 4 (.slice none 0 0) s { d with vP := .slice none 0 0 } rfl).set 6 (.int .i64 d.bl.length) s { d with vP := .slice none 0 0, pl := [], pg := d.bl.length } rfl).same (by rw [q.heap])
    ·have := dm1.box bR gW
     exact (this.wide (G := fun k => F k ∨ w.heap.size ≤ k ∧ k < W.heap.size) (fun k hk => .inl hk) (fun k hk => hk.elim (fun x => by have := low k x; omega) (fun x => x.2))).scal rfl rfl rfl rfl rfl (Nat.le_refl _)
   have FIN := hid_intro fin
   clear fin dm1 kp1 hmp hg
   go_wp2
   go_end0
   exact ⟨rfl, FIN.out _ (Qt.refl _)⟩
theorem landL_len (L : List (List Int)) (i : Nat) (z : List Int) (n : Nat) : (landL L i z n).length = max L.length (i + 1) := by
 unfold landL
 rw [List.length_set, List.length_append, List.length_replicate]
 omega
def landA (L : List (List Int)) (l : List (Nat × Nat × List Int)) : List (List Int) := l.foldl (fun L p => landL L p.1 p.2.2 4096) L
theorem landA_snoc (L : List (List Int)) (l : List (Nat × Nat × List Int)) (p : Nat × Nat × List Int) : landA L (l ++ [p]) = landL (landA L l) p.1 p.2.2 4096 := by simp [landA, List.foldl_append]
theorem landA_len (L : List (List Int)) (l : List (Nat × Nat × List Int)) : (landA L l).length = pgs L.length l := by
 induction l generalizing L with
 | nil => rfl
 | cons p l ih => simp only [landA, pgs, List.foldl_cons] at ih ⊢; rw [ih, landL_len]
theorem pgs_le (n : Nat) (l : List (Nat × Nat × List Int)) : n ≤ pgs n l := by
 induction l generalizing n with
 | nil => exact Nat.le_refl _
 | cons p l ih => have := ih (max n (p.1 + 1)); simp only [pgs, List.foldl_cons] at this ⊢; omega
theorem pgs_app (n : Nat) (a b : List (Nat × Nat × List Int)) : pgs n (a ++ b) = pgs (pgs n a) b := by simp [pgs, List.foldl_append]
theorem pgs_take (n k : Nat) (l : List (Nat × Nat × List Int)) : pgs n (l.take k) ≤ pgs n l := by
 have := pgs_app n (l.take k) (l.drop k)
 rw [List.take_append_drop] at this
 rw [this]
 exact pgs_le _ _
set_option maxHeartbeats 800000 in
theorem sync_fail {w : World} {B : Nat} {d : Dd} (hb : Bx w B 0 d) (ho : d.off = false) (hl : d.left = 1) (hd : d.done < 1099511627776) : Calls Tryz.prog 8 #[.pointer (some ⟨B, 0, none⟩)] w fun e w' => e = .returned (.int .i64 123) ∧ Bx w' B 0 d.spend ∧ w.grownBy w' (some B) := by
 go_enter_defers Tryz.func8, Tryz.ntmps8
 go_wp2_with fail
 refine (lock_b hb).mono ?_
 rintro e w1 ⟨rfl, hb1, hg1⟩
 have c8 := hb1.c8
 rw [ho] at c8
 go_wp2_with fail
 refine (spend_b hb1 ho (by omega) (by omega)).mono ?_
 rintro e w2 ⟨rfl, hb2, hg2⟩
 rw [show d.ans = 123 by unfold Dd.ans; rw [if_pos hl]]
 go_wp2_with fail
 refine leaves_cons (f := 22) (args := #[.pointer (some ⟨B, 0, none⟩)]) (by simp) (by simp [go_sem]) ?_
 refine (unlock_b .returning hb2).mono ?_
 rintro e u' w3 ⟨rfl, rfl, hb3, hg3⟩
 exact ⟨_, results_tmp rfl _ _ _, rfl, hb3, grown_trans (grown_trans hg1 hg2) hg3⟩
def Dd.sync (d : Dd) (v : Value) (bl : List (Nat × List Int)) : Dd := { d.spend with vL := v, bl := bl, vP := .slice none 0 0, pl := [], pg := bl.length }
set_option maxHeartbeats 4000000 in
set_option maxRecDepth 4000 in
theorem sync_ok {w : World} {B : Nat} {F : Nat → Prop} {d : Dd} (hk : Dk w B F d) (ho : d.off = false) (hl : d.left ≠ 1) (hd : d.done < 1099511627776) (hl2 : d.left < 9223372036854775808) :
  Calls Tryz.prog 8 #[.pointer (some ⟨B, 0, none⟩)] w fun e w' => e = .returned (.int .i64 0) ∧ ∃ v bl, Dk w' B (fun k => F k ∨ w.heap.size ≤ k ∧ k < w'.heap.size) (d.sync v bl) ∧ Kp w w' F ∧ bl.map (·.2) = landA (d.bl.map (·.2)) d.pl := by
 have hb := hk.bx
 have HK := hid_intro hk
 have hpc := hk.dm.pc
 have hpg := hk.pg
 have hcap := hk.cap
 have hle := hk.le
 clear hk
 go_enter_defers Tryz.func8, Tryz.ntmps8
 go_wp2_with fail
 refine (lock_b hb).mono ?_
 rintro e w1 ⟨rfl, hb1, hg1⟩
 have c8 := hb1.c8
 rw [ho] at c8
 go_wp2_with fail
 refine (spend_b hb1 ho (by omega) hl2).mono ?_
 rintro e w2 ⟨rfl, hb2, hg2⟩
 rw [show d.ans = 0 by unfold Dd.ans; rw [if_neg hl]]
 have hg12 := grown_trans hg1 hg2
 have hm2 : Dm w2 F d.spend := (HK.out.dm.box HK.out.bx hg12).scal rfl rfl rfl rfl rfl (Nat.le_succ _)
 have c4 := hb2.c4
 obtain ⟨ap, cp, ev⟩ := owns_slice hm2.pr
 change d.vP = .slice ap d.pl.length cp at ev
 change w2.cell? _ = some d.vP at c4
 rw [ev] at c4
 have EV := hid_intro ev
 have B2 := hid_intro hb2
 have M2 := hid_intro hm2
 have G12 := hid_intro hg12
 clear hb2 hm2 hg12 ev hb1 hb c8 hg1 hg2
 go_wp2_with fail
 go_loopw [27] (fun si wr => ∃ (k : Nat) (v : Value) (bl : List (Nat × List Int)), k ≤ d.pl.length ∧ si = .int .i64 k ∧ Bx wr B 1 { d.spend with vL := v, bl := bl } ∧ Dm wr (fun k => F k ∨ w.heap.size ≤ k ∧ k < wr.heap.size) { d.spend with vL := v, bl := bl } ∧ Kp w wr F ∧ bl.map (·.2) = landA (d.bl.map (·.2)) (d.pl.take k)) (fun si _ => d.pl.length - (intOf si).toNat)
 case atStart =>
  have hs := G12.out.size
  exact ⟨0, d.vL, d.bl, Nat.zero_le _, rfl, B2.out, M2.out.wide (fun k hk => .inl hk) (fun k hk => hk.elim (fun x => by have := HK.out.dm.low k x; omega) (fun x => x.2)), Kp.of G12.out (fun k e => by rw [← Option.some.inj e]; exact HK.out.fb), rfl⟩
 case round =>
  obtain ⟨k, v, bl, hk, rfl, hbr, hmr, hkp, hL⟩ := hrel
  have hbl : bl.length = pgs d.bl.length (d.pl.take k) := by
   have := congrArg List.length hL
   rw [List.length_map, landA_len, List.length_map] at this
   exact this
  have hblc : bl.length < 524288 := by have := pgs_take d.bl.length k d.pl; omega
  have HBL := hid_intro hbl
  clear hbl
  by_cases hlt : k < d.pl.length
  ·have hlt' : (k : Int) < (d.pl.length : Int) := by omega
   obtain ⟨gP, capP, curP, hv, _, hgP, hcapP, _⟩ := hmr.pr.2.resolve_left (fun e => by have := e.2; change d.pl.length = 0 at this; omega)
   change d.vP = .slice (some ⟨gP, 0, none⟩) d.pl.length capP at hv
   have hv2 := EV.out
   rw [hv] at hv2
   simp only [Value.slice.injEq] at hv2
   obtain ⟨rfl, _, rfl⟩ := hv2
   have hx : d.pl[k]? = some d.pl[k] := List.getElem?_eq_getElem hlt
   revert hx
   generalize d.pl[k] = x
   intro hx
   obtain ⟨no, h, z⟩ := x
   have own : wr.ownsRow 0 78 2 (.slice (some ⟨gP, 0, none⟩) d.pl.length capP) d.pl.length (wcells d.pl) := by
    have := hmr.pr
    change wr.ownsRow 0 78 2 d.vP d.pl.length (wcells d.pl) at this
    rw [hv] at this
    exact this
   have q0 : wr.cell? ⟨gP, k * 2, none⟩ = some (.int .i64 no) := by
    rw [own.cellAt (k * 2) (by omega), Nat.mul_comm]; exact (wcells_at _ _ _ hx).1
   have q1 : wr.cell? ⟨gP, k * 2 + 1, none⟩ = some (.slice (some ⟨h, 0, none⟩) 4096 4096) := by
    rw [own.cellAt (k * 2 + 1) (by omega), Nat.mul_comm]; exact (wcells_at _ _ _ hx).2
   have HX := hid_intro hx
   have gA := World.grownBy_alloc wr (.cells #[.int .i64 no, .slice (some ⟨h, 0, none⟩) 4096 4096] 78) none
   have LA := hid_intro (land_b (hbr.kept gA (by simp)) (hmr.keptN gA) (.inl HK.out.fb) no h 4096 z (Nat.le_refl _) (List.mem_of_getElem? hx) hblc)
   have HKP := hid_intro hkp
   have HLL := hid_intro hL
   have HMR := hid_intro hmr
   clear hx own hgP hcapP hkp hL hmr hbr gA c4
   go_wp2_with fail
   refine LA.out.mono ?_
   rintro e w3 ⟨rfl, v3, bl3, hb3, hm3, hkp3, hL3⟩
   have B3 := hid_intro hb3
   have M3 := hid_intro hm3
   have K3 := hid_intro hkp3
   have L3 := hid_intro hL3
   clear hb3 hm3 hkp3 hL3
   go_wp2
   go_roundw
   case rel =>
    have s0 := HKP.out.size
    have s3 := K3.out.size
    rw [show (wr.alloc (.cells #[.int .i64 no, .slice (some ⟨h, 0, none⟩) 4096 4096] 78)).heap.size = wr.heap.size + 1 by simp] at s3
    refine ⟨k + 1, v3, bl3, by omega, by go_num, B3.out, M3.out.wide (fun j hj => ?_) (fun j hj => hj.elim (fun x => by have := M3.out.low j (.inl (.inl x)); exact this) (fun x => x.2)), ?_, ?_⟩
    ·rcases hj with (x | x) | x
     ·exact .inl x
     ·exact .inr ⟨x.1, by omega⟩
     ·exact .inr ⟨by have := x.1; simp at this; omega, x.2⟩
    ·exact (HKP.out.trans (Kp.of (F := F) (World.grownBy_alloc wr _ none) (fun j e => by cases e)) (fun j hj => .inl hj)).trans K3.out (fun j hj => hj.imp id (fun x => x.1))
    ·rw [List.take_add_one, HX.out, Option.toList_some, landA_snoc, ← HLL.out]
     exact L3.out
   case measure => simp [intOf]; omega
  ·have hkn : k = d.pl.length := by omega
   subst hkn
   rw [List.take_length] at hL
   have SE := hid_intro (settle_b hbr hmr (.inl HK.out.fb) (show d.pl.length < _ by omega))
   have HKP := hid_intro hkp
   have HLL := hid_intro hL
   have HMR := hid_intro hmr
   clear hkp hL hmr hbr c4
   go_wp2_with fail
   refine SE.out.mono ?_
   rintro e w3 ⟨rfl, hb3, hm3, hkp3⟩
   go_wp2_with fail
   refine leaves_cons (f := 22) (args := #[.pointer (some ⟨B, 0, none⟩)]) (by simp) (by simp [go_sem]) ?_
   refine (unlock_b .returning hb3).mono ?_
   rintro e u' w4 ⟨rfl, rfl, hb4, hg4⟩
   have s0 := HKP.out.size
   have s3 := hkp3.size
   have s4 := hg4.size
   have hbl := HBL.out
   rw [List.take_length] at hbl
   refine ⟨_, results_tmp rfl _ _ _, rfl, v, bl, ⟨hb4, ?_, .inl HK.out.fb, rfl, HK.out.cap, by show bl.length ≤ d.cap; omega, fun j h1 h2 => by change bl.length ≤ j at h1; change j < bl.length at h2; omega⟩, ?_, HLL.out⟩
   ·refine (hm3.box hb3 hg4).wide (fun j hj => ?_) (fun j hj => hj.elim (fun x => by have := hm3.low j (.inl (.inl x)); omega) (fun x => x.2))
    rcases hj with (x | x) | x
    ·exact .inl x
    ·exact .inr ⟨x.1, by omega⟩
    ·exact .inr ⟨by omega, by omega⟩
   ·exact (HKP.out.trans hkp3 (fun j hj => hj.imp id (fun x => x.1))).trans (Kp.of (F := F) hg4 (fun j e => by rw [← Option.some.inj e]; exact HK.out.fb)) (fun j hj => .inl hj)
end Go.Proofs.YtedpeggdbedmiaaGreatDoor
namespace Go.Proofs.YtedpeggdbedmiaaGreatDoor
open Go.RowKit Go.MuLone
def rch (k a : Int) : Nat := if k = 1 then 4096 else if k = 2 then (if a ≤ 0 then 0 else if 4096 ≤ a then 4096 else a.toNat) else 0
def rok (k : Int) : Bool := decide (k = 1 ∨ k = 2)
theorem rch_le (k a : Int) : rch k a ≤ 4096 := by
 unfold rch
 split
 ·omega
 split
 ·split
  ·omega
  split <;> omega
 ·omega
set_option maxHeartbeats 800000 in
theorem reach_any (k a : Int) (w : World) : Calls Tryz.prog 33 #[.agg #[.int .i64 k, .int .i64 a]] w fun e w' => e = .returned (.tuple #[.int .i64 (rch k a), .bool (rok k)]) ∧ w.grownBy w' none := by
 unfold rch
 by_cases h1 : k = 1
 ·subst h1
  rw [if_pos rfl, show rok 1 = true from rfl]
  go_enter Tryz.func33, Tryz.ntmps33
  go_wp2
  go_ret2
  exact ⟨rfl, World.grownBy_alloc _ _ _⟩
 rw [if_neg h1]
 by_cases h2 : k = 2
 ·subst h2
  rw [if_pos rfl, show rok 2 = true from rfl]
  rcases Int.lt_trichotomy a 0 with h3 | h3 | h3
  ·rw [if_pos (by omega)]
   go_enter Tryz.func33, Tryz.ntmps33
   go_wp2
   go_ret2
   exact ⟨rfl, World.grownBy_alloc _ _ _⟩
  ·subst h3
   rw [if_pos (by omega)]
   go_enter Tryz.func33, Tryz.ntmps33
   go_wp2
   go_ret2
   exact ⟨rfl, World.grownBy_alloc _ _ _⟩
  rw [if_neg (by omega)]
  rcases Int.lt_trichotomy a 4096 with h4 | h4 | h4
  ·rw [if_neg (by omega), Int.toNat_of_nonneg (by omega)]
   go_enter Tryz.func33, Tryz.ntmps33
   go_wp2
   go_ret2
   exact ⟨rfl, World.grownBy_alloc _ _ _⟩
  ·subst h4
   rw [if_pos (by omega)]
   go_enter Tryz.func33, Tryz.ntmps33
   go_wp2
   go_ret2
   exact ⟨rfl, World.grownBy_alloc _ _ _⟩
  ·rw [if_pos (by omega)]
   go_enter Tryz.func33, Tryz.ntmps33
   go_wp2
   go_ret2
   exact ⟨rfl, World.grownBy_alloc _ _ _⟩
 ·rw [if_neg h2, show rok k = false by simp [rok, h1, h2]]
  go_enter Tryz.func33, Tryz.ntmps33
  go_wp2
  go_ret2
  exact ⟨rfl, World.grownBy_alloc _ _ _⟩
def fateL (L : List (List Int)) (p : Nat × Nat × List Int) (f : Int × Int) : List (List Int) := if f.1 = 1 ∨ f.1 = 2 then landL L p.1 p.2.2 (rch f.1 f.2) else L
theorem fateL_yes {L : List (List Int)} {no h : Nat} {z : List Int} {fk fa : Int} (hr : fk = 1 ∨ fk = 2) : fateL L (no, h, z) (fk, fa) = landL L no z (rch fk fa) := if_pos hr
theorem fateL_no {L : List (List Int)} {no h : Nat} {z : List Int} {fk fa : Int} (hr : ¬ (fk = 1 ∨ fk = 2)) : fateL L (no, h, z) (fk, fa) = L := if_neg hr
def landF (L : List (List Int)) (l : List ((Nat × Nat × List Int) × (Int × Int))) : List (List Int) := l.foldl (fun L q => fateL L q.1 q.2) L
theorem landF_snoc (L : List (List Int)) (l : List ((Nat × Nat × List Int) × (Int × Int))) (q : (Nat × Nat × List Int) × (Int × Int)) : landF L (l ++ [q]) = fateL (landF L l) q.1 q.2 := by simp [landF, List.foldl_append]
theorem pgs_mono {a b : Nat} (h : a ≤ b) (l : List (Nat × Nat × List Int)) : pgs a l ≤ pgs b l := by
 induction l generalizing a b with
 | nil => exact h
 | cons p l ih => exact ih (show max a (p.1 + 1) ≤ max b (p.1 + 1) by omega)
theorem landF_le (L : List (List Int)) (l : List (Nat × Nat × List Int)) (fs : List (Int × Int)) : (landF L (l.zip fs)).length ≤ pgs L.length l := by
 induction l generalizing L fs with
 | nil => simp [landF, pgs]
 | cons p l ih =>
  cases fs with
  | nil => simp only [List.zip_nil_right, landF, List.foldl_nil]; exact pgs_le _ _
  | cons f fs =>
   have h1 := ih (fateL L p f) fs
   simp only [landF, pgs, List.zip_cons_cons, List.foldl_cons] at h1 ⊢
   refine Nat.le_trans h1 (pgs_mono ?_ l)
   unfold fateL
   split
   ·rw [landL_len]; exact Nat.le_refl _
   ·omega
theorem landF_len (L : List (List Int)) (l : List (Nat × Nat × List Int)) (fs : List (Int × Int)) (k : Nat) : (landF L ((l.zip fs).take k)).length ≤ pgs L.length l := by
 have e : (l.zip fs).take k = (l.take k).zip (fs.take k) := List.take_zipWith
 rw [e]
 exact Nat.le_trans (landF_le L _ _) (pgs_take _ _ _)
structure Fl (w : World) (ao : Option Addr) (fs : List (Int × Int)) : Prop where
 ats : ∀ i f, fs[i]? = some f → ∃ b off, ao = some ⟨b, off, none⟩ ∧ b < w.heap.size ∧ w.cell? ⟨b, off + i * 2, none⟩ = some (.int .i64 f.1) ∧ w.cell? ⟨b, off + i * 2 + 1, none⟩ = some (.int .i64 f.2)
def Dd.crash (d : Dd) (v : Value) (bl : List (Nat × List Int)) : Dd := { d with vL := v, bl := bl, vP := .slice none 0 0, pl := [], pg := bl.length, left := 0, off := false }
set_option maxHeartbeats 8000000 in
set_option maxRecDepth 4000 in
theorem crash_any {w : World} {B : Nat} {F : Nat → Prop} {d : Dd} (hk : Dk w B F d) (ao : Option Addr) (fn fc : Nat) (fs : List (Int × Int)) (hF : Fl w ao fs) (hfl : fs.length = fn) (hfn : fn ≤ fc) (hfc : fc ≤ 9223372036854775807) (hfz : ∀ b off, ao = some ⟨b, off, none⟩ → ¬ F b) (hd : d.done < 1099511627776) :
  Calls Tryz.prog 19 #[.pointer (some ⟨B, 0, none⟩), .slice ao fn fc] w fun e w' => e = .returned (.tuple #[]) ∧ ∃ v bl, Dk w' B (fun k => F k ∨ w.heap.size ≤ k ∧ k < w'.heap.size) (d.crash v bl) ∧ Kp w w' F ∧ bl.map (·.2) = landF (d.bl.map (·.2)) (d.pl.zip fs) := by
 subst hfl
 have hb := hk.bx
 have HK := hid_intro hk
 have hpc := hk.dm.pc
 have hpg := hk.pg
 have hcap := hk.cap
 have hle := hk.le
 have HF := hid_intro hF
 clear hk hF
 go_enter_defers Tryz.func19, Tryz.ntmps19
 go_wp2_with fail
 refine (lock_b hb).mono ?_
 rintro e w1 ⟨rfl, hb1, hg1⟩
 have c4 := hb1.c4
 have hm1 := HK.out.dm.box HK.out.bx hg1
 obtain ⟨ap, cp, ev⟩ := owns_slice hm1.pr
 have hcp : d.pl.length ≤ cp ∧ cp ≤ 9223372036854775807 := by
  rcases hm1.pr.2 with ⟨e1, e2⟩ | ⟨g', cap', cur', e1, _, _, e3, e4, _⟩
  ·rw [ev] at e1; injection e1 with _ _ e1; omega
  ·rw [ev] at e1; injection e1 with _ _ e1; subst e1; exact ⟨e3, by unfold maxLen at e4; omega⟩
 obtain ⟨hcp1, hcp2⟩ := hcp
 rw [ev] at c4
 have EV := hid_intro ev
 have B1 := hid_intro hb1
 have M1 := hid_intro hm1
 have G1 := hid_intro hg1
 clear hb1 hm1 hg1 ev hb
 rcases Nat.lt_trichotomy fs.length d.pl.length with hMM | hMM | hMM
 ·have hMM' : (fs.length : Int) < (d.pl.length : Int) := by omega
  have hMn : fs.length ≤ d.pl.length := by omega
  go_wp2_with fail
  go_quiet (fail)
  go_wp2_with fail
  clear hMM
  go_loopw [29] (fun si wr => ∃ (k : Nat) (v : Value) (bl : List (Nat × List Int)), k ≤ fs.length ∧ si = .int .i64 k ∧ Bx wr B 1 { d with vL := v, bl := bl } ∧ Dm wr (fun k => F k ∨ w.heap.size ≤ k ∧ k < wr.heap.size) { d with vL := v, bl := bl } ∧ Kp w wr F ∧ bl.map (·.2) = landF (d.bl.map (·.2)) ((d.pl.zip fs).take k)) (fun si _ => fs.length - (intOf si).toNat)
  case atStart =>
   have hs := G1.out.size
   exact ⟨0, d.vL, d.bl, Nat.zero_le _, rfl, B1.out.same rfl, (M1.out.wide (fun k hk => .inl hk) (fun k hk => hk.elim (fun x => by have := HK.out.dm.low k x; omega) (fun x => x.2))).keptN ((Qt.drewN _ _).grown none), Kp.of (grown_trans G1.out ((Qt.drewN _ _).grown _)) (fun k e => by rw [← Option.some.inj e]; exact HK.out.fb), rfl⟩
  case round =>
   obtain ⟨k, v, bl, hk, rfl, hbr, hmr, hkp, hL⟩ := hrel
   have hblc : bl.length < 524288 := by
    have := congrArg List.length hL
    rw [List.length_map] at this
    have := landF_len (d.bl.map (·.2)) d.pl fs k
    rw [List.length_map] at this
    omega
   by_cases hlt : k < fs.length
   ·have hlt' : (k : Int) < (fs.length : Int) := by omega
    obtain ⟨gP, capP, curP, hv, _, hgP, hcapP, _⟩ := hmr.pr.2.resolve_left (fun e => by have := e.2; change d.pl.length = 0 at this; omega)
    change d.vP = .slice (some ⟨gP, 0, none⟩) d.pl.length capP at hv
    have hv2 := EV.out
    rw [hv] at hv2
    simp only [Value.slice.injEq] at hv2
    obtain ⟨rfl, _, rfl⟩ := hv2
    have hx : d.pl[k]? = some d.pl[k] := List.getElem?_eq_getElem (by omega)
    revert hx
    generalize d.pl[k] = x
    intro hx
    obtain ⟨no, h, z⟩ := x
    have own : wr.ownsRow 0 78 2 (.slice (some ⟨gP, 0, none⟩) d.pl.length capP) d.pl.length (wcells d.pl) := by
     have := hmr.pr
     change wr.ownsRow 0 78 2 d.vP d.pl.length (wcells d.pl) at this
     rw [hv] at this
     exact this
    have q0 : wr.cell? ⟨gP, k * 2, none⟩ = some (.int .i64 no) := by
     rw [own.cellAt (k * 2) (by omega), Nat.mul_comm]; exact (wcells_at _ _ _ hx).1
    have q1 : wr.cell? ⟨gP, k * 2 + 1, none⟩ = some (.slice (some ⟨h, 0, none⟩) 4096 4096) := by
     rw [own.cellAt (k * 2 + 1) (by omega), Nat.mul_comm]; exact (wcells_at _ _ _ hx).2
    have hf : fs[k]? = some fs[k] := List.getElem?_eq_getElem (by omega)
    revert hf
    generalize fs[k] = f
    intro hf
    obtain ⟨fk, fa⟩ := f
    obtain ⟨bf, of, rfl, hbf, r0, r1⟩ := HF.out.ats k _ hf
    have gA := World.grownBy_alloc wr (.cells #[.int .i64 no, .slice (some ⟨h, 0, none⟩) 4096 4096] 78) none
    have kA : Kp w (wr.alloc (.cells #[.int .i64 no, .slice (some ⟨h, 0, none⟩) 4096 4096] 78)) F := hkp.trans (Kp.of (F := F) gA (fun j e => by cases e)) (fun j hj => .inl hj)
    have r0' : (wr.alloc (.cells #[.int .i64 no, .slice (some ⟨h, 0, none⟩) 4096 4096] 78)).cell? ⟨bf, of + k * 2, none⟩ = some (.int .i64 fk) := (World.cell?_of_block (kA.block bf hbf (hfz bf of rfl))).trans r0
    have r1' : (wr.alloc (.cells #[.int .i64 no, .slice (some ⟨h, 0, none⟩) 4096 4096] 78)).cell? ⟨bf, of + k * 2 + 1, none⟩ = some (.int .i64 fa) := (World.cell?_of_block (kA.block bf hbf (hfz bf of rfl))).trans r1
    have hkf : (k : Int) < (fs.length : Int) := by omega
    have HX := hid_intro hx
    have HF2 := hid_intro hf
    have BA := hid_intro (hbr.kept gA (by simp))
    have MA := hid_intro (hmr.keptN gA)
    have HKP := hid_intro kA
    have HLL := hid_intro hL
    have s0 := hkp.size
    have nx : ∀ L, (d.pl.zip fs).take (k + 1) = (d.pl.zip fs).take k ++ L → True := fun _ _ => trivial
    have zx : (d.pl.zip fs)[k]? = some ((no, h, z), (fk, fa)) := by
     rw [List.getElem?_zip_eq_some]; exact ⟨hx, hf⟩
    have ZX := hid_intro zx
    clear hx hf own hgP hcapP hkp hL hmr hbr gA kA nx zx r0 r1
    go_wp2_with fail
    refine (reach_any fk fa _).mono ?_
    rintro e w2 ⟨rfl, hg2⟩
    have BB := hid_intro (BA.out.kept hg2 (by simp))
    have MB := hid_intro (MA.out.keptN hg2)
    have s2 := hg2.size
    have u2 : w2.heap[wr.heap.size]? = some (.cells #[.int .i64 no, .slice (some ⟨h, 0, none⟩) 4096 4096] 78 (0, 0)) := (hg2.block wr.heap.size (by simp) (by simp)).trans (heap_alloc_new wr _)
    have t0 : w2.cell? ⟨wr.heap.size, 0, none⟩ = some (.int .i64 no) := cell_of_row w2 _ 0 _ _ _ u2
    have t1 : w2.cell? ⟨wr.heap.size, 1, none⟩ = some (.slice (some ⟨h, 0, none⟩) 4096 4096) := cell_of_row w2 _ 1 _ _ _ u2
    rw [show (wr.alloc (.cells #[.int .i64 no, .slice (some ⟨h, 0, none⟩) 4096 4096] 78)).heap.size = wr.heap.size + 1 by simp] at s2
    have KB := hid_intro (HKP.out.trans (Kp.of (F := F) hg2 (fun j e => by cases e)) (fun j hj => .inl hj))
    clear u2 hg2
    by_cases hr : fk = 1 ∨ fk = 2
    ·rw [show rok fk = true by simp [rok, hr]]
     have LA := hid_intro (land_b BB.out MB.out (.inl HK.out.fb) no h (rch fk fa) z (rch_le fk fa) (List.mem_of_getElem? HX.out) hblc)
     go_wp2_with fail
     refine LA.out.mono ?_
     rintro e w3 ⟨rfl, v3, bl3, hb3, hm3, hkp3, hL3⟩
     have B3 := hid_intro hb3
     have M3 := hid_intro hm3
     have K3 := hid_intro hkp3
     have L3 := hid_intro hL3
     clear hb3 hm3 hkp3 hL3
     go_wp2
     go_roundw
     case rel =>
      have s3 := K3.out.size
      refine ⟨k + 1, v3, bl3, by omega, by go_num, B3.out, M3.out.wide (fun j hj => ?_) (fun j hj => hj.elim (fun x => by have := M3.out.low j (.inl (.inl x)); exact this) (fun x => x.2)), ?_, ?_⟩
      ·rcases hj with (x | x) | x
       ·exact .inl x
       ·exact .inr ⟨x.1, by omega⟩
       ·exact .inr ⟨by omega, x.2⟩
      ·exact KB.out.trans K3.out (fun j hj => hj.imp id (fun x => x.1))
      ·rw [List.take_add_one, ZX.out, Option.toList_some, landF_snoc, ← HLL.out, fateL_yes hr]
       exact L3.out
     case measure => simp [intOf]; omega
    ·rw [show rok fk = false by simp [rok]; omega]
     go_wp2
     go_roundw
     case rel =>
      refine ⟨k + 1, v, bl, by omega, by go_num, BB.out, MB.out.wide (fun j hj => hj.imp id (fun x => ⟨x.1, by omega⟩)) (fun j hj => hj.elim (fun x => MB.out.low j (.inl x)) (fun x => x.2)), KB.out, ?_⟩
      rw [List.take_add_one, ZX.out, Option.toList_some, landF_snoc, ← HLL.out, fateL_no hr]
     case measure => simp [intOf]; omega
   ·have hkn : k = fs.length := by omega
    subst hkn
    have hLE : (d.pl.zip fs).take fs.length = d.pl.zip fs := List.take_of_length_le (by rw [List.length_zip]; omega)
    rw [hLE] at hL
    have SE := hid_intro (settle_b hbr hmr (.inl HK.out.fb) (show d.pl.length < _ by omega))
    have HKP := hid_intro hkp
    have HLL := hid_intro hL
    have HMR := hid_intro hmr
    clear hkp hL hmr hbr hLE
    go_wp2_with fail
    refine SE.out.mono ?_
    rintro e w3 ⟨rfl, hb3, hm3, hkp3⟩
    have c7 := hb3.c7
    have c8 := hb3.c8
    have f7 := hb3.fz 7
    have f8 := hb3.fz 8
    go_wp2_with fail
    have hb5 := (hb3.set 7 (.int .i64 0) 1 { d with vL := v, bl := bl, vP := .slice none 0 0, pl := [], pg := bl.length, left := 0 } rfl).set 8 (.bool false) 1 (d.crash v bl) rfl
    refine leaves_cons (f := 22) (args := #[.pointer (some ⟨B, 0, none⟩)]) (by simp) (by simp [go_sem]) ?_
    refine (unlock_b .returning hb5).mono ?_
    rintro e u' w4 ⟨rfl, rfl, hb4, hg4⟩
    have hg5 : w3.grownBy w4 (some B) := grown_trans (grown_trans (grown_cell _ _ _ _) (grown_cell _ _ _ _)) hg4
    have s0 := HKP.out.size
    have s3 := hkp3.size
    have s4 := hg5.size
    have hbl : bl.length ≤ d.cap := by
     have := congrArg List.length HLL.out
     rw [List.length_map] at this
     have := landF_len (d.bl.map (·.2)) d.pl fs (d.pl.zip fs).length
     rw [List.length_map, List.take_length] at this
     omega
    refine ⟨_, results_none rfl _ _ _, rfl, v, bl, ⟨hb4, ?_, .inl HK.out.fb, rfl, HK.out.cap, hbl, fun j h1 h2 => by change bl.length ≤ j at h1; change j < bl.length at h2; omega⟩, ?_, HLL.out⟩
    ·refine ((hm3.box hb3 hg5).wide (fun j hj => ?_) (fun j hj => hj.elim (fun x => by have := hm3.low j (.inl (.inl x)); omega) (fun x => x.2))).scal rfl rfl rfl rfl rfl (Nat.le_refl _)
     rcases hj with (x | x) | x
     ·exact .inl x
     ·exact .inr ⟨x.1, by omega⟩
     ·exact .inr ⟨by omega, by omega⟩
    ·exact (HKP.out.trans hkp3 (fun j hj => hj.imp id (fun x => x.1))).trans (Kp.of (F := F) hg5 (fun j e => by rw [← Option.some.inj e]; exact HK.out.fb)) (fun j hj => .inl hj)
 ·have hMM' : (fs.length : Int) = (d.pl.length : Int) := by omega
  have hMn : d.pl.length ≤ fs.length := by omega
  go_wp2_with fail
  go_quiet (fail)
  go_wp2_with fail
  clear hMM
  go_loopw [29] (fun si wr => ∃ (k : Nat) (v : Value) (bl : List (Nat × List Int)), k ≤ d.pl.length ∧ si = .int .i64 k ∧ Bx wr B 1 { d with vL := v, bl := bl } ∧ Dm wr (fun k => F k ∨ w.heap.size ≤ k ∧ k < wr.heap.size) { d with vL := v, bl := bl } ∧ Kp w wr F ∧ bl.map (·.2) = landF (d.bl.map (·.2)) ((d.pl.zip fs).take k)) (fun si _ => d.pl.length - (intOf si).toNat)
  case atStart =>
   have hs := G1.out.size
   exact ⟨0, d.vL, d.bl, Nat.zero_le _, rfl, B1.out.same rfl, (M1.out.wide (fun k hk => .inl hk) (fun k hk => hk.elim (fun x => by have := HK.out.dm.low k x; omega) (fun x => x.2))).keptN ((Qt.drewN _ _).grown none), Kp.of (grown_trans G1.out ((Qt.drewN _ _).grown _)) (fun k e => by rw [← Option.some.inj e]; exact HK.out.fb), rfl⟩
  case round =>
   obtain ⟨k, v, bl, hk, rfl, hbr, hmr, hkp, hL⟩ := hrel
   have hblc : bl.length < 524288 := by
    have := congrArg List.length hL
    rw [List.length_map] at this
    have := landF_len (d.bl.map (·.2)) d.pl fs k
    rw [List.length_map] at this
    omega
   by_cases hlt : k < d.pl.length
   ·have hlt' : (k : Int) < (d.pl.length : Int) := by omega
    obtain ⟨gP, capP, curP, hv, _, hgP, hcapP, _⟩ := hmr.pr.2.resolve_left (fun e => by have := e.2; change d.pl.length = 0 at this; omega)
    change d.vP = .slice (some ⟨gP, 0, none⟩) d.pl.length capP at hv
    have hv2 := EV.out
    rw [hv] at hv2
    simp only [Value.slice.injEq] at hv2
    obtain ⟨rfl, _, rfl⟩ := hv2
    have hx : d.pl[k]? = some d.pl[k] := List.getElem?_eq_getElem (by omega)
    revert hx
    generalize d.pl[k] = x
    intro hx
    obtain ⟨no, h, z⟩ := x
    have own : wr.ownsRow 0 78 2 (.slice (some ⟨gP, 0, none⟩) d.pl.length capP) d.pl.length (wcells d.pl) := by
     have := hmr.pr
     change wr.ownsRow 0 78 2 d.vP d.pl.length (wcells d.pl) at this
     rw [hv] at this
     exact this
    have q0 : wr.cell? ⟨gP, k * 2, none⟩ = some (.int .i64 no) := by
     rw [own.cellAt (k * 2) (by omega), Nat.mul_comm]; exact (wcells_at _ _ _ hx).1
    have q1 : wr.cell? ⟨gP, k * 2 + 1, none⟩ = some (.slice (some ⟨h, 0, none⟩) 4096 4096) := by
     rw [own.cellAt (k * 2 + 1) (by omega), Nat.mul_comm]; exact (wcells_at _ _ _ hx).2
    have hf : fs[k]? = some fs[k] := List.getElem?_eq_getElem (by omega)
    revert hf
    generalize fs[k] = f
    intro hf
    obtain ⟨fk, fa⟩ := f
    obtain ⟨bf, of, rfl, hbf, r0, r1⟩ := HF.out.ats k _ hf
    have gA := World.grownBy_alloc wr (.cells #[.int .i64 no, .slice (some ⟨h, 0, none⟩) 4096 4096] 78) none
    have kA : Kp w (wr.alloc (.cells #[.int .i64 no, .slice (some ⟨h, 0, none⟩) 4096 4096] 78)) F := hkp.trans (Kp.of (F := F) gA (fun j e => by cases e)) (fun j hj => .inl hj)
    have r0' : (wr.alloc (.cells #[.int .i64 no, .slice (some ⟨h, 0, none⟩) 4096 4096] 78)).cell? ⟨bf, of + k * 2, none⟩ = some (.int .i64 fk) := (World.cell?_of_block (kA.block bf hbf (hfz bf of rfl))).trans r0
    have r1' : (wr.alloc (.cells #[.int .i64 no, .slice (some ⟨h, 0, none⟩) 4096 4096] 78)).cell? ⟨bf, of + k * 2 + 1, none⟩ = some (.int .i64 fa) := (World.cell?_of_block (kA.block bf hbf (hfz bf of rfl))).trans r1
    have hkf : (k : Int) < (fs.length : Int) := by omega
    have HX := hid_intro hx
    have HF2 := hid_intro hf
    have BA := hid_intro (hbr.kept gA (by simp))
    have MA := hid_intro (hmr.keptN gA)
    have HKP := hid_intro kA
    have HLL := hid_intro hL
    have s0 := hkp.size
    have nx : ∀ L, (d.pl.zip fs).take (k + 1) = (d.pl.zip fs).take k ++ L → True := fun _ _ => trivial
    have zx : (d.pl.zip fs)[k]? = some ((no, h, z), (fk, fa)) := by
     rw [List.getElem?_zip_eq_some]; exact ⟨hx, hf⟩
    have ZX := hid_intro zx
    clear hx hf own hgP hcapP hkp hL hmr hbr gA kA nx zx r0 r1
    go_wp2_with fail
    refine (reach_any fk fa _).mono ?_
    rintro e w2 ⟨rfl, hg2⟩
    have BB := hid_intro (BA.out.kept hg2 (by simp))
    have MB := hid_intro (MA.out.keptN hg2)
    have s2 := hg2.size
    have u2 : w2.heap[wr.heap.size]? = some (.cells #[.int .i64 no, .slice (some ⟨h, 0, none⟩) 4096 4096] 78 (0, 0)) := (hg2.block wr.heap.size (by simp) (by simp)).trans (heap_alloc_new wr _)
    have t0 : w2.cell? ⟨wr.heap.size, 0, none⟩ = some (.int .i64 no) := cell_of_row w2 _ 0 _ _ _ u2
    have t1 : w2.cell? ⟨wr.heap.size, 1, none⟩ = some (.slice (some ⟨h, 0, none⟩) 4096 4096) := cell_of_row w2 _ 1 _ _ _ u2
    rw [show (wr.alloc (.cells #[.int .i64 no, .slice (some ⟨h, 0, none⟩) 4096 4096] 78)).heap.size = wr.heap.size + 1 by simp] at s2
    have KB := hid_intro (HKP.out.trans (Kp.of (F := F) hg2 (fun j e => by cases e)) (fun j hj => .inl hj))
    clear u2 hg2
    by_cases hr : fk = 1 ∨ fk = 2
    ·rw [show rok fk = true by simp [rok, hr]]
     have LA := hid_intro (land_b BB.out MB.out (.inl HK.out.fb) no h (rch fk fa) z (rch_le fk fa) (List.mem_of_getElem? HX.out) hblc)
     go_wp2_with fail
     refine LA.out.mono ?_
     rintro e w3 ⟨rfl, v3, bl3, hb3, hm3, hkp3, hL3⟩
     have B3 := hid_intro hb3
     have M3 := hid_intro hm3
     have K3 := hid_intro hkp3
     have L3 := hid_intro hL3
     clear hb3 hm3 hkp3 hL3
     go_wp2
     go_roundw
     case rel =>
      have s3 := K3.out.size
      refine ⟨k + 1, v3, bl3, by omega, by go_num, B3.out, M3.out.wide (fun j hj => ?_) (fun j hj => hj.elim (fun x => by have := M3.out.low j (.inl (.inl x)); exact this) (fun x => x.2)), ?_, ?_⟩
      ·rcases hj with (x | x) | x
       ·exact .inl x
       ·exact .inr ⟨x.1, by omega⟩
       ·exact .inr ⟨by omega, x.2⟩
      ·exact KB.out.trans K3.out (fun j hj => hj.imp id (fun x => x.1))
      ·rw [List.take_add_one, ZX.out, Option.toList_some, landF_snoc, ← HLL.out, fateL_yes hr]
       exact L3.out
     case measure => simp [intOf]; omega
    ·rw [show rok fk = false by simp [rok]; omega]
     go_wp2
     go_roundw
     case rel =>
      refine ⟨k + 1, v, bl, by omega, by go_num, BB.out, MB.out.wide (fun j hj => hj.imp id (fun x => ⟨x.1, by omega⟩)) (fun j hj => hj.elim (fun x => MB.out.low j (.inl x)) (fun x => x.2)), KB.out, ?_⟩
      rw [List.take_add_one, ZX.out, Option.toList_some, landF_snoc, ← HLL.out, fateL_no hr]
     case measure => simp [intOf]; omega
   ·have hkn : k = d.pl.length := by omega
    subst hkn
    have hLE : (d.pl.zip fs).take d.pl.length = d.pl.zip fs := List.take_of_length_le (by rw [List.length_zip]; omega)
    rw [hLE] at hL
    have SE := hid_intro (settle_b hbr hmr (.inl HK.out.fb) (show d.pl.length < _ by omega))
    have HKP := hid_intro hkp
    have HLL := hid_intro hL
    have HMR := hid_intro hmr
    clear hkp hL hmr hbr hLE
    go_wp2_with fail
    refine SE.out.mono ?_
    rintro e w3 ⟨rfl, hb3, hm3, hkp3⟩
    have c7 := hb3.c7
    have c8 := hb3.c8
    have f7 := hb3.fz 7
    have f8 := hb3.fz 8
    go_wp2_with fail
    have hb5 := (hb3.set 7 (.int .i64 0) 1 { d with vL := v, bl := bl, vP := .slice none 0 0, pl := [], pg := bl.length, left := 0 } rfl).set 8 (.bool false) 1 (d.crash v bl) rfl
    refine leaves_cons (f := 22) (args := #[.pointer (some ⟨B, 0, none⟩)]) (by simp) (by simp [go_sem]) ?_
    refine (unlock_b .returning hb5).mono ?_
    rintro e u' w4 ⟨rfl, rfl, hb4, hg4⟩
    have hg5 : w3.grownBy w4 (some B) := grown_trans (grown_trans (grown_cell _ _ _ _) (grown_cell _ _ _ _)) hg4
    have s0 := HKP.out.size
    have s3 := hkp3.size
    have s4 := hg5.size
    have hbl : bl.length ≤ d.cap := by
     have := congrArg List.length HLL.out
     rw [List.length_map] at this
     have := landF_len (d.bl.map (·.2)) d.pl fs (d.pl.zip fs).length
     rw [List.length_map, List.take_length] at this
     omega
    refine ⟨_, results_none rfl _ _ _, rfl, v, bl, ⟨hb4, ?_, .inl HK.out.fb, rfl, HK.out.cap, hbl, fun j h1 h2 => by change bl.length ≤ j at h1; change j < bl.length at h2; omega⟩, ?_, HLL.out⟩
    ·refine ((hm3.box hb3 hg5).wide (fun j hj => ?_) (fun j hj => hj.elim (fun x => by have := hm3.low j (.inl (.inl x)); omega) (fun x => x.2))).scal rfl rfl rfl rfl rfl (Nat.le_refl _)
     rcases hj with (x | x) | x
     ·exact .inl x
     ·exact .inr ⟨x.1, by omega⟩
     ·exact .inr ⟨by omega, by omega⟩
    ·exact (HKP.out.trans hkp3 (fun j hj => hj.imp id (fun x => x.1))).trans (Kp.of (F := F) hg5 (fun j e => by rw [← Option.some.inj e]; exact HK.out.fb)) (fun j hj => .inl hj)
 ·have hMM' : (d.pl.length : Int) < (fs.length : Int) := by omega
  have hMn : d.pl.length ≤ fs.length := by omega
  go_wp2_with fail
  go_quiet (fail)
  go_wp2_with fail
  clear hMM
  go_loopw [29] (fun si wr => ∃ (k : Nat) (v : Value) (bl : List (Nat × List Int)), k ≤ d.pl.length ∧ si = .int .i64 k ∧ Bx wr B 1 { d with vL := v, bl := bl } ∧ Dm wr (fun k => F k ∨ w.heap.size ≤ k ∧ k < wr.heap.size) { d with vL := v, bl := bl } ∧ Kp w wr F ∧ bl.map (·.2) = landF (d.bl.map (·.2)) ((d.pl.zip fs).take k)) (fun si _ => d.pl.length - (intOf si).toNat)
  case atStart =>
   have hs := G1.out.size
   exact ⟨0, d.vL, d.bl, Nat.zero_le _, rfl, B1.out.same rfl, (M1.out.wide (fun k hk => .inl hk) (fun k hk => hk.elim (fun x => by have := HK.out.dm.low k x; omega) (fun x => x.2))).keptN ((Qt.drewN _ _).grown none), Kp.of (grown_trans G1.out ((Qt.drewN _ _).grown _)) (fun k e => by rw [← Option.some.inj e]; exact HK.out.fb), rfl⟩
  case round =>
   obtain ⟨k, v, bl, hk, rfl, hbr, hmr, hkp, hL⟩ := hrel
   have hblc : bl.length < 524288 := by
    have := congrArg List.length hL
    rw [List.length_map] at this
    have := landF_len (d.bl.map (·.2)) d.pl fs k
    rw [List.length_map] at this
    omega
   by_cases hlt : k < d.pl.length
   ·have hlt' : (k : Int) < (d.pl.length : Int) := by omega
    obtain ⟨gP, capP, curP, hv, _, hgP, hcapP, _⟩ := hmr.pr.2.resolve_left (fun e => by have := e.2; change d.pl.length = 0 at this; omega)
    change d.vP = .slice (some ⟨gP, 0, none⟩) d.pl.length capP at hv
    have hv2 := EV.out
    rw [hv] at hv2
    simp only [Value.slice.injEq] at hv2
    obtain ⟨rfl, _, rfl⟩ := hv2
    have hx : d.pl[k]? = some d.pl[k] := List.getElem?_eq_getElem (by omega)
    revert hx
    generalize d.pl[k] = x
    intro hx
    obtain ⟨no, h, z⟩ := x
    have own : wr.ownsRow 0 78 2 (.slice (some ⟨gP, 0, none⟩) d.pl.length capP) d.pl.length (wcells d.pl) := by
     have := hmr.pr
     change wr.ownsRow 0 78 2 d.vP d.pl.length (wcells d.pl) at this
     rw [hv] at this
     exact this
    have q0 : wr.cell? ⟨gP, k * 2, none⟩ = some (.int .i64 no) := by
     rw [own.cellAt (k * 2) (by omega), Nat.mul_comm]; exact (wcells_at _ _ _ hx).1
    have q1 : wr.cell? ⟨gP, k * 2 + 1, none⟩ = some (.slice (some ⟨h, 0, none⟩) 4096 4096) := by
     rw [own.cellAt (k * 2 + 1) (by omega), Nat.mul_comm]; exact (wcells_at _ _ _ hx).2
    have hf : fs[k]? = some fs[k] := List.getElem?_eq_getElem (by omega)
    revert hf
    generalize fs[k] = f
    intro hf
    obtain ⟨fk, fa⟩ := f
    obtain ⟨bf, of, rfl, hbf, r0, r1⟩ := HF.out.ats k _ hf
    have gA := World.grownBy_alloc wr (.cells #[.int .i64 no, .slice (some ⟨h, 0, none⟩) 4096 4096] 78) none
    have kA : Kp w (wr.alloc (.cells #[.int .i64 no, .slice (some ⟨h, 0, none⟩) 4096 4096] 78)) F := hkp.trans (Kp.of (F := F) gA (fun j e => by cases e)) (fun j hj => .inl hj)
    have r0' : (wr.alloc (.cells #[.int .i64 no, .slice (some ⟨h, 0, none⟩) 4096 4096] 78)).cell? ⟨bf, of + k * 2, none⟩ = some (.int .i64 fk) := (World.cell?_of_block (kA.block bf hbf (hfz bf of rfl))).trans r0
    have r1' : (wr.alloc (.cells #[.int .i64 no, .slice (some ⟨h, 0, none⟩) 4096 4096] 78)).cell? ⟨bf, of + k * 2 + 1, none⟩ = some (.int .i64 fa) := (World.cell?_of_block (kA.block bf hbf (hfz bf of rfl))).trans r1
    have hkf : (k : Int) < (fs.length : Int) := by omega
    have HX := hid_intro hx
    have HF2 := hid_intro hf
    have BA := hid_intro (hbr.kept gA (by simp))
    have MA := hid_intro (hmr.keptN gA)
    have HKP := hid_intro kA
    have HLL := hid_intro hL
    have s0 := hkp.size
    have nx : ∀ L, (d.pl.zip fs).take (k + 1) = (d.pl.zip fs).take k ++ L → True := fun _ _ => trivial
    have zx : (d.pl.zip fs)[k]? = some ((no, h, z), (fk, fa)) := by
     rw [List.getElem?_zip_eq_some]; exact ⟨hx, hf⟩
    have ZX := hid_intro zx
    clear hx hf own hgP hcapP hkp hL hmr hbr gA kA nx zx r0 r1
    go_wp2_with fail
    refine (reach_any fk fa _).mono ?_
    rintro e w2 ⟨rfl, hg2⟩
    have BB := hid_intro (BA.out.kept hg2 (by simp))
    have MB := hid_intro (MA.out.keptN hg2)
    have s2 := hg2.size
    have u2 : w2.heap[wr.heap.size]? = some (.cells #[.int .i64 no, .slice (some ⟨h, 0, none⟩) 4096 4096] 78 (0, 0)) := (hg2.block wr.heap.size (by simp) (by simp)).trans (heap_alloc_new wr _)
    have t0 : w2.cell? ⟨wr.heap.size, 0, none⟩ = some (.int .i64 no) := cell_of_row w2 _ 0 _ _ _ u2
    have t1 : w2.cell? ⟨wr.heap.size, 1, none⟩ = some (.slice (some ⟨h, 0, none⟩) 4096 4096) := cell_of_row w2 _ 1 _ _ _ u2
    rw [show (wr.alloc (.cells #[.int .i64 no, .slice (some ⟨h, 0, none⟩) 4096 4096] 78)).heap.size = wr.heap.size + 1 by simp] at s2
    have KB := hid_intro (HKP.out.trans (Kp.of (F := F) hg2 (fun j e => by cases e)) (fun j hj => .inl hj))
    clear u2 hg2
    by_cases hr : fk = 1 ∨ fk = 2
    ·rw [show rok fk = true by simp [rok, hr]]
     have LA := hid_intro (land_b BB.out MB.out (.inl HK.out.fb) no h (rch fk fa) z (rch_le fk fa) (List.mem_of_getElem? HX.out) hblc)
     go_wp2_with fail
     refine LA.out.mono ?_
     rintro e w3 ⟨rfl, v3, bl3, hb3, hm3, hkp3, hL3⟩
     have B3 := hid_intro hb3
     have M3 := hid_intro hm3
     have K3 := hid_intro hkp3
     have L3 := hid_intro hL3
     clear hb3 hm3 hkp3 hL3
     go_wp2
     go_roundw
     case rel =>
      have s3 := K3.out.size
      refine ⟨k + 1, v3, bl3, by omega, by go_num, B3.out, M3.out.wide (fun j hj => ?_) (fun j hj => hj.elim (fun x => by have := M3.out.low j (.inl (.inl x)); exact this) (fun x => x.2)), ?_, ?_⟩
      ·rcases hj with (x | x) | x
       ·exact .inl x
       ·exact .inr ⟨x.1, by omega⟩
       ·exact .inr ⟨by omega, x.2⟩
      ·exact KB.out.trans K3.out (fun j hj => hj.imp id (fun x => x.1))
      ·rw [List.take_add_one, ZX.out, Option.toList_some, landF_snoc, ← HLL.out, fateL_yes hr]
       exact L3.out
     case measure => simp [intOf]; omega
    ·rw [show rok fk = false by simp [rok]; omega]
     go_wp2
     go_roundw
     case rel =>
      refine ⟨k + 1, v, bl, by omega, by go_num, BB.out, MB.out.wide (fun j hj => hj.imp id (fun x => ⟨x.1, by omega⟩)) (fun j hj => hj.elim (fun x => MB.out.low j (.inl x)) (fun x => x.2)), KB.out, ?_⟩
      rw [List.take_add_one, ZX.out, Option.toList_some, landF_snoc, ← HLL.out, fateL_no hr]
     case measure => simp [intOf]; omega
   ·have hkn : k = d.pl.length := by omega
    subst hkn
    have hLE : (d.pl.zip fs).take d.pl.length = d.pl.zip fs := List.take_of_length_le (by rw [List.length_zip]; omega)
    rw [hLE] at hL
    have SE := hid_intro (settle_b hbr hmr (.inl HK.out.fb) (show d.pl.length < _ by omega))
    have HKP := hid_intro hkp
    have HLL := hid_intro hL
    have HMR := hid_intro hmr
    clear hkp hL hmr hbr hLE
    go_wp2_with fail
    refine SE.out.mono ?_
    rintro e w3 ⟨rfl, hb3, hm3, hkp3⟩
    have c7 := hb3.c7
    have c8 := hb3.c8
    have f7 := hb3.fz 7
    have f8 := hb3.fz 8
    go_wp2_with fail
    have hb5 := (hb3.set 7 (.int .i64 0) 1 { d with vL := v, bl := bl, vP := .slice none 0 0, pl := [], pg := bl.length, left := 0 } rfl).set 8 (.bool false) 1 (d.crash v bl) rfl
    refine leaves_cons (f := 22) (args := #[.pointer (some ⟨B, 0, none⟩)]) (by simp) (by simp [go_sem]) ?_
    refine (unlock_b .returning hb5).mono ?_
    rintro e u' w4 ⟨rfl, rfl, hb4, hg4⟩
    have hg5 : w3.grownBy w4 (some B) := grown_trans (grown_trans (grown_cell _ _ _ _) (grown_cell _ _ _ _)) hg4
    have s0 := HKP.out.size
    have s3 := hkp3.size
    have s4 := hg5.size
    have hbl : bl.length ≤ d.cap := by
     have := congrArg List.length HLL.out
     rw [List.length_map] at this
     have := landF_len (d.bl.map (·.2)) d.pl fs (d.pl.zip fs).length
     rw [List.length_map, List.take_length] at this
     omega
    refine ⟨_, results_none rfl _ _ _, rfl, v, bl, ⟨hb4, ?_, .inl HK.out.fb, rfl, HK.out.cap, hbl, fun j h1 h2 => by change bl.length ≤ j at h1; change j < bl.length at h2; omega⟩, ?_, HLL.out⟩
    ·refine ((hm3.box hb3 hg5).wide (fun j hj => ?_) (fun j hj => hj.elim (fun x => by have := hm3.low j (.inl (.inl x)); omega) (fun x => x.2))).scal rfl rfl rfl rfl rfl (Nat.le_refl _)
     rcases hj with (x | x) | x
     ·exact .inl x
     ·exact .inr ⟨x.1, by omega⟩
     ·exact .inr ⟨by omega, by omega⟩
    ·exact (HKP.out.trans hkp3 (fun j hj => hj.imp id (fun x => x.1))).trans (Kp.of (F := F) hg5 (fun j e => by rw [← Option.some.inj e]; exact HK.out.fb)) (fun j hj => .inl hj)
end Go.Proofs.YtedpeggdbedmiaaGreatDoor
namespace Go.Proofs.YtedpeggdbedmiaaGreatDoor
open Go.RowKit Go.MuLone
theorem num_12 (x : Int) (w : World) (_h : -9223372036854775808 ≤ x ∧ x ≤ 9223372036854775807) : Calls Tryz.prog 18 #[.int .i64 x] w fun e w' => e = .returned (.int .i64 x) ∧ w' = w := by
 go_enter Tryz.func18, Tryz.ntmps18
 go_wp2
 go_ret
 exact ⟨rfl, rfl⟩
theorem Rw.set {w : World} {g : Nat} {zs : List Int} (h : Rw w g zs) (i : Nat) (v : Int) : Rw (w.setCell ⟨g, i, none⟩ (.int .u8 v)) g (zs.set i v) := by
 have := heap_setCell_same w g i _ _ (.int .u8 v) h
 unfold Rw
 rw [this]
 congr 2
 rw [List.map_set]
 simp
theorem Rw.fz {w : World} {g : Nat} {zs : List Int} (h : Rw w g zs) (i : Nat) : w.frozen? ⟨g, i, none⟩ = false := frozen_of_row w g i _ _ h
def fp (x : Int) : List Int := List.replicate 4096 x
theorem fp_len (x : Int) : (fp x).length = 4096 := List.length_replicate
theorem fp_bt {x : Int} (h : 0 ≤ x ∧ x ≤ 255) : Bt (fp x) := by intro z hz; rw [List.eq_of_mem_replicate hz]; exact h
theorem fill_set (x : Int) (k : Nat) (hk : k < 4096) : (List.replicate k x ++ List.replicate (4096 - k) 0).set k x = List.replicate (k + 1) x ++ List.replicate (4096 - (k + 1)) 0 := by
 apply List.ext_getElem?
 intro j
 rw [List.getElem?_set]
 simp only [List.getElem?_append, List.getElem?_replicate, List.length_replicate, List.length_append]
 by_cases e : k = j
 ·subst e
  simp; omega
 ·rw [if_neg e]
  by_cases h1 : j < k
  ·simp [h1, show j < k + 1 by omega]
  ·rw [if_neg h1, if_neg (show ¬ j < k + 1 by omega)]
   congr 1
   apply propext
   constructor <;> intro h <;> omega
set_option maxHeartbeats 2000000 in
set_option maxRecDepth 4000 in
theorem full_any (x : Int) (w : World) : Calls Tryz.prog 7 #[.int .u8 x] w fun e w' => e = .returned (.slice (some ⟨w.heap.size, 0, none⟩) 4096 4096) ∧ Rw w' w.heap.size (fp x) ∧ w.grownBy w' none := by
 obtain ⟨ZZ, hmk, hZZ⟩ := make_zp
 have HZZ := hid_intro hZZ
 clear hZZ
 go_enter Tryz.func7, Tryz.ntmps7
 go_wp2_with fail
 go_loopw [4] (fun si wr => ∃ k : Nat, k ≤ 4096 ∧ si = .int .i64 k ∧ Rw wr w.heap.size (List.replicate k x ++ List.replicate (4096 - k) 0) ∧ w.grownBy wr none) (fun si _ => 4096 - (intOf si).toNat)
 case atStart =>
  refine ⟨0, by omega, rfl, ?_, World.grownBy_alloc _ _ _⟩
  have := heap_alloc_new w (.cells ZZ 5)
  unfold Rw
  rw [this, HZZ.out]
  rfl
 case round =>
  obtain ⟨k, hk, rfl, hr, hg⟩ := hrel
  have hl : (List.replicate k x ++ List.replicate (4096 - k) (0 : Int)).length = 4096 := by rw [List.length_append, List.length_replicate, List.length_replicate]; omega
  by_cases hlt : k < 4096
  ·have hlt' : (k : Int) < 4096 := by omega
   have c0 := hr.cell k (by omega)
   have f0 := hr.fz k
   have HR := hid_intro (hr.set k x)
   have HG := hid_intro (grown_new hg (grown_cell wr w.heap.size k (.int .u8 x)) (Nat.le_refl _))
   clear hr hg hl
   go_wp2
   go_roundw
   case rel => exact ⟨k + 1, by omega, by go_num, by have := HR.out; rw [fill_set x k hlt] at this; exact this, HG.out⟩
   case measure => simp [intOf]; omega
  ·obtain rfl : k = 4096 := by omega
   have HR := hid_intro hr
   have HG := hid_intro hg
   clear hr hg hl
   go_wp2
   go_ret
   have := HR.out
   rw [Nat.sub_self, List.replicate_zero, List.append_nil] at this
   exact ⟨rfl, this, HG.out⟩
def cat (l : List (Nat × List Int)) : List Int := (l.map (·.2)).flatten
theorem cat_snoc (l : List (Nat × List Int)) (p : Nat × List Int) : cat (l ++ [p]) = cat l ++ p.2 := by simp [cat]
set_option maxHeartbeats 4000000 in
set_option maxRecDepth 4000 in
theorem durable_any {w : World} {B : Nat} {F : Nat → Prop} {d : Dd} (hk : Dk w B F d) :
  Calls Tryz.prog 13 #[.pointer (some ⟨B, 0, none⟩)] w fun e w' => ∃ g L C, e = .returned (.slice (some ⟨g, 0, none⟩) L C) ∧ L = 4096 * d.bl.length ∧ w'.ownsRow w.heap.size 5 1 (.slice (some ⟨g, 0, none⟩) L C) L ((cat d.bl).map (Value.int .u8)) ∧ Bx w' B 0 d ∧ w.grownBy w' (some B) := by
 obtain ⟨i0, hi, hz0, hz1, hz2⟩ := info_parts info_u8
 have hb := hk.bx
 have hbl : d.bl.length < 524288 := by have := hk.le; have := hk.cap; have := hk.pg; have := pgs_le d.bl.length d.pl; omega
 have HK := hid_intro hk
 clear hk
 obtain ⟨C, hC⟩ : ∃ C, C = d.bl.length * 4096 := ⟨_, rfl⟩
 have HC := hid_intro hC
 clear hC
 go_enter_defers Tryz.func13, Tryz.ntmps13
 go_wp2_with fail
 refine (lock_b hb).mono ?_
 rintro e w1 ⟨rfl, hb1, hg1⟩
 have hm1 := HK.out.dm.box HK.out.bx hg1
 have c3 := hb1.c3
 obtain ⟨al, cl, ev⟩ := owns_slice hm1.lr
 rw [ev] at c3
 have EV := hid_intro ev
 have B1 := hid_intro hb1
 have M1 := hid_intro hm1
 have G1 := hid_intro hg1
 clear hb1 hm1 hg1 ev hb
 go_wp2_with (at_make; refine wpList_make_own _ rfl _ _ 47 rfl w1.heap.size 5 i0 (.int .u8 0) 1 Tryz.underlying47 hi hz0 hz1 _ _ _ C rfl rfl ?b1 ?b2 ?b3 (Nat.le_refl _) ?_)
 case b1 => rw [HC.out, Int.natCast_mul]; rfl
 case b2 => have := HC.out; rw [hz2]; omega
 case b3 => have := HC.out; unfold maxLen; omega
 intro w0 hown0 hgrow0
 have c3' := (B1.out.kept hgrow0 (by simp)).c3
 rw [EV.out] at c3'
 have O0 := hid_intro hown0
 have G0 := hid_intro hgrow0
 clear hown0 hgrow0 c3
 go_wp2_with fail
 go_loopw [3, 25] (fun so si wr => ∃ k L : Nat, k ≤ d.bl.length ∧ L = 4096 * k ∧ si = .int .i64 k ∧ so = .slice (some ⟨w1.heap.size, 0, none⟩) L C ∧ wr.ownsRow w1.heap.size 5 1 (.slice (some ⟨w1.heap.size, 0, none⟩) L C) L ((cat (d.bl.take k)).map (Value.int .u8)) ∧ w1.grownBy wr none) (fun _ si _ => d.bl.length - (intOf si).toNat)
 case atStart => exact ⟨0, 0, Nat.zero_le _, rfl, rfl, rfl, O0.out, G0.out⟩
 case round =>
  obtain ⟨k, L, hk, hL, rfl, rfl, hown, hg⟩ := hrel
  by_cases hlt : k < d.bl.length
  ·have hlt' : (k : Int) < (d.bl.length : Int) := by omega
   have mR := M1.out.keptN hg
   obtain ⟨gL, capL, curL, hv, _, hgL, hcapL, _⟩ := mR.lr.2.resolve_left (fun e => by have := e.2; omega)
   have hv2 := EV.out
   rw [hv] at hv2
   simp only [Value.slice.injEq] at hv2
   obtain ⟨rfl, _, rfl⟩ := hv2
   have hx : d.bl[k]? = some d.bl[k] := List.getElem?_eq_getElem hlt
   revert hx
   generalize d.bl[k] = x
   intro hx
   have ci : wr.cell? ⟨gL, k, none⟩ = some (.slice (some ⟨x.1, 0, none⟩) 4096 4096) := by
    have := mR.lr
    rw [hv] at this
    rw [this.cellAt k (by omega), List.getElem?_map, hx]
    rfl
   have PB := hid_intro (mR.bp x (List.mem_of_getElem? hx)).byt
   have hxl := (mR.bp x (List.mem_of_getElem? hx)).len
   have HX := hid_intro hx
   have HO := hid_intro hown
   have HG := hid_intro hg
   have hfit : L + 4096 ≤ C := by have := HC.out; omega
   have HL := hid_intro hL
   clear mR hgL hcapL hx hown hg c3' hL
   go_wp2_with (at_builtin; refine wpList_append_fits_any _ rfl _ _ 47 rfl w1.heap.size 5 i0 1 Tryz.underlying47 hi hz1 w1.heap.size L C _ rfl HO.out _ 4096 _ (x.2.map (Value.int .u8)) rfl (by rw [List.length_map, hxl]) PB.out.nil PB.out.cells (ints_oneCell _ _) hfit ?_)
   intro w4 hown4 hgrow4
   have O4 := hid_intro hown4
   have G4 := hid_intro (grown_new HG.out hgrow4 (Nat.le_refl _))
   clear hown4 hgrow4
   go_wp2
   go_roundw
   case rel =>
    refine ⟨k + 1, L + 4096, by omega, ?_, by go_num, rfl, ?_, G4.out⟩
    ·have := HL.out; omega
    ·rw [List.take_add_one, HX.out, Option.toList_some, cat_snoc, List.map_append]
     exact O4.out
   case measure => simp [intOf]; omega
  ·obtain rfl : k = d.bl.length := by omega
   rw [List.take_length] at hown
   have bR := B1.out.kept hg (by simp)
   have HO := hid_intro hown
   have HG := hid_intro hg
   clear hown hg c3'
   go_wp2_with fail
   refine leaves_cons (f := 22) (args := #[.pointer (some ⟨B, 0, none⟩)]) (by simp) (by simp [go_sem]) ?_
   refine (unlock_b .returning bR).mono ?_
   rintro e u' w5 ⟨rfl, rfl, hb5, hg5⟩
   have s1 := G1.out.size
   have hBl := HK.out.dm.low B HK.out.fb
   refine ⟨_, results_tmp rfl _ _ _, _, _, _, rfl, hL, ?_, hb5, grown_trans (grown_trans G1.out (grown_any HG.out)) hg5⟩
   have := HO.out.kept hg5 (.inr (fun e => by have := Option.some.inj e; change w1.heap.size = B at this; omega))
   exact ⟨this.1, this.2.imp id (fun ⟨g, cap, cur, a1, a2, a3⟩ => ⟨g, cap, cur, a1, by omega, a3⟩)⟩
end Go.Proofs.YtedpeggdbedmiaaGreatDoor
namespace Go.Proofs.YtedpeggdbedmiaaGreatDoor
open Go.RowKit Go.MuLone
structure Ds where
 cap : Nat
 left : Nat
 off : Bool
 done : Nat
 reads : Nat
 L : List (List Int)
 Q : List (Nat × List Int)
def Dd.abs (d : Dd) : Ds := ⟨d.cap, d.left, d.off, d.done, d.reads, d.bl.map (·.2), d.pl.map fun p => (p.1, p.2.2)⟩
def Ds.pages (s : Ds) : Nat := s.Q.foldl (fun n q => max n (q.1 + 1)) s.L.length
def Ds.refuse (s : Ds) (i : Int) (n : Nat) : Int := if i < 0 ∨ s.pages < i then 121 else if s.cap ≤ i then 125 else if n ≠ 4096 then 122 else if s.off = true then 123 else 0
def Ds.ans (s : Ds) : Int := if s.left = 1 then 123 else 0
def Ds.spend (s : Ds) : Ds := { s with done := s.done + 1, left := s.left - 1, off := s.left == 1 }
def Ds.put (s : Ds) (i : Nat) (z : List Int) : Ds := { s.spend with Q := s.Q ++ [(i, z)] }
def Ds.sync (s : Ds) : Ds := { s.spend with L := s.Q.foldl (fun L q => landL L q.1 q.2 4096) s.L, Q := [] }
def fateQ (L : List (List Int)) (q : Nat × List Int) (f : Int × Int) : List (List Int) := if f.1 = 1 ∨ f.1 = 2 then landL L q.1 q.2 (rch f.1 f.2) else L
def Ds.crash (s : Ds) (fs : List (Int × Int)) : Ds := { s with L := (s.Q.zip fs).foldl (fun L q => fateQ L q.1 q.2) s.L, Q := [], left := 0, off := false }
def Ds.armed (s : Ds) (k : Int) : Ds := if k < 0 then s else if s.off = true then s else { s with left := k.toNat }
def Ds.arm (s : Ds) (k : Int) : Int := if k < 0 then 124 else if s.off = true then 123 else 0
def Ds.page (s : Ds) (i : Nat) : List Int := ((s.Q.reverse.find? fun q => q.1 == i).map (·.2)).getD (s.L.getD i [])
def Ds.read (s : Ds) : Ds := { s with reads := s.reads + 1 }
def Dz (w : World) (B : Nat) (F : Nat → Prop) (s : Ds) : Prop := ∃ d, Dk w B F d ∧ d.abs = s
def Nf (F : Nat → Prop) (w w' : World) : Nat → Prop := fun k => F k ∨ w.heap.size ≤ k ∧ k < w'.heap.size
theorem abs_pages (d : Dd) : d.abs.pages = pgs d.bl.length d.pl := by
 unfold Ds.pages Dd.abs pgs
 simp only [List.foldl_map, List.length_map]
theorem Dk.pages {w : World} {B : Nat} {F : Nat → Prop} {d : Dd} (h : Dk w B F d) : d.pg = d.abs.pages := by rw [abs_pages]; exact h.pg
theorem Dk.refuse {w : World} {B : Nat} {F : Nat → Prop} {d : Dd} (h : Dk w B F d) (i : Int) (n : Nat) : d.refuse i n = d.abs.refuse i n := by
 unfold Dd.refuse Ds.refuse
 rw [h.pages]
 rfl
theorem Dz.same {w w' : World} {B : Nat} {F : Nat → Prop} {s : Ds} (h : Dz w B F s) (hs : w.heap.size ≤ w'.heap.size) (e : ∀ k, F k → w'.heap[k]? = w.heap[k]?) : Dz w' B F s := by
 obtain ⟨d, h1, h2⟩ := h
 exact ⟨d, h1.same hs e, h2⟩
theorem Dz.keptN {w w' : World} {B : Nat} {F : Nat → Prop} {s : Ds} (h : Dz w B F s) (hg : w.grownBy w' none) : Dz w' B F s := by
 obtain ⟨d, h1, h2⟩ := h
 exact ⟨d, h1.keptN hg, h2⟩
theorem Dz.kept {w w' : World} {B : Nat} {F : Nat → Prop} {s : Ds} {row : Option Nat} (h : Dz w B F s) (hg : w.grownBy w' row) (hn : ∀ k, row = some k → ¬ F k) : Dz w' B F s := by
 obtain ⟨d, h1, h2⟩ := h
 exact ⟨d, h1.kept hg hn, h2⟩
theorem Dz.kp {w w' : World} {B : Nat} {F G : Nat → Prop} {s : Ds} (h : Dz w B F s) (hg : Kp w w' G) (hn : ∀ k, F k → ¬ G k) : Dz w' B F s := by
 obtain ⟨d, h1, h2⟩ := h
 exact ⟨d, h1.kp hg hn, h2⟩
theorem Dz.low {w : World} {B : Nat} {F : Nat → Prop} {s : Ds} (h : Dz w B F s) : ∀ k, F k → k < w.heap.size := by
 obtain ⟨d, h1, h2⟩ := h
 exact h1.dm.low
theorem Dz.fb {w : World} {B : Nat} {F : Nat → Prop} {s : Ds} (h : Dz w B F s) : F B := by
 obtain ⟨d, h1, h2⟩ := h
 exact h1.fb
theorem Dz.cap {w : World} {B : Nat} {F : Nat → Prop} {s : Ds} (h : Dz w B F s) : s.cap < 524288 := by
 obtain ⟨d, h1, rfl⟩ := h
 exact h1.cap
theorem Dz.le {w : World} {B : Nat} {F : Nat → Prop} {s : Ds} (h : Dz w B F s) : s.pages ≤ s.cap := by
 obtain ⟨d, h1, rfl⟩ := h
 rw [← h1.pages]; exact h1.le
theorem Dk.asked {w w' : World} {B : Nat} {F : Nat → Prop} {d : Dd} {s : Ds} (h : Dk w B F d) (e : d.abs = s) (hb : Bx w' B 0 d) (hg : w.grownBy w' (some B)) : Dz w' B F s ∧ Kp w w' F :=
 ⟨⟨d, h.box hb hg, e⟩, Kp.of hg fun k e => by rw [← Option.some.inj e]; exact h.fb⟩
theorem dz_new (c : Nat) (w : World) (h : 2 ≤ c) (h2 : c < 524288) : Calls Tryz.prog 5 #[.int .i64 c] w fun e w' =>
  ∃ B, e = .returned (.pointer (some ⟨B, 0, none⟩)) ∧ w.grownBy w' none ∧ Dz w' B (fun k => w.heap.size ≤ k ∧ k < w'.heap.size) ⟨c, 0, false, 0, 0, [], []⟩ := by
 refine (new_b c w h h2).mono ?_
 rintro e w' ⟨B, rfl, hg, hk⟩
 exact ⟨B, rfl, hg, _, hk, rfl⟩
theorem dz_pages {w : World} {B : Nat} {F : Nat → Prop} {s : Ds} (h : Dz w B F s) : Calls Tryz.prog 20 #[.pointer (some ⟨B, 0, none⟩)] w fun e w' => e = .returned (.int .i64 s.pages) ∧ Dz w' B F s ∧ Kp w w' F := by
 obtain ⟨d, hk, rfl⟩ := h
 refine (pages_b hk.bx).mono ?_
 rintro e w' ⟨rfl, h1, h2⟩
 exact ⟨by rw [hk.pages], hk.asked rfl h1 h2⟩
theorem dz_arm {w : World} {B : Nat} {F : Nat → Prop} {s : Ds} (h : Dz w B F s) (k : Int) : Calls Tryz.prog 17 #[.pointer (some ⟨B, 0, none⟩), .int .i64 k] w fun e w' => e = .returned (.int .i64 (s.arm k)) ∧ Dz w' B F (s.armed k) ∧ Kp w w' F := by
 obtain ⟨d, hk, rfl⟩ := h
 refine (arm_b hk.bx k).mono ?_
 rintro e w' ⟨rfl, h1, h2⟩
 have hm := hk.dm.box hk.bx h2
 refine ⟨rfl, ⟨d.armed k, ?_, ?_⟩, Kp.of h2 fun k e => by rw [← Option.some.inj e]; exact hk.fb⟩
 ·unfold Dd.armed at h1 ⊢
  split
  ·rename_i e; rw [if_pos e] at h1; exact hk.box h1 h2
  ·rename_i e
   rw [if_neg e] at h1
   split
   ·rename_i e; rw [if_pos e] at h1; exact hk.box h1 h2
   ·rename_i e
    rw [if_neg e] at h1
    exact ⟨h1, hm.scal rfl rfl rfl rfl rfl (Nat.le_refl _), hk.fb, hk.pg, hk.cap, hk.le, hk.gap⟩
 ·unfold Dd.armed Ds.armed
  split
  ·rfl
  ·change Dd.abs (if d.off = true then d else _) = if d.off = true then _ else _
   split <;> rfl
theorem dz_write_no {w : World} {B : Nat} {F : Nat → Prop} {s : Ds} (h : Dz w B F s) (i : Int) (ao : Option Addr) (n c : Nat) (hr : s.refuse i n ≠ 0) : Calls Tryz.prog 6 #[.pointer (some ⟨B, 0, none⟩), .int .i64 i, .slice ao n c] w fun e w' => e = .returned (.int .i64 (s.refuse i n)) ∧ Dz w' B F s ∧ Kp w w' F := by
 obtain ⟨d, hk, rfl⟩ := h
 rw [← hk.refuse] at hr ⊢
 refine (write_no hk.bx i ao n c hr).mono ?_
 rintro e w' ⟨rfl, h1, h2⟩
 exact ⟨rfl, hk.asked rfl h1 h2⟩
theorem dz_write {w : World} {B : Nat} {F : Nat → Prop} {s : Ds} (h : Dz w B F s) (i : Nat) (ao : Option Addr) (c : Nat) (z : List Int) (hz : Byt w ao 4096 c z) (ha : ∀ ad, ao = some ad → ¬ F ad.block) (bz : Bt z) (hr : s.refuse i 4096 = 0) (hd : s.done < 1099511627776) (hl : s.left < 9223372036854775808) :
  Calls Tryz.prog 6 #[.pointer (some ⟨B, 0, none⟩), .int .i64 i, .slice ao 4096 c] w fun e w' => e = .returned (.int .i64 s.ans) ∧ Dz w' B (Nf F w w') (s.put i z) ∧ Kp w w' F := by
 obtain ⟨d, hk, rfl⟩ := h
 rw [← hk.refuse] at hr
 refine (write_ok hk i ao c z hz ha bz hr hd hl).mono ?_
 rintro e w' ⟨g, v, rfl, h1, h2⟩
 refine ⟨rfl, ⟨_, h1, ?_⟩, h2⟩
 simp [Dd.abs, Dd.put, Ds.put, Dd.spend, Ds.spend]
theorem dz_sync_fail {w : World} {B : Nat} {F : Nat → Prop} {s : Ds} (h : Dz w B F s) (ho : s.off = false) (hl : s.left = 1) (hd : s.done < 1099511627776) : Calls Tryz.prog 8 #[.pointer (some ⟨B, 0, none⟩)] w fun e w' => e = .returned (.int .i64 123) ∧ Dz w' B F s.spend ∧ Kp w w' F := by
 obtain ⟨d, hk, rfl⟩ := h
 refine (sync_fail hk.bx ho hl hd).mono ?_
 rintro e w' ⟨rfl, h1, h2⟩
 have hm := hk.dm.box hk.bx h2
 exact ⟨rfl, ⟨d.spend, ⟨h1, hm.scal rfl rfl rfl rfl rfl (Nat.le_succ _), hk.fb, hk.pg, hk.cap, hk.le, hk.gap⟩, rfl⟩, Kp.of h2 fun k e => by rw [← Option.some.inj e]; exact hk.fb⟩
theorem dz_sync {w : World} {B : Nat} {F : Nat → Prop} {s : Ds} (h : Dz w B F s) (ho : s.off = false) (hl : s.left ≠ 1) (hd : s.done < 1099511627776) (hl2 : s.left < 9223372036854775808) : Calls Tryz.prog 8 #[.pointer (some ⟨B, 0, none⟩)] w fun e w' => e = .returned (.int .i64 0) ∧ Dz w' B (Nf F w w') s.sync ∧ Kp w w' F := by
 obtain ⟨d, hk, rfl⟩ := h
 refine (sync_ok hk ho hl hd hl2).mono ?_
 rintro e w' ⟨rfl, v, bl, h1, h2, h3⟩
 refine ⟨rfl, ⟨_, h1, ?_⟩, h2⟩
 have e2 : landA (d.bl.map (·.2)) d.pl = (d.pl.map fun p => (p.1, p.2.2)).foldl (fun L q => landL L q.1 q.2 4096) (d.bl.map (·.2)) := by
  unfold landA
  rw [List.foldl_map]
 rw [e2] at h3
 simp [Dd.abs, Dd.sync, Ds.sync, Dd.spend, Ds.spend, h3]
theorem dz_crash {w : World} {B : Nat} {F : Nat → Prop} {s : Ds} (h : Dz w B F s) (ao : Option Addr) (fn fc : Nat) (fs : List (Int × Int)) (hF : Fl w ao fs) (hfl : fs.length = fn) (hfn : fn ≤ fc) (hfc : fc ≤ 9223372036854775807) (hfz : ∀ b off, ao = some ⟨b, off, none⟩ → ¬ F b) (hd : s.done < 1099511627776) :
  Calls Tryz.prog 19 #[.pointer (some ⟨B, 0, none⟩), .slice ao fn fc] w fun e w' => e = .returned (.tuple #[]) ∧ Dz w' B (Nf F w w') (s.crash fs) ∧ Kp w w' F := by
 obtain ⟨d, hk, rfl⟩ := h
 refine (crash_any hk ao fn fc fs hF hfl hfn hfc hfz hd).mono ?_
 rintro e w' ⟨rfl, v, bl, h1, h2, h3⟩
 refine ⟨rfl, ⟨_, h1, ?_⟩, h2⟩
 have e2 : landF (d.bl.map (·.2)) (d.pl.zip fs) = ((d.pl.map fun p => (p.1, p.2.2)).zip fs).foldl (fun L q => fateQ L q.1 q.2) (d.bl.map (·.2)) := by
  unfold landF
  rw [List.zip_map_left, List.foldl_map]
  rfl
 rw [e2] at h3
 simp [Dd.abs, Dd.crash, Ds.crash, h3]
theorem dz_read_no {w : World} {B : Nat} {F : Nat → Prop} {s : Ds} (h : Dz w B F s) (i : Int) (hi : i < 0 ∨ s.pages ≤ i) : Calls Tryz.prog 9 #[.pointer (some ⟨B, 0, none⟩), .int .i64 i] w fun e w' => e = .returned (.tuple #[.slice none 0 0, .int .i64 121]) ∧ Dz w' B F s ∧ Kp w w' F := by
 obtain ⟨d, hk, rfl⟩ := h
 refine (read_no hk.bx i (by rw [hk.pages]; exact hi)).mono ?_
 rintro e w' ⟨rfl, h1, h2⟩
 exact ⟨rfl, hk.asked rfl h1 h2⟩
theorem abs_page_some {d : Dd} {i : Nat} {p : Nat × Nat × List Int} (h : dat d.pl i = some p) : d.abs.page i = p.2.2 := by
 unfold Ds.page Dd.abs
 unfold dat at h
 simp only [← List.map_reverse, List.find?_map]
 have e : (fun q : Nat × List Int => q.1 == i) ∘ (fun p : Nat × Nat × List Int => (p.1, p.2.2)) = fun p => p.1 == i := rfl
 rw [e, h]
 rfl
theorem abs_page_none {d : Dd} {i : Nat} {x : Nat × List Int} (h : dat d.pl i = none) (hx : d.bl[i]? = some x) : d.abs.page i = x.2 := by
 unfold Ds.page Dd.abs
 unfold dat at h
 simp only [← List.map_reverse, List.find?_map]
 have e : (fun q : Nat × List Int => q.1 == i) ∘ (fun p : Nat × Nat × List Int => (p.1, p.2.2)) = fun p => p.1 == i := rfl
 rw [e, h]
 simp [List.getD, hx]
theorem dz_read {w : World} {B : Nat} {F : Nat → Prop} {s : Ds} (h : Dz w B F s) (i : Nat) (hi : i < s.pages) (ho : s.off = false) (hr : s.reads < 4611686018427387904) : Calls Tryz.prog 9 #[.pointer (some ⟨B, 0, none⟩), .int .i64 i] w fun e w' => ∃ g, e = .returned (.tuple #[.slice (some ⟨g, 0, none⟩) 4096 4096, .int .i64 0]) ∧ Rw w' g (s.page i) ∧ w.heap.size ≤ g ∧ (s.page i).length = 4096 ∧ Bt (s.page i) ∧ Dz w' B F s.read ∧ Kp w w' F := by
 obtain ⟨d, hk, rfl⟩ := h
 rw [← hk.pages] at hi
 cases hp : dat d.pl i with
 | some p =>
  refine (read_pend hk i hi ho hr p hp).mono ?_
  rintro e w' ⟨g, rfl, h1, h2, h3, h4⟩
  rw [abs_page_some hp]
  have pb := (hk.dm.pp p (dat_mem hp).1).1
  exact ⟨g, rfl, h1, h2, pb.len, pb.bt, ⟨_, hk.read h3 h4, rfl⟩, Kp.of h4 fun k e => by rw [← Option.some.inj e]; exact hk.fb⟩
 | none =>
  refine (read_last hk i hi ho hr hp).mono ?_
  rintro e w' ⟨g, x, hx, rfl, h1, h2, h3, h4⟩
  rw [abs_page_none hp hx]
  have pb := hk.dm.bp x (List.mem_of_getElem? hx)
  exact ⟨g, rfl, h1, h2, pb.len, pb.bt, ⟨_, hk.read h3 h4, rfl⟩, Kp.of h4 fun k e => by rw [← Option.some.inj e]; exact hk.fb⟩
theorem dz_durable {w : World} {B : Nat} {F : Nat → Prop} {s : Ds} (h : Dz w B F s) : Calls Tryz.prog 13 #[.pointer (some ⟨B, 0, none⟩)] w fun e w' => ∃ g L C, e = .returned (.slice (some ⟨g, 0, none⟩) L C) ∧ L = 4096 * s.L.length ∧ w'.ownsRow w.heap.size 5 1 (.slice (some ⟨g, 0, none⟩) L C) L (s.L.flatten.map (Value.int .u8)) ∧ Dz w' B F s ∧ Kp w w' F := by
 obtain ⟨d, hk, rfl⟩ := h
 refine (durable_any hk).mono ?_
 rintro e w' ⟨g, L, C, rfl, h1, h2, h3, h4⟩
 exact ⟨g, L, C, rfl, by rw [h1]; simp [Dd.abs], h2, hk.asked rfl h3 h4⟩
end Go.Proofs.YtedpeggdbedmiaaGreatDoor
namespace Go.Proofs.YtedpeggdbedmiaaGreatDoor
open Go.RowKit Go.MuLone
structure Wl (w w' : World) (g : Nat) (ql : List (Nat × Nat × List Int)) : Prop where
 row : w'.heap[g]? = some (.cells (wcells ql).toArray 78 (0, 0))
 ge : w.heap.size ≤ g
 rw : ∀ p ∈ ql, Rw w' p.2.1 p.2.2 ∧ g < p.2.1 ∧ p.2.2.length = 4096 ∧ Bt p.2.2
 pw : ql.Pairwise fun p q => p.2.1 < q.2.1
structure Wk (wr : World) (g n : Nat) (ql : List (Nat × Nat × List Int)) : Prop where
 row : ∃ cur : Array Value, wr.heap[g]? = some (.cells cur 78 (0, 0)) ∧ cur.size = n * 2 ∧ ∀ j p, ql[j]? = some p → cur[j * 2]? = some (.int .i64 p.1) ∧ cur[j * 2 + 1]? = some (pv p.2.1)
 rw : ∀ p ∈ ql, Rw wr p.2.1 p.2.2 ∧ g < p.2.1 ∧ p.2.2.length = 4096 ∧ Bt p.2.2
 pw : ql.Pairwise fun p q => p.2.1 < q.2.1
theorem Wk.next {wr W2 : World} {g n no b : Nat} {z : List Int} {ql : List (Nat × Nat × List Int)} (h : Wk wr g n ql) (hn : ql.length < n) (hg : wr.grownBy W2 none) (hb : wr.heap.size ≤ b) (hr : Rw W2 b z) (hz : z.length = 4096) (bz : Bt z) :
  Wk ((W2.setCell ⟨g, ql.length * 2, none⟩ (.int .i64 no)).setCell ⟨g, ql.length * 2 + 1, none⟩ (pv b)) g n (ql ++ [(no, b, z)]) := by
 obtain ⟨cur, h1, h2, h3⟩ := h.row
 have hgl := (Array.getElem?_eq_some_iff.1 h1).1
 have k1 : W2.heap[g]? = some (.cells cur 78 (0, 0)) := (hg.block g hgl (by simp)).trans h1
 have k2 := heap_setCell_same W2 g (ql.length * 2) _ _ (.int .i64 no) k1
 have k3 := heap_setCell_same _ g (ql.length * 2 + 1) _ _ (pv b) k2
 have gg : W2.grownBy ((W2.setCell ⟨g, ql.length * 2, none⟩ (.int .i64 no)).setCell ⟨g, ql.length * 2 + 1, none⟩ (pv b)) (some g) := grown_trans (grown_cell _ _ _ _) (grown_cell _ _ _ _)
 refine ⟨⟨_, k3, by simp [h2], fun j p hj => ?_⟩, fun p hp => ?_, ?_⟩
 ·rw [Array.getElem?_setIfInBounds, Array.getElem?_setIfInBounds, Array.getElem?_setIfInBounds, Array.getElem?_setIfInBounds]
  by_cases hjl : j < ql.length
  ·rw [List.getElem?_append_left hjl] at hj
   obtain ⟨a, b⟩ := h3 j p hj
   rw [if_neg (by omega), if_neg (by omega), if_neg (by omega), if_neg (by omega)]
   exact ⟨a, b⟩
  ·have hj2 : j < (ql ++ [(no, b, z)]).length := (List.getElem?_eq_some_iff.1 hj).1
   rw [List.length_append, List.length_singleton] at hj2
   obtain rfl : j = ql.length := by omega
   simp at hj
   subst hj
   rw [if_neg (by omega), if_pos rfl, if_pos (by omega), if_pos rfl, if_pos (by rw [Array.size_setIfInBounds]; omega)]
   exact ⟨rfl, rfl⟩
 ·rcases List.mem_append.1 hp with x | x
  ·obtain ⟨a1, a2, a3⟩ := h.rw p x
   exact ⟨(a1.keptN hg).kept gg (fun e => by have := Option.some.inj e; omega), a2, a3⟩
  ·simp at x
   subst x
   exact ⟨hr.kept gg (fun e => by have := Option.some.inj e; omega), by show g < b; omega, hz, bz⟩
 ·rw [List.pairwise_append]
  refine ⟨h.pw, by simp, fun p hp q hq => ?_⟩
  simp at hq
  subst hq
  have e := (h.rw p hp).1.lt
  exact Nat.lt_of_lt_of_le e hb
theorem Wk.fin {wr : World} {g n : Nat} {ql : List (Nat × Nat × List Int)} (h : Wk wr g n ql) (hn : ql.length = n) : wr.heap[g]? = some (.cells (wcells ql).toArray 78 (0, 0)) := by
 obtain ⟨cur, h1, h2, h3⟩ := h.row
 rw [h1]
 congr 2
 apply Array.ext
 ·simp [wcells_len, h2, hn]
 ·intro i hi hj
  have hjl : i / 2 < ql.length := by omega
  obtain ⟨p, hp⟩ : ∃ p, ql[i / 2]? = some p := ⟨_, List.getElem?_eq_getElem hjl⟩
  obtain ⟨a, b⟩ := h3 _ _ hp
  obtain ⟨c, d⟩ := wcells_at _ _ _ hp
  have e : cur[i]? = (wcells ql)[i]? := by
   rcases Nat.mod_two_eq_zero_or_one i with m | m
   ·have e : i = i / 2 * 2 := by omega
    have e2 : i = 2 * (i / 2) := by omega
    rw [show cur[i]? = cur[i / 2 * 2]? from congrArg (cur[·]?) e, show (wcells ql)[i]? = (wcells ql)[2 * (i / 2)]? from congrArg ((wcells ql)[·]?) e2, a, c]
   ·have e : i = i / 2 * 2 + 1 := by omega
    have e2 : i = 2 * (i / 2) + 1 := by omega
    rw [show cur[i]? = cur[i / 2 * 2 + 1]? from congrArg (cur[·]?) e, show (wcells ql)[i]? = (wcells ql)[2 * (i / 2) + 1]? from congrArg ((wcells ql)[·]?) e2, b, d]
  rw [Array.getElem?_eq_getElem hi] at e
  have e3 : (wcells ql).toArray[i]? = some ((wcells ql).toArray[i]) := Array.getElem?_eq_getElem hj
  rw [List.getElem?_toArray, ← e] at e3
  exact Option.some.inj e3
theorem Wk.cell {wr W : World} {g n : Nat} {ql : List (Nat × Nat × List Int)} (h : Wk wr g n ql) (hg : wr.grownBy W none) (i : Nat) (hi : i < n * 2) : (∃ v, W.cell? ⟨g, i, none⟩ = some v) ∧ W.frozen? ⟨g, i, none⟩ = false := by
 obtain ⟨cur, h1, h2, h3⟩ := h.row
 have hgl := (Array.getElem?_eq_some_iff.1 h1).1
 have k1 : W.heap[g]? = some (.cells cur 78 (0, 0)) := (hg.block g hgl (by simp)).trans h1
 exact ⟨⟨cur[i]'(by omega), by rw [cell_of_row W g i _ _ _ k1]; exact Array.getElem?_eq_getElem (by omega)⟩, frozen_of_row W g i _ _ k1⟩
set_option maxHeartbeats 4000000 in
set_option maxRecDepth 4000 in
theorem pending_any {w : World} {B : Nat} {F : Nat → Prop} {d : Dd} (hk : Dk w B F d) (hd : d.done < 1099511627776) :
  Calls Tryz.prog 12 #[.pointer (some ⟨B, 0, none⟩)] w fun e w' => ∃ g ql, e = .returned (.slice (some ⟨g, 0, none⟩) d.pl.length d.pl.length) ∧ Wl w w' g ql ∧ (ql.map fun p => (p.1, p.2.2)) = d.pl.map (fun p => (p.1, p.2.2)) ∧ Bx w' B 0 d ∧ w.grownBy w' (some B) := by
 obtain ⟨i0, hi, hz0, hz1, hz2⟩ := info_parts info_write
 have hb := hk.bx
 have hpl : d.pl.length < 1099511627776 := Nat.lt_of_le_of_lt hk.dm.pc hd
 have HK := hid_intro hk
 clear hk
 go_enter_defers Tryz.func12, Tryz.ntmps12
 go_wp2_with fail
 refine (lock_b hb).mono ?_
 rintro e w1 ⟨rfl, hb1, hg1⟩
 have hm1 := HK.out.dm.box HK.out.bx hg1
 have c4 := hb1.c4
 obtain ⟨al, cl, ev⟩ := owns_slice hm1.pr
 rw [ev] at c4
 have EV := hid_intro ev
 have B1 := hid_intro hb1
 have M1 := hid_intro hm1
 have G1 := hid_intro hg1
 clear hb1 hm1 hg1 ev hb
 go_wp2_with (at_make; refine wpList_make_full _ rfl _ _ 54 rfl w1.heap.size 78 i0 (.agg #[.int .i64 0, .slice none 0 0]) 2 Tryz.underlying54 hi hz0 hz1 _ _ _ _ d.pl.length rfl rfl rfl rfl ?b2 ?b3 (Nat.le_refl _) ?_)
 case b2 => rw [hz2]; omega
 case b3 => unfold maxLen; omega
 intro w0 hown0 hgrow0
 have K0 : Hid (Wk w0 w1.heap.size d.pl.length []) := by
  rcases hown0 with ⟨hl, ⟨h0, _⟩ | ⟨g', cap, cur, hv, _, hg, _, _, hs, ht⟩⟩
  ·cases h0
  ·injection hv with e1 e2 e3
   injection e1 with e1
   injection e1 with e4
   subst e4 e3
   exact ⟨⟨cur, hg, hs, fun j p hj => by simp at hj⟩, (fun p hp => by cases hp), List.Pairwise.nil⟩
 have c4' := (B1.out.kept hgrow0 (by simp)).c4
 rw [EV.out] at c4'
 have G0 := hid_intro hgrow0
 clear hown0 hgrow0 c4
 go_wp2_with fail
 go_loopw [24] (fun si wr => ∃ k ql, k ≤ d.pl.length ∧ si = .int .i64 (k : Nat) ∧ ql.length = k ∧ Wk wr w1.heap.size d.pl.length ql ∧ (ql.map fun p => (p.1, p.2.2)) = (d.pl.take k).map (fun p => (p.1, p.2.2)) ∧ w1.grownBy wr none) (fun si _ => d.pl.length - (intOf si).toNat)
 case atStart => exact ⟨0, [], Nat.zero_le _, rfl, rfl, K0.out, rfl, G0.out⟩
 case round =>
  obtain ⟨k, ql, hk, rfl, hql, hwk, hab, hg⟩ := hrel
  by_cases hlt : k < d.pl.length
  ·have hlt' : (k : Int) < (d.pl.length : Int) := by omega
   have mR := M1.out.keptN hg
   obtain ⟨gP, capP, curP, hv, _, hgP, hcap, _⟩ := mR.pr.2.resolve_left (fun e => by have := e.2; omega)
   have hv2 := EV.out
   rw [hv] at hv2
   simp only [Value.slice.injEq] at hv2
   obtain ⟨rfl, _, rfl⟩ := hv2
   have hx : d.pl[k]? = some d.pl[k] := List.getElem?_eq_getElem hlt
   revert hx
   generalize d.pl[k] = x
   intro hx
   obtain ⟨no, h, z⟩ := x
   have own := mR.pr
   rw [hv] at own
   have q0 : wr.cell? ⟨gP, k * 2, none⟩ = some (.int .i64 no) := by
    rw [own.cellAt (k * 2) (by omega), Nat.mul_comm]; exact (wcells_at _ _ _ hx).1
   have q1 : wr.cell? ⟨gP, k * 2 + 1, none⟩ = some (.slice (some ⟨h, 0, none⟩) 4096 4096) := by
    rw [own.cellAt (k * 2 + 1) (by omega), Nat.mul_comm]; exact (wcells_at _ _ _ hx).2
   have PB := hid_intro (mR.pp _ (List.mem_of_getElem? hx)).1
   have HX := hid_intro hx
   have HG := hid_intro hg
   have HWK := hid_intro hwk
   have HAB := hid_intro hab
   clear mR hgP hcap hx hg c4' own hab hwk
   have HT : Hid (∀ W : World, wr.grownBy W none → Calls Tryz.prog 24 #[.slice (some ⟨h, 0, none⟩) 4096 4096] W fun en w' => en = .returned (.slice (some ⟨W.heap.size, 0, none⟩) 4096 4096) ∧ Rw w' W.heap.size z ∧ W.grownBy w' none) := fun W hW => twin_any _ _ _ _ W (PB.out.byt.keptN hW) (by omega)
   go_wp2_with fail
   refine wp_region_noPanic ?_
   go_region_with (go_at_call 24; refine (HT.out _ (grown_trans (World.grownBy_alloc wr _ none) ((Qt.refl _).drew.grown none))).mono ?_; rintro en w3 ⟨rfl, hr3, hg3⟩; have G3 := hid_intro (grown_trans (grown_trans (World.grownBy_alloc wr (.cells #[.int .i64 no, .slice (some ⟨h, 0, none⟩) 4096 4096] 78) none) ((Qt.refl _).drew.grown none)) hg3); have R3 := hid_intro hr3; have y0 : w3.cell? ⟨wr.heap.size, 0, none⟩ = some (.int .i64 no) := hg3.cell (cell_of_row _ _ 0 _ _ _ (heap_alloc_new wr _)) (by simp); obtain ⟨⟨v0, x0⟩, f0⟩ := HWK.out.cell G3.out (k * 2) (by omega); obtain ⟨⟨v1, x1⟩, f1⟩ := HWK.out.cell G3.out (k * 2 + 1) (by omega); clear hr3 hg3)
   all_goals
    refine NoPanic.normal ?_
    go_wp2
    go_roundw
    case rel =>
     refine ⟨k + 1, ql ++ [(no, wr.heap.size + 1, z)], by omega, by go_num, by rw [List.length_append, hql]; rfl, ?_, ?_, ?_⟩
     ·have r3 := R3.out
      have := HWK.out.next (no := no) (by omega) G3.out (Nat.le_succ _) (show Rw w3 (wr.heap.size + 1) z by simpa using r3) PB.out.len PB.out.bt
      rw [hql] at this
      exact this
     ·rw [List.map_append, HAB.out, List.take_add_one, HX.out, Option.toList_some, List.map_append]
      rfl
     ·exact grown_new (grown_new (grown_trans HG.out G3.out) (grown_cell _ _ _ _) (Nat.le_refl _)) (grown_cell _ _ _ _) (Nat.le_refl _)
    case measure => simp [intOf]; omega
  ·obtain rfl : k = d.pl.length := by omega
   rw [List.take_length] at hab
   have bR := B1.out.kept hg (by simp)
   have HG := hid_intro hg
   have HWK := hid_intro hwk
   have HAB := hid_intro hab
   clear hg hwk hab c4'
   go_wp2_with fail
   refine leaves_cons (f := 22) (args := #[.pointer (some ⟨B, 0, none⟩)]) (by simp) (by simp [go_sem]) ?_
   refine (unlock_b .returning bR).mono ?_
   rintro e u' w5 ⟨rfl, rfl, hb5, hg5⟩
   have s1 := G1.out.size
   have hBl := HK.out.dm.low B HK.out.fb
   refine ⟨_, results_tmp rfl _ _ _, _, ql, rfl, ⟨?_, s1, fun p hp => ?_, HWK.out.pw⟩, HAB.out, hb5, grown_trans (grown_trans G1.out (grown_any HG.out)) hg5⟩
   ·have := HWK.out.fin hql
    exact (hg5.block _ (Array.getElem?_eq_some_iff.1 this).1 (fun e => by have := Option.some.inj e; omega)).trans this
   ·obtain ⟨a1, a2, a3⟩ := HWK.out.rw p hp
    exact ⟨a1.kept hg5 (fun e => by have := Option.some.inj e; omega), a2, a3⟩
theorem dz_pending {w : World} {B : Nat} {F : Nat → Prop} {s : Ds} (h : Dz w B F s) (hd : s.done < 1099511627776) : Calls Tryz.prog 12 #[.pointer (some ⟨B, 0, none⟩)] w fun e w' => ∃ g ql, e = .returned (.slice (some ⟨g, 0, none⟩) s.Q.length s.Q.length) ∧ Wl w w' g ql ∧ (ql.map fun p => (p.1, p.2.2)) = s.Q ∧ Dz w' B F s ∧ Kp w w' F := by
 obtain ⟨d, hk, rfl⟩ := h
 refine (pending_any hk hd).mono ?_
 rintro e w' ⟨g, ql, rfl, h1, h2, h3, h4⟩
 exact ⟨g, ql, by simp [Dd.abs], h1, h2, hk.asked rfl h3 h4⟩
end Go.Proofs.YtedpeggdbedmiaaGreatDoor
namespace Go.Proofs.YtedpeggdbedmiaaGreatDoor
open Go.RowKit Go.MuLone
def ab12 (p : Nat × Nat × List Int) : Nat × List Int := (p.1, p.2.2)
set_option maxHeartbeats 1000000 in
theorem sameWrite_nil (no : Int) (w : World) : Calls Tryz.prog 145 #[.agg #[.int .i64 no, .slice none 0 0], .agg #[.int .i64 no, .slice none 0 0]] w fun e w' => e = .returned (.bool true) ∧ w.grownBy w' none := by
 have gA : w.grownBy ((w.alloc (.cells #[.int .i64 no, .slice none 0 0] 78)).alloc (.cells #[.int .i64 no, .slice none 0 0] 78)) none := grown_trans (World.grownBy_alloc _ _ _) (World.grownBy_alloc _ _ _)
 have GA := hid_intro gA
 clear gA
 go_enter Tryz.func145, Tryz.ntmps145
 go_wp2_with fail
 refine (same_yes none none 0 0 0 0 [] [] _ (Byt.empty _) (Byt.empty _) rfl).mono ?_
 rintro e w1 ⟨rfl, rfl⟩
 go_wp2
 go_ret
 exact ⟨rfl, GA.out⟩
set_option maxHeartbeats 1000000 in
theorem sameWrite_yes (no g1 g2 : Nat) (z : List Int) (w : World) (h1 : Byt w (some ⟨g1, 0, none⟩) 4096 4096 z) (h2 : Byt w (some ⟨g2, 0, none⟩) 4096 4096 z) : Calls Tryz.prog 145 #[.agg #[.int .i64 no, .slice (some ⟨g1, 0, none⟩) 4096 4096], .agg #[.int .i64 no, .slice (some ⟨g2, 0, none⟩) 4096 4096]] w fun e w' => e = .returned (.bool true) ∧ w.grownBy w' none := by
 have gA : w.grownBy ((w.alloc (.cells #[.int .i64 no, .slice (some ⟨g1, 0, none⟩) 4096 4096] 78)).alloc (.cells #[.int .i64 no, .slice (some ⟨g2, 0, none⟩) 4096 4096] 78)) none := grown_trans (World.grownBy_alloc _ _ _) (World.grownBy_alloc _ _ _)
 have HA := hid_intro (h1.keptN gA)
 have HB := hid_intro (h2.keptN gA)
 have GA := hid_intro gA
 clear h1 h2 gA
 go_enter Tryz.func145, Tryz.ntmps145
 go_wp2_with fail
 refine (same_yes _ _ _ _ _ _ z z _ HA.out HB.out rfl).mono ?_
 rintro e w1 ⟨rfl, rfl⟩
 go_wp2
 go_ret
 exact ⟨rfl, GA.out⟩
structure Wc (w : World) (ao : Option Addr) (ql : List (Nat × Nat × List Int)) : Prop where
 ats : ∀ j p, ql[j]? = some p → ∃ b, ao = some ⟨b, 0, none⟩ ∧ w.cell? ⟨b, j * 2, none⟩ = some (.int .i64 p.1) ∧ w.cell? ⟨b, j * 2 + 1, none⟩ = some (.slice (some ⟨p.2.1, 0, none⟩) 4096 4096) ∧ Byt w (some ⟨p.2.1, 0, none⟩) 4096 4096 p.2.2
theorem Wc.keptN {w w' : World} {ao : Option Addr} {ql : List (Nat × Nat × List Int)} (h : Wc w ao ql) (hg : w.grownBy w' none) : Wc w' ao ql := by
 refine ⟨fun j p hj => ?_⟩
 obtain ⟨b, e, h1, h2, h3⟩ := h.ats j p hj
 exact ⟨b, e, hg.cell h1 (by simp), hg.cell h2 (by simp), h3.keptN hg⟩
set_option maxHeartbeats 4000000 in
set_option maxRecDepth 4000 in
theorem sameWrites_yes (ao bo : Option Addr) (n c1 c2 : Nat) (ql rl : List (Nat × Nat × List Int)) (w : World) (ha : Wc w ao ql) (hb : Wc w bo rl) (hq : ql.length = n) (e : ql.map ab12 = rl.map ab12) (hn : n < 1099511627776) : Calls Tryz.prog 105 #[.slice ao n c1, .slice bo n c2] w fun e w' => e = .returned (.bool true) ∧ w.grownBy w' none := by
 have hrl : rl.length = n := by have := congrArg List.length e; rw [List.length_map, List.length_map] at this; omega
 have HA := hid_intro ha
 have HB := hid_intro hb
 have HE := hid_intro e
 have HQ := hid_intro hq
 have HR := hid_intro hrl
 clear ha hb e hq hrl
 go_enter Tryz.func105, Tryz.ntmps105
 go_wp2_with fail
 go_loopw [5] (fun si wr => ∃ k : Nat, k ≤ n ∧ si = .int .i64 (k : Int) ∧ w.grownBy wr none) (fun si _ => n - (intOf si).toNat)
 case atStart => exact ⟨0, Nat.zero_le _, rfl, World.grownBy.refl _ _⟩
 case round =>
  obtain ⟨k, hk, rfl, hg⟩ := hrel
  by_cases hlt : k < n
  ·have hlt' : (k : Int) < (n : Int) := by omega
   obtain ⟨p, h1⟩ : ∃ p, ql[k]? = some p := ⟨_, List.getElem?_eq_getElem (by have := HQ.out; omega)⟩
   obtain ⟨q, h2⟩ : ∃ q, rl[k]? = some q := ⟨_, List.getElem?_eq_getElem (by have := HR.out; omega)⟩
   obtain ⟨no, g1, z⟩ := p
   obtain ⟨no2, g2, z2⟩ := q
   have he : (ql.map ab12)[k]? = (rl.map ab12)[k]? := by rw [HE.out]
   rw [List.getElem?_map, List.getElem?_map, h1, h2] at he
   simp only [Option.map_some, Option.some.injEq, ab12, Prod.mk.injEq] at he
   obtain ⟨rfl, rfl⟩ := he
   obtain ⟨b1, rfl, x1, x2, x3⟩ := (HA.out.keptN hg).ats k _ h1
   obtain ⟨b2, rfl, y1, y2, y3⟩ := (HB.out.keptN hg).ats k _ h2
   simp only at x1 x2 y1 y2
   have HS : Hid (∀ W : World, wr.grownBy W none → Calls Tryz.prog 145 #[.agg #[.int .i64 no, .slice (some ⟨g1, 0, none⟩) 4096 4096], .agg #[.int .i64 no, .slice (some ⟨g2, 0, none⟩) 4096 4096]] W fun e w' => e = .returned (.bool true) ∧ W.grownBy w' none) := fun W hW => sameWrite_yes no g1 g2 z W (x3.keptN hW) (y3.keptN hW)
   have HG := hid_intro hg
   clear hg h1 h2 x3 y3
   go_wp2_with fail
   go_region_with (go_at_call 145; refine (HS.out _ ((Qt.refl wr).drew.grown none)).mono ?_; rintro en w3 ⟨rfl, hg3⟩; have G3 := hid_intro (grown_trans HG.out (grown_trans ((Qt.refl wr).drew.grown none) hg3)); clear hg3)
   all_goals
    go_wp2
    go_roundw
    case rel => exact ⟨k + 1, by omega, by go_num, G3.out⟩
    case measure => simp [intOf]; omega
  ·have hlt' : ¬ (k : Int) < (n : Int) := by omega
   go_wp2
   go_ret
   exact ⟨rfl, hg⟩
theorem Wl.wc {w w' : World} {g : Nat} {ql : List (Nat × Nat × List Int)} (h : Wl w w' g ql) : Wc w' (some ⟨g, 0, none⟩) ql := by
 refine ⟨fun j p hj => ?_⟩
 have hc := fun i => cell_of_row w' g i _ _ _ h.row
 obtain ⟨a1, a2, a3, a4⟩ := h.rw p (List.mem_of_getElem? hj)
 refine ⟨g, rfl, ?_, ?_, a1.all 4096 4096 a3.symm⟩
 ·rw [hc, List.getElem?_toArray, Nat.mul_comm]; exact (wcells_at _ _ _ hj).1
 ·rw [hc, List.getElem?_toArray, Nat.mul_comm]; exact (wcells_at _ _ _ hj).2
end Go.Proofs.YtedpeggdbedmiaaGreatDoor
