import Derived.Test.YtedpeggdbedmiaaGreatDoorQ18
import Derived.Maps.AppendAt
namespace Go.Proofs.YtedpeggdbedmiaaGreatDoor
open Go.RowKit Go.MuLone
theorem wpList_put_mp {w : World} {ops : Array Oper} {rest : List Oper} {o : Oper} {a : Act} {Q : Exit → Act → World → Prop} (hg : o.guard = none) (m x v : Operand) (hop : o.op = Op.mapUpdate 67 m x v)
  (b n : Nat) (f : Nat → Option Nat) (hm : a.eval m = .map (some b)) (hp : Mp w b n f) (hn : n < maxLen) (i h : Nat) (hx : a.eval x = .int .i64 i) (hv : a.eval v = pv h) (hi : i < 1048576)
  (hK : ∀ w', Mp w' b (n + 1) (fun j => if i = j then some h else f j) → w.mapTurned w' b → wpList Tryz.prog ops Q rest (a.put o.dst undef) w') : wpList Tryz.prog ops Q (o :: rest) a w := by
 obtain ⟨D, h1, h2⟩ := hp
 refine wpList_mapUpdate_in w hg m x v 67 hop 3 47 kyd Tryz.underlying67 Rv b n D hm h1 hn _ _ _ hx hv (key_i i hi) (.held (pv h)) [] rfl ?_
 intro w' k1 k2
 refine hK w' ⟨_, k1, fun j hj => ?_⟩ k2
 have hkl : Go.WideAt.IsKeyLit (.int .i64 (i : Int)) := trivial
 by_cases e : i = j
 ·subst e
  dsimp only
  rw [if_pos rfl]
  refine ⟨?_, fun h' hh z => ?_⟩
  ·rw [Go.Maps.has_put_same h1.isMap hkl]; rfl
  ·rw [Go.Maps.atKey_put_same h1.isMap hkl]
   rw [Option.some.inj hh]
 ·dsimp only
  rw [if_neg e]
  have hne : (Lit.int .i64 (j : Int)) ≠ .int .i64 (i : Int) := fun e' => e (by injection e' with _ e'; omega)
  obtain ⟨a1, a2⟩ := h2 j hj
  exact ⟨by rw [Go.Maps.has_put_other hne]; exact a1, fun h' hh z => by rw [Go.Maps.atKey_put_other hne]; exact a2 h' hh z⟩
theorem nodup_push {α : Type} {a b : List α} {x : α} (h : (a ++ b).Nodup) (hx : x ∉ a ++ b) : (a ++ (b ++ [x])).Nodup := by
 rw [← List.append_assoc]
 exact List.nodup_append.2 ⟨h, by simp, by intro y hy z hz; simp at hz; subst hz; exact fun e => hx (e ▸ hy)⟩
theorem Dm.push {w w3 w4 : World} {F G : Nat → Prop} {d : Dd} {B i g n : Nat} {s : Int} {z : List Int} {v' : Value} (h : Dm w F d) (hb : Bx w B s d) (hF : ∀ k, F k → k < g) (hg : Rw w g z) (hl : z.length = 4096) (bt : Bt z) (hi : i < 524288)
  (h3 : w.grownBy w3 d.vP.ownBlock) (own : w3.ownsRow 0 78 2 v' (d.pl.length + 1) (wcells d.pl ++ [.int .i64 i, pv g])) (loc : v'.ownBlock = d.vP.ownBlock ∨ v'.ownBlock = some w.heap.size)
  (hm : Mp w4 d.m (n + 1) (nw (d.pl ++ [(i, g, z)]))) (hn : n ≤ d.done) (ht : (w3.setCell ⟨B, 4, none⟩ v').mapTurned w4 d.m) (hG : ∀ k, F k → G k) (hGg : G g) (hGs : v'.ownBlock = some w.heap.size → G w.heap.size) (low : ∀ k, G k → k < w4.heap.size) :
  Dm w4 G { d with vP := v', pl := d.pl ++ [(i, g, z)], done := d.done + 1 } := by
 have hnB := h.other hb (by decide) (by decide) (by decide)
 obtain ⟨n0, hn0, hmp⟩ := h.mp
 obtain ⟨es, clock, hmm⟩ := hmp.isMap
 have t4 := ht.grown
 have hB3 : Bx w3 B s d := hb.kept h3 (fun e => hnB (.inr (.inl e.symm)))
 have st : ∀ k, k < w.heap.size → some k ≠ d.vP.ownBlock → k ≠ B → k ≠ d.m → w4.heap[k]? = w.heap[k]? := by
  intro k hk e1 e2 e3
  rw [t4.block k (by have := h3.size; simp; omega) (fun e => e3 (Option.some.inj e)), heap_setCell_other w3 ⟨B, 4, none⟩ k _ (fun e => e2 e), h3.block k hk e1]
 have pgB : ∀ k y, Pb w F k y → w4.heap[k]? = w.heap[k]? := by
  intro k y hp
  refine st k hp.lt (fun e => ?_) (fun e => ?_) (fun e => ?_)
  ·rcases h.pr.2 with ⟨hv, _⟩ | ⟨g', cap, cur, hv, _, hg', _⟩
   ·rw [hv] at e; cases e
   ·rw [hv] at e
    have := Option.some.inj e
    simp at this
    subst this
    rw [hp.at_] at hg'
    simp only [Option.some.injEq, Obj.cells.injEq] at hg'
    exact absurd hg'.2.1 (by decide)
  ·exact hb.ne hp.at_ (by decide) e
  ·subst e
   rw [hp.at_] at hmm
   cases hmm
 have own4 : w4.ownsRow 0 78 2 v' (d.pl.length + 1) (wcells d.pl ++ [.int .i64 i, pv g]) := by
  refine owns_same own fun k hk => ?_
  rcases own.2 with ⟨hv, _⟩ | ⟨g', cap, cur, hv, _, hg', _⟩
  ·rw [hv] at hk; cases hk
  rw [hv] at hk
  have := Option.some.inj hk
  simp at this
  subst this
  have ne1 : g' ≠ B := hB3.ne hg' (by decide)
  have ne2 : g' ≠ d.m := fun e => by
   subst e
   obtain ⟨es', c', es'', c'', h1, _⟩ := ht
   rw [heap_setCell_other w3 ⟨B, 4, none⟩ d.m _ (fun e => ne1 e), hg'] at h1
   cases h1
  rw [t4.block g' (by have := (Array.getElem?_eq_some_iff.1 hg').1; simp; omega) (fun e => ne2 (Option.some.inj e)), heap_setCell_other w3 ⟨B, 4, none⟩ g' _ (fun e => ne1 e)]
 refine ⟨owns_same h.lr fun k hk => ?_, fun k hk => hG k (h.fl k hk), ?_, fun k hk => ?_, fun x hx => ((h.bp x hx).same (pgB _ _ (h.bp x hx))).wide (hG _ (h.bp x hx).mem), ?_, ?_, ⟨n + 1, by simp; omega, hm⟩, by have := h.pc; simp; omega, hG _ h.fm, low⟩
 ·have hk2 := h.lr
  rcases hk2.2 with ⟨hv, _⟩ | ⟨g', cap, cur, hv, _, hg', _⟩
  ·rw [hv] at hk; cases hk
  rw [hv] at hk
  have := Option.some.inj hk
  simp at this
  subst this
  refine st g' (Array.getElem?_eq_some_iff.1 hg').1 (fun e => ?_) (fun e => hnB (.inl (by rw [hv, ← e]; rfl))) (fun e => ?_)
  ·rcases h.pr.2 with ⟨hv', _⟩ | ⟨g'', cap', cur', hv', _, hg'', _⟩
   ·rw [hv'] at e; cases e
   ·rw [hv'] at e
    have := Option.some.inj e
    simp at this
    subst this
    rw [hg'] at hg''
    simp only [Option.some.injEq, Obj.cells.injEq] at hg''
    exact absurd hg''.2.1 (by decide)
  ·subst e
   rw [hg'] at hmm
   cases hmm
 ·rw [wcells_app, List.length_append]
  exact own4
 ·rcases loc with e | e
  ·exact hG k (h.fp k (e ▸ hk))
  ·rw [e] at hk
   rw [← Option.some.inj hk]; exact hGs e
 ·intro p hp
  rcases List.mem_append.1 hp with hp | hp
  ·exact ⟨((h.pp p hp).1.same (pgB _ _ (h.pp p hp).1)).wide (hG _ (h.pp p hp).1.mem), (h.pp p hp).2⟩
  ·simp at hp
   subst hp
   have hlt : g < w.heap.size := hg.lt
   have eg : w4.heap[g]? = w.heap[g]? := by
    refine st g hlt (fun e => by have := hF g (h.fp g e.symm); omega) (hb.ne hg (by decide)) (fun e => by have := hF _ h.fm; omega)
   exact ⟨⟨eg.trans hg, hl, bt, hGg⟩, hi⟩
 ·rw [List.map_append]
  refine nodup_push h.nd fun hx => ?_
  rcases List.mem_append.1 hx with hx | hx
  ·obtain ⟨y, hy, e⟩ := List.mem_map.1 hx
   have := hF _ (h.bp y hy).mem
   simp at e; omega
  ·obtain ⟨y, hy, e⟩ := List.mem_map.1 hx
   have := hF _ (h.pp y hy).1.mem
   simp at e; omega
set_option maxHeartbeats 800000 in
theorem write_no {w : World} {B : Nat} {d : Dd} (hb : Bx w B 0 d) (i : Int) (ao : Option Addr) (n c : Nat) (h : d.refuse i n ≠ 0) : Calls Tryz.prog 6 #[.pointer (some ⟨B, 0, none⟩), .int .i64 i, .slice ao n c] w fun e w' => e = .returned (.int .i64 (d.refuse i n)) ∧ Bx w' B 0 d ∧ w.grownBy w' (some B) := by
 go_enter_defers Tryz.func6, Tryz.ntmps6
 go_wp2_with fail
 refine (lock_b hb).mono ?_
 rintro e w1 ⟨rfl, hb1, hg1⟩
 go_wp2_with fail
 refine (refusal_b hb1 i ao n c).mono ?_
 rintro e w1' ⟨rfl, rfl⟩
 go_wp2_with fail
 refine leaves_cons (f := 22) (args := #[.pointer (some ⟨B, 0, none⟩)]) (by simp) (by simp [go_sem]) ?_
 refine (unlock_b .returning hb1).mono ?_
 rintro e u' w2 ⟨rfl, rfl, hb2, hg2⟩
 exact ⟨_, results_tmp rfl _ _ _, rfl, hb2, grown_trans hg1 hg2⟩
theorem info_write : (Tryz.prog.info? 78).map (fun i => (i.zero, i.size, i.bytes)) = some (some (.agg #[.int .i64 0, .slice none 0 0]), 2, 32) := by kernel_rfl
def Dd.put (d : Dd) (i g : Nat) (z : List Int) (v' : Value) : Dd := { d.spend with pg := max d.pg (i + 1), vP := v', pl := d.pl ++ [(i, g, z)] }
theorem pgs_snoc (n : Nat) (l : List (Nat × Nat × List Int)) (p : Nat × Nat × List Int) : pgs n (l ++ [p]) = max (pgs n l) (p.1 + 1) := by simp [pgs, List.foldl_append]
set_option maxHeartbeats 4000000 in
set_option maxRecDepth 4000 in
theorem write_ok {w : World} {B : Nat} {F : Nat → Prop} {d : Dd} (hk : Dk w B F d) (i : Nat) (ao : Option Addr) (c : Nat) (z : List Int) (hz : Byt w ao 4096 c z) (ha : ∀ ad, ao = some ad → ¬ F ad.block) (bz : Bt z) (h : d.refuse i 4096 = 0) (hd : d.done < 1099511627776) (hl : d.left < 9223372036854775808) :
  Calls Tryz.prog 6 #[.pointer (some ⟨B, 0, none⟩), .int .i64 i, .slice ao 4096 c] w fun e w' => ∃ g v', e = .returned (.int .i64 d.ans) ∧ Dk w' B (fun k => F k ∨ w.heap.size ≤ k ∧ k < w'.heap.size) (d.put i g z v') ∧ Kp w w' F := by
 have hb := hk.bx
 have hzl := hz.len
 have hr : i ≤ d.pg ∧ i < d.cap ∧ d.off = false := by
  unfold Dd.refuse at h
  split at h
  ·simp at h
  split at h
  ·simp at h
  split at h
  ·simp at h
  split at h
  ·simp at h
  ·rename_i h1 h2 h3 h4
   refine ⟨by omega, by omega, ?_⟩
   cases ho : d.off with
   | true => exact absurd ho h4
   | false => rfl
 obtain ⟨hi1, hi2, ho⟩ := hr
 have hi : i < 524288 := by have := hk.cap; omega
 have hpc := hk.dm.pc
 obtain ⟨i0, hinf, hz0, hz1, hz2⟩ := info_parts info_write
 have HK := hid_intro hk
 have HZ := hid_intro hz
 clear hk hz
 go_enter_defers Tryz.func6, Tryz.ntmps6
 go_wp2_with fail
 refine (lock_b hb).mono ?_
 rintro e w1 ⟨rfl, hb1, hg1⟩
 go_wp2_with fail
 refine (refusal_b hb1 i ao 4096 c).mono ?_
 rintro e w1 ⟨rfl, rfl⟩
 rw [h]
 go_wp2_with fail
 refine (twin_any ao 4096 c z _ ?zb (by omega)).mono ?_
 case zb => exact HZ.out.kept hg1 (fun ad e h0 e' => ha ad e (by rw [Option.some.inj e']; exact HK.out.fb))
 rintro e w2 ⟨rfl, hr2, hg2⟩
 have hb2 := hb1.kept hg2 (by simp)
 have hm2 := (HK.out.dm.box HK.out.bx hg1).keptN hg2
 have c4 := hb2.c4
 have hbA := hb2.kept (World.grownBy_alloc w2 (.cells #[.int .i64 i, pv w1.heap.size] 78) none) (by simp)
 have hmA := hm2.keptN (World.grownBy_alloc w2 (.cells #[.int .i64 i, pv w1.heap.size] 78) none)
 have HMA := hid_intro hmA
 have HBA := hid_intro hbA
 have HB2 := hid_intro hb2
 clear hbA hmA hm2 hb2
 go_wp2_with (at_builtin; refine wpList_append_own_at _ rfl _ _ 54 rfl 0 78 i0 _ 2 32 Tryz.underlying54 hinf hz0 hz1 hz2 rfl (by decide) _ _ _ rfl HMA.out.pr ⟨w2.heap.size, 0, none⟩ 1 1 [.int .i64 i, pv w1.heap.size] rfl rfl ?n1 ?n2 ?n3 ?n4 (Nat.zero_le _) ?_)
 case n1 =>
  intro j u hu
  rw [Addr.add_lit, Nat.zero_add, cell_of_row _ w2.heap.size j _ _ _ (heap_alloc_new w2 _)]
  simpa [pv] using hu
 case n2 =>
  intro u hu
  simp at hu
  rcases hu with rfl | rfl <;> rfl
 case n3 => unfold maxLen; omega
 case n4 => omega
 intro v' w3 own3 hg3 _ loc3
 obtain ⟨g3, cap3, cur3, e3, -⟩ := own3.2.resolve_left (fun e => by have := e.2; omega)
 subst e3
 generalize hv' : d.pl.length + 1 = n3 at own3
 have hnB := HMA.out.other HBA.out (by decide) (by decide) (by decide)
 have hb3 : Bx w3 B 1 d := HBA.out.kept hg3 (fun e => hnB (.inr (.inl e.symm)))
 obtain ⟨n, hn, hmp⟩ := HMA.out.mp
 obtain ⟨es, clock, hmm⟩ := hmp.isMap
 have hmB : d.m ≠ B := fun e => hnB (.inr (.inr (.inr (.inr e.symm))))
 have mp3 : Mp w3 d.m n (nw d.pl) := hmp.same (hg3.block d.m (Array.getElem?_eq_some_iff.1 hmm).1 (fun e => by
  rcases HMA.out.pr.2 with ⟨hv, _⟩ | ⟨g', cap, cur, hv, _, hg', _⟩
  ·rw [hv] at e; cases e
  ·rw [hv] at e
   have := Option.some.inj e
   simp at this
   subst this
   rw [hg'] at hmm
   cases hmm))
 have mp3' : Mp (w3.setCell ⟨B, 4, none⟩ (.slice (some ⟨g3, 0, none⟩) n3 cap3)) d.m n (nw d.pl) := mp3.same (heap_setCell_other w3 ⟨B, 4, none⟩ d.m _ (fun e => hmB e))
 have hb3' := hb3.set 4 (.slice (some ⟨g3, 0, none⟩) n3 cap3) 1 { d with vP := .slice (some ⟨g3, 0, none⟩) n3 cap3 } rfl
 have c4' := hb3.c4
 have c5 := hb3.c5
 have f4 := hb3.fz 4
 have MP := hid_intro mp3'
 have HB3 := hid_intro hb3'
 have OWN := hid_intro own3
 have HG3 := hid_intro hg3
 clear mp3 mp3' hb3' hmp c4 own3 hg3
 have hn2 : n < maxLen := by unfold maxLen; omega
 go_wp2_with (at_mapUpdate; refine wpList_put_mp rfl _ _ _ rfl d.m n _ rfl MP.out hn2 i w1.heap.size rfl rfl (by omega) ?_)
 intro w4 mp4 ht4
 have hb4 : Bx w4 B 1 { d with vP := .slice (some ⟨g3, 0, none⟩) n3 cap3 } := HB3.out.kept ht4.grown (fun e => hmB (Option.some.inj e).symm)
 have c6 := hb4.c6
 have f6 := hb4.fz 6
 clear c4' c5 f4
 have hs1 := hg1.size
 have hs2 := hg2.size
 have hs3 := HG3.out.size
 have hlow := HK.out.dm.low
 have fin : ∀ w6, Bx w6 B 0 (d.put i w1.heap.size z (.slice (some ⟨g3, 0, none⟩) n3 cap3)) → w4.grownBy w6 (some B) → Dk w6 B (fun k => F k ∨ w.heap.size ≤ k ∧ k < w6.heap.size) (d.put i w1.heap.size z (.slice (some ⟨g3, 0, none⟩) n3 cap3)) ∧ Kp w w6 F := by
  intro w6 hb7 hg7
  have hs4 := ht4.grown.size
  have hs7 := hg7.size
  simp at hs3 hs4
  subst hv'
  have own3 := OWN.out
  have eN : (fun j => if i = j then some w1.heap.size else nw d.pl j) = nw (d.pl ++ [(i, w1.heap.size, z)]) := by
   funext j; rw [nw_snoc]
  rw [eN] at mp4
  have dm4 : Dm w4 (fun k => F k ∨ w.heap.size ≤ k ∧ k < w4.heap.size) { d with vP := .slice (some ⟨g3, 0, none⟩) (d.pl.length + 1) cap3, pl := d.pl ++ [(i, w1.heap.size, z)], done := d.done + 1 } := by
   refine HMA.out.push HBA.out (fun k hk => by have := hlow k hk; omega) (hr2.keptN (World.grownBy_alloc _ _ _)) hzl bz hi HG3.out own3 ?_ mp4 hn ht4 (fun k hk => .inl hk) (.inr ⟨hs1, by have := hr2.lt; omega⟩) (fun e => .inr ⟨by simp; omega, by rw [← Option.some.inj e]; exact Nat.lt_of_lt_of_le (own3.lt g3 rfl).2 (by omega)⟩) (fun k hk => hk.elim (fun x => by have := hlow k x; omega) (fun x => x.2))
   simpa using loc3
  have dm6 := (dm4.box (d' := { d with vP := .slice (some ⟨g3, 0, none⟩) (d.pl.length + 1) cap3 }) hb4 hg7)
  refine ⟨⟨hb7, ?_, .inl HK.out.fb, ?_, HK.out.cap, ?_, ?_⟩, ?_⟩
  ·have dm7 : Dm w6 (fun k => F k ∨ w.heap.size ≤ k ∧ k < w6.heap.size) { d with vP := .slice (some ⟨g3, 0, none⟩) (d.pl.length + 1) cap3, pl := d.pl ++ [(i, w1.heap.size, z)], done := d.done + 1 } :=
    dm6.wide (fun k hk => hk.imp id (fun x => ⟨x.1, by omega⟩)) (fun k hk => hk.elim (fun x => by have := hlow k x; omega) (fun x => x.2))
   exact dm7.scal rfl rfl rfl rfl rfl (Nat.le_refl _)
  ·show max d.pg (i + 1) = pgs d.bl.length (d.pl ++ [(i, w1.heap.size, z)])
   rw [pgs_snoc, ← HK.out.pg]
  ·show max d.pg (i + 1) ≤ d.cap
   have := HK.out.le; omega
  ·intro j h1 h2
   change d.bl.length ≤ j at h1
   change j < max d.pg (i + 1) at h2
   by_cases e : j = i
   ·exact ⟨(i, w1.heap.size, z), List.mem_append_right _ (by simp), e.symm⟩
   ·obtain ⟨p, h3, h4⟩ := HK.out.gap j h1 (by omega)
    exact ⟨p, List.mem_append_left _ h3, h4⟩
  ·have k1 : Kp w w1 F := Kp.of hg1 (fun k e => by rw [← Option.some.inj e]; exact HK.out.fb)
   have k2 : Kp w (w2.alloc (.cells #[.int .i64 i, pv w1.heap.size] 78)) F := k1.trans (Kp.of (F := F) (grown_trans hg2 (World.grownBy_alloc _ _ _)) (fun k e => by cases e)) (fun k hk => .inl hk)
   have k3 : Kp w w3 F := k2.trans (Kp.of (F := F) HG3.out (fun k e => HK.out.dm.fp k e)) (fun k hk => .inl hk)
   have k4 : Kp w w4 F := (k3.trans (Kp.of (F := F) (grown_cell w3 B 4 _) (fun k e => by rw [← Option.some.inj e]; exact HK.out.fb)) (fun k hk => .inl hk)).trans (Kp.of (F := F) ht4.grown (fun k e => by rw [← Option.some.inj e]; exact HK.out.dm.fm)) (fun k hk => .inl hk)
   exact k4.trans (Kp.of (F := F) hg7 (fun k e => by rw [← Option.some.inj e]; exact HK.out.fb)) (fun k hk => .inl hk)
 rcases Nat.lt_or_ge i d.pg with hx | hx
 ·have hmx : max d.pg (i + 1) = d.pg := by omega
  have hx' : (i : Int) + 1 ≤ (d.pg : Int) := by omega
  go_wp2_with fail
  have hb5 := hb4.set 6 (.int .i64 (d.pg : Int)) 1 { d with vP := .slice (some ⟨g3, 0, none⟩) n3 cap3, pg := max d.pg (i + 1) } (by rw [hmx]; rfl)
  refine (spend_b hb5 ho (Nat.lt_trans hd (by omega)) hl).mono ?_
  rintro e w5 ⟨rfl, hb6, hg6⟩
  rw [show Dd.ans { d with vP := .slice (some ⟨g3, 0, none⟩) n3 cap3, pg := max d.pg (i + 1) } = d.ans from rfl]
  have G5 := hid_intro (grown_trans (grown_cell w4 B 6 (.int .i64 (d.pg : Int))) hg6)
  clear hb5 hb4 c6 f6 hg6
  go_wp2_with fail
  refine leaves_cons (f := 22) (args := #[.pointer (some ⟨B, 0, none⟩)]) (by simp) (by simp [go_sem]) ?_
  refine (unlock_b .returning hb6).mono ?_
  rintro e u' w6 ⟨rfl, rfl, hb7, hg7⟩
  have fin' := fin w6 hb7 (grown_trans G5.out hg7)
  exact ⟨_, results_tmp rfl _ _ _, _, _, rfl, fin'.1, fin'.2⟩
 ·have hmx : max d.pg (i + 1) = i + 1 := by omega
  have hx' : (d.pg : Int) < (i : Int) + 1 := by omega
  go_wp2_with fail
  have hb5 := hb4.set 6 (.int .i64 ((i : Int) + 1)) 1 { d with vP := .slice (some ⟨g3, 0, none⟩) n3 cap3, pg := max d.pg (i + 1) } (by rw [hmx]; rfl)
  refine (spend_b hb5 ho (Nat.lt_trans hd (by omega)) hl).mono ?_
  rintro e w5 ⟨rfl, hb6, hg6⟩
  rw [show Dd.ans { d with vP := .slice (some ⟨g3, 0, none⟩) n3 cap3, pg := max d.pg (i + 1) } = d.ans from rfl]
  have G5 := hid_intro (grown_trans (grown_cell w4 B 6 (.int .i64 ((i : Int) + 1))) hg6)
  clear hb5 hb4 c6 f6 hg6
  go_wp2_with fail
  refine leaves_cons (f := 22) (args := #[.pointer (some ⟨B, 0, none⟩)]) (by simp) (by simp [go_sem]) ?_
  refine (unlock_b .returning hb6).mono ?_
  rintro e u' w6 ⟨rfl, rfl, hb7, hg7⟩
  have fin' := fin w6 hb7 (grown_trans G5.out hg7)
  exact ⟨_, results_tmp rfl _ _ _, _, _, rfl, fin'.1, fin'.2⟩
end Go.Proofs.YtedpeggdbedmiaaGreatDoor
