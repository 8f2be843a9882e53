import Derived.Test.YtedpeggdbedmiaaGreatDoorQ2
import Derived.Laws.CopyOwn
import Derived.Deep.RegionLaw
namespace Go.Proofs.YtedpeggdbedmiaaGreatDoor
open Go.RowKit
def Rw (w : World) (g : Nat) (zs : List Int) : Prop := w.heap[g]? = some (.cells (zs.map (Value.int .u8)).toArray 5 (0, 0))
theorem Rw.lt {w : World} {g : Nat} {zs : List Int} (h : Rw w g zs) : g < w.heap.size := (Array.getElem?_eq_some_iff.1 h).1
theorem Rw.cell {w : World} {g : Nat} {zs : List Int} (h : Rw w g zs) (i : Nat) (hi : i < zs.length) : w.cell? ⟨g, i, none⟩ = some (.int .u8 (zs.getD i 0)) := by
 rw [cell_of_row w g i _ _ (0, 0) h]
 simp [List.getD, List.getElem?_eq_getElem hi]
theorem Rw.byt {w : World} {g : Nat} {zs : List Int} (h : Rw w g zs) (off n cap : Nat) (hn : off + n ≤ zs.length) : Byt w (some ⟨g, off, none⟩) n cap ((zs.drop off).take n) := by
 refine Byt.of_cells (by rw [List.length_take, List.length_drop]; omega) fun i hi => ?_
 rw [h.cell (off + i) (by omega)]
 simp [List.getD, hi]
theorem Rw.all {w : World} {g : Nat} {zs : List Int} (h : Rw w g zs) (n cap : Nat) (hn : n = zs.length) : Byt w (some ⟨g, 0, none⟩) n cap zs := by
 have := h.byt 0 n cap (by omega)
 rwa [List.drop_zero, List.take_of_length_le (by omega)] at this
theorem Rw.kept {w w' : World} {row : Option Nat} {g : Nat} {zs : List Int} (h : Rw w g zs) (hg : w.grownBy w' row) (hne : some g ≠ row) : Rw w' g zs := (hg.block g h.lt hne).trans h
theorem Rw.keptN {w w' : World} {g : Nat} {zs : List Int} (h : Rw w g zs) (hg : w.grownBy w' none) : Rw w' g zs := h.kept hg (by simp)
theorem Rw.of_owns {w : World} {base g n : Nat} {zs : List Int} (h : w.ownsRow base 5 1 (.slice (some ⟨g, 0, none⟩) n n) n (zs.map (Value.int .u8))) : Rw w g zs := by
 rcases h with ⟨hl, ⟨h0, _⟩ | ⟨g', cap, cur, hv, _, hg, _, _, hs, ht⟩⟩
 ·cases h0
 ·injection hv with e1 e2 e3
  injection e1 with e1
  injection e1 with e4
  subst e4 e3
  have : cur.toList = zs.map (Value.int .u8) := by
   rw [← ht, List.take_of_length_le (by simp [hs])]
  unfold Rw
  rw [hg, ← this]
theorem made (n : Nat) : (madeCells #[Value.int .u8 0] n).toList = (List.replicate n (0 : Int)).map (Value.int .u8) := by
 refine List.ext_getElem (by simp [madeCells]) fun i h1 h2 => ?_
 simp [madeCells, Nat.mod_one]
theorem splice_map (cs zs : List Int) (p : Nat) : splice (cs.map (Value.int .u8)) p (zs.map (Value.int .u8)) = (splice cs p zs).map (Value.int .u8) := by
 simp [splice]
theorem Byt.lt {w : World} {ao : Option Addr} {n c : Nat} {zs : List Int} (h : Byt w ao n c zs) {ad : Addr} (e : ao = some ad) (hn : 0 < n) : ad.block < w.heap.size := by
 obtain ⟨b, off, e2, hb, _⟩ := h.at hn
 rw [e] at e2
 obtain rfl := Option.some.inj e2
 exact hb
theorem Byt.drop {w : World} {b off : Nat} {n c : Nat} {zs : List Int} (h : Byt w (some ⟨b, off, none⟩) n c zs) (k c' : Nat) (hk : k ≤ n) : Byt w (some ⟨b, off + k, none⟩) (n - k) c' (zs.drop k) := by
 have hl := h.len
 refine Byt.of_cells (by rw [List.length_drop]; omega) fun i hi => ?_
 obtain ⟨b', off', e, _, hc⟩ := h.at (by omega)
 simp only [Option.some.injEq, Addr.mk.injEq] at e
 obtain ⟨rfl, rfl, _⟩ := e
 rw [Nat.add_assoc, hc (k + i) (by omega)]
 simp [List.getD]
theorem Byt.zero (w : World) (ao : Option Addr) : Byt w ao 0 0 [] := ⟨rfl, fun _ => ⟨rfl, rfl⟩, fun ad _ j u hu => by simp at hu⟩
def Rt (w : World) (g : Nat) (t : TypeId) (zs : List Int) : Prop := w.heap[g]? = some (.cells (zs.map (Value.int .u8)).toArray t (0, 0))
theorem Rt.lt {w : World} {g : Nat} {t : TypeId} {zs : List Int} (h : Rt w g t zs) : g < w.heap.size := (Array.getElem?_eq_some_iff.1 h).1
theorem Rt.cell {w : World} {g : Nat} {t : TypeId} {zs : List Int} (h : Rt w g t zs) (i : Nat) (hi : i < zs.length) : w.cell? ⟨g, i, none⟩ = some (.int .u8 (zs.getD i 0)) := by
 rw [cell_of_row w g i _ _ (0, 0) h]
 simp [List.getD, List.getElem?_eq_getElem hi]
theorem Rt.byt {w : World} {g : Nat} {t : TypeId} {zs : List Int} (h : Rt w g t zs) (off n cap : Nat) (hn : off + n ≤ zs.length) : Byt w (some ⟨g, off, none⟩) n cap ((zs.drop off).take n) := by
 refine Byt.of_cells (by rw [List.length_take, List.length_drop]; omega) fun i hi => ?_
 rw [h.cell (off + i) (by omega)]
 simp [List.getD, hi]
theorem Rt.all {w : World} {g : Nat} {t : TypeId} {zs : List Int} (h : Rt w g t zs) (n cap : Nat) (hn : n = zs.length) : Byt w (some ⟨g, 0, none⟩) n cap zs := by
 have := h.byt 0 n cap (by omega)
 rwa [List.drop_zero, List.take_of_length_le (by omega)] at this
theorem Rt.kept {w w' : World} {row : Option Nat} {g : Nat} {t : TypeId} {zs : List Int} (h : Rt w g t zs) (hg : w.grownBy w' row) (hne : some g ≠ row) : Rt w' g t zs := (hg.block g h.lt hne).trans h
theorem Rt.keptN {w w' : World} {g : Nat} {t : TypeId} {zs : List Int} (h : Rt w g t zs) (hg : w.grownBy w' none) : Rt w' g t zs := h.kept hg (by simp)
structure Rp (w w' : World) (g : Nat) (t : TypeId) (xs : List Value) : Prop where
 row : w'.heap[g]? = some (.cells xs.toArray t (0, 0))
 oth : ∀ k, k ≠ g → w'.heap[k]? = w.heap[k]?
 size : w'.heap.size = w.heap.size
 os : w'.os = w.os
 tape : w'.tape = w.tape
 output : w'.output = w.output
theorem Rp.grown {w w' : World} {g : Nat} {t : TypeId} {xs : List Value} (h : Rp w w' g t xs) : w.grownBy w' (some g) :=
 ⟨h.os, h.tape, h.output, by rw [h.size]; exact Nat.le_refl _, fun k _ hne => h.oth k (fun e => hne (by rw [e]))⟩
theorem oper_copy_val {o : Oper} {a : Act} {w : World} {K : Act → World → Prop} {Q : Exit → Act → World → Prop} (d s : Operand)
  (ho : o.op = .call { callee := .builtin .copy, args := #[d, s], argTypes := #[47, 47] })
  (dp sp : Option Addr) (dLen dCap sLen sCap : Nat) (hd : a.eval d = .slice dp dLen dCap) (hs : a.eval s = .slice sp sLen sCap)
  (g off : Nat) (t : TypeId) (cur : List Value) (hg : w.heap[g]? = some (.cells cur.toArray t (0, 0))) (cs : List Value) (hn : cs.length = Nat.min sLen dLen)
  (hpos : 0 < cs.length → dp = some ⟨g, off, none⟩ ∧ ∃ ad, sp = some ad ∧ ∀ j v, cs[j]? = some v → w.cell? (ad.add j) = some v)
  (hfit : off + cs.length ≤ cur.length) (h1 : ∀ v ∈ cs, v.oneCell' = true) (k : Nat) (hk : cs.length = k)
  (h : ∀ w', Rp w w' g t (splice cur off cs) → K (a.put o.dst (.int .i64 (k : Int))) w') : Oper.wp Tryz.prog o a w K Q := by
 obtain ⟨i0, hi, hz0, hz1, hz2⟩ := info_parts info_u8
 have hsz : (Tryz.prog.info? 5).map (·.size) = some 1 := by rw [hi]; exact congrArg some hz1
 subst hk
 by_cases h0 : cs.length = 0
 ·obtain rfl : cs = [] := List.eq_nil_of_length_eq_zero h0
  have hrun := run_copy_none (P := Tryz.prog) w 47 47 o.type 5 dp sp dLen dCap sLen sCap Tryz.underlying47 hsz (by simpa using hn.symm)
  unfold Oper.wp
  simp [execOp, ho, resolve, invoke, builtin, hd, hs, hrun, Result.andThen]
  exact h w ⟨by simpa [splice] using hg, fun _ _ => rfl, rfl, rfl, rfl, rfl⟩
 ·obtain ⟨rfl, ad, rfl, hsrc⟩ := hpos (by omega)
  have hrun := run_copy_row (P := Tryz.prog) w 47 47 o.type 5 g off dLen dCap ad sLen sCap cur.toArray t cs Tryz.underlying47 hsz hg hn hsrc (by simpa using hfit) h1
  unfold Oper.wp
  simp [execOp, ho, resolve, invoke, builtin, hd, hs, hrun, Result.andThen]
  exact h _ ⟨by simpa [splice] using setRow_heap w g _ _ _ _ hg, fun k hk => setRow_other w g k _ hk, by simp [World.setRow], rfl, rfl, rfl⟩
theorem oper_copy_rp {o : Oper} {a : Act} {w : World} {K : Act → World → Prop} {Q : Exit → Act → World → Prop} (d s : Operand)
  (ho : o.op = .call { callee := .builtin .copy, args := #[d, s], argTypes := #[47, 47] })
  (dp sp : Option Addr) (dLen dCap sLen sCap : Nat) (hd : a.eval d = .slice dp dLen dCap) (hs : a.eval s = .slice sp sLen sCap)
  (g off : Nat) (t : TypeId) (cs ts : List Int) (hg : Rt w g t cs) (hb : Byt w sp sLen sCap ts) (hn : sLen ≤ dLen) (hdp : 0 < sLen → dp = some ⟨g, off, none⟩) (hfit : off + sLen ≤ cs.length)
  (h : ∀ w', Rt w' g t (splice cs off ts) → w.grownBy w' (some g) → w'.heap.size = w.heap.size → K (a.put o.dst (.int .i64 (sLen : Int))) w') : Oper.wp Tryz.prog o a w K Q := by
 have hl := hb.len
 refine oper_copy_val d s ho dp sp dLen dCap sLen sCap hd hs g off t (cs.map (Value.int .u8)) hg (ts.map (Value.int .u8)) (by rw [List.length_map, hl]; exact (Nat.min_eq_left hn).symm) (fun h0 => ?_) (by rw [List.length_map, List.length_map]; omega) (ints_oneCell _ _) sLen (by rw [List.length_map, hl]) fun w' hro => h w' ?_ hro.grown hro.size
 ·refine ⟨hdp (by simpa [hl] using h0), ?_⟩
  cases sp with
  | none => have := (hb.nil rfl).1; simp [hl] at h0; omega
  | some ad => exact ⟨ad, rfl, hb.cells ad rfl⟩
 ·show _ = _
  rw [← splice_map]
  exact hro.row
theorem step_copy_rt {ops : Array Oper} {o : Oper} {a : Act} {w : World} {K : Act → World → Prop} {Q : Exit → Act → World → Prop} {E : Prop} (hgd : o.guard = none) (d s : Operand)
  (ho : o.op = .call { callee := .builtin .copy, args := #[d, s], argTypes := #[47, 47] })
  (dp sp : Option Addr) (dLen dCap sLen sCap : Nat) (hd : a.eval d = .slice dp dLen dCap) (hs : a.eval s = .slice sp sLen sCap)
  (g off : Nat) (t : TypeId) (cs ts : List Int) (hg : Rt w g t cs) (hb : Byt w sp sLen sCap ts) (hn : sLen ≤ dLen) (hdp : 0 < sLen → dp = some ⟨g, off, none⟩) (hfit : off + sLen ≤ cs.length)
  (h : ∀ w', Rt w' g t (splice cs off ts) → w.grownBy w' (some g) → w'.heap.size = w.heap.size → K (a.put o.dst (.int .i64 (sLen : Int))) w') :
  if Region.wanted o (yielded ops a.tmps) = true then Oper.wp Tryz.prog o a w K Q else E := by
 have hw : Region.wanted o (yielded ops a.tmps) = true := by simp [Region.wanted, hgd]
 rw [if_pos hw]
 exact oper_copy_rp d s ho dp sp dLen dCap sLen sCap hd hs g off t cs ts hg hb hn hdp hfit h
theorem wpList_copy_rt {w : World} {ops : Array Oper} {rest : List Oper} {o : Oper} {a : Act} {Q : Exit → Act → World → Prop} (hgd : o.guard = none) (d s : Operand)
  (ho : o.op = .call { callee := .builtin .copy, args := #[d, s], argTypes := #[47, 47] })
  (dp sp : Option Addr) (dLen dCap sLen sCap : Nat) (hd : a.eval d = .slice dp dLen dCap) (hs : a.eval s = .slice sp sLen sCap)
  (g off : Nat) (t : TypeId) (cs ts : List Int) (hg : Rt w g t cs) (hb : Byt w sp sLen sCap ts) (hn : sLen ≤ dLen) (hdp : 0 < sLen → dp = some ⟨g, off, none⟩) (hfit : off + sLen ≤ cs.length)
  (h : ∀ w', Rt w' g t (splice cs off ts) → w.grownBy w' (some g) → w'.heap.size = w.heap.size → wpList Tryz.prog ops Q rest (a.put o.dst (.int .i64 (sLen : Int))) w') : wpList Tryz.prog ops Q (o :: rest) a w := by
 refine wpList_plain hgd fun K hK => ?_
 exact oper_copy_rp d s ho dp sp dLen dCap sLen sCap hd hs g off t cs ts hg hb hn hdp hfit fun w' h1 h2 h3 => hK _ _ (h w' h1 h2 h3)
theorem splice_whole6 {cs zs : List Int} (h : zs.length = cs.length) : splice cs 0 zs = zs := by
 unfold splice
 rw [List.take_zero, List.nil_append, Nat.zero_add, h, List.drop_length, List.append_nil]
set_option maxHeartbeats 1000000 in
theorem twin_any (ao : Option Addr) (n cap : Nat) (zs : List Int) (w : World) (hb : Byt w ao n cap zs) (hn : n ≤ 140737488351232) :
  Calls Tryz.prog 24 #[.slice ao n cap] w fun en w' => en = .returned (.slice (some ⟨w.heap.size, 0, none⟩) n n) ∧ Rw w' w.heap.size zs ∧ w.grownBy w' none := by
 obtain ⟨i0, hi, hz0, hz1, hz2⟩ := info_parts info_u8
 have hl := hb.len
 have HB := hid_intro hb
 clear hb
 go_enter Tryz.func24, Tryz.ntmps24
 go_wp2_with (at_make; refine wpList_make_full _ rfl _ _ 47 rfl w.heap.size 5 i0 (.int .u8 0) 1 Tryz.underlying47 hi hz0 hz1 _ _ _ _ n rfl rfl rfl rfl ?b2 ?b3 (Nat.le_refl _) ?_)
 case b2 => rw [hz2]; omega
 case b3 => unfold maxLen; omega
 intro w1 hown hg1
 rw [made] at hown
 have R1 := hid_intro (show Rt w1 w.heap.size 5 (List.replicate n 0) from Rw.of_owns hown)
 have B1 := hid_intro (HB.out.keptN hg1)
 have G1 := hid_intro hg1
 clear hown hg1
 go_wp2_with (refine wpList_copy_rt rfl _ _ rfl _ _ _ _ _ _ rfl rfl w.heap.size 0 5 (List.replicate n 0) zs R1.out B1.out (Nat.le_refl _) (fun _ => rfl) (by rw [List.length_replicate]; omega) ?_)
 intro w2 hr2 hg2 hs2
 rw [splice_whole6 (by rw [List.length_replicate]; exact hl)] at hr2
 have R2 := hid_intro hr2
 have G2 := hid_intro (grown_new G1.out hg2 (Nat.le_refl _))
 clear hr2 hg2
 go_wp2
 go_ret
 exact ⟨rfl, R2.out, G2.out⟩
end Go.Proofs.YtedpeggdbedmiaaGreatDoor
