import Derived.Test.YtepcgckapoljpaaGreatQ22
import Derived.Test.YtepcgckapoljpaaGreatQ33
import Derived.Test.YtepcgckapoljpaaGreatQ35
import Derived.Test.YtepcgckapoljpaaGreatQ10
import Derived.Test.YtepcgckapoljpaaGreatQ8
import Derived.Deep.RegionHeld3
import Derived.Deep.QuietTactic
import Derived.Deep.CutBlock
import Derived.Deep.DeepCutAuto
import Derived.Deep.CutRange
import Derived.Laws.AppendOwnNone
namespace Go.Proofs.YtepcgckapoljpaaGreat
open Go.RowKit Go.Shelf
attribute [local go_sem] Oper.semAt_some
def CeF (w W : World) : Prop := ∀ (b : Nat) (cs : Array Value) (t : TypeId) (z : Nat × Nat), w.heap[b]? = some (.cells cs t z) → W.heap[b]? = some (.cells cs t z)
theorem CeF.refl (w : World) : CeF w w := fun _ _ _ _ h => h
theorem CeF.trans {a b c : World} (h : CeF a b) (k : CeF b c) : CeF a c := fun g cs t z e => k g cs t z (h g cs t z e)
theorem CeF.of {w W : World} (h : w.grownBy W none) : CeF w W := fun b _ _ _ e => (h.block b (Array.getElem?_eq_some_iff.1 e).1 (by simp)).trans e
theorem CeF.frt {w W : World} (h : CeF w W) : FrT w W := ⟨fun b t cur z _ e => h b cur t z e⟩
end Go.Proofs.YtepcgckapoljpaaGreat
namespace Go.Proofs.YtepcgckapoljpaaGreat
open Go.RowKit
theorem CeF.cell {w W : World} (h : CeF w W) {a : Addr} {v : Value} (hc : w.cell? a = some v) : W.cell? a = some v := by
 unfold World.cell? at hc ⊢
 cases e : w.heap[a.block]? with
 | none => rw [e] at hc; cases hc
 | some o =>
  rw [e] at hc
  cases o with
  | cells cs t z =>
   rw [h _ _ _ _ e]
   exact hc
  | _ => cases hc
theorem byt_cef {w W : World} (h : CeF w W) {ao : Option Addr} {n c : Nat} {s : List Int} (hb : Byt w ao n c s) : Byt W ao n c s :=
 ⟨hb.len, hb.nil, fun ad e j u hu => h.cell (hb.cells ad e j u hu)⟩
theorem undrewW {x y : World} {r : Option Nat} (h : x.drew.grownBy y r) : x.grownBy y r := ⟨h.os, h.tape, h.output, h.size, h.block⟩
def BpW (w : World) (e : List Value) (p : PrT) : Prop := ∃ ka kc va vc, e = [.slice ka p.key.length kc, .slice va p.val.length vc] ∧ Byt w ka p.key.length kc p.key ∧ Byt w va p.val.length vc p.val
theorem BpW.cef {w W : World} (h : CeF w W) {e : List Value} {p : PrT} (k : BpW w e p) : BpW W e p := by
 obtain ⟨ka, kc, va, vc, h1, h2, h3⟩ := k
 exact ⟨ka, kc, va, vc, h1, byt_cef h h2, byt_cef h h3⟩
theorem pv_bp {w : World} {lo hi : Nat} {e : List Value} {p : PrT} (h : PvT w lo hi e p) : BpW w e p := by
 obtain ⟨kv, vv, mid, rfl, _, _, o1, o2⟩ := h
 obtain ⟨ka, kc, rfl⟩ := own_shape10 o1.1
 obtain ⟨va, vc, rfl⟩ := own_shape10 o2.1
 exact ⟨ka, kc, va, vc, rfl, own_bytT o1.1, own_bytT o2.1⟩
structure PsW (w : World) (es : List (List Value)) (L : List PrT) : Prop where
 len : es.length = L.length
 get : ∀ (i : Nat) (e : List Value) (p : PrT), es[i]? = some e → L[i]? = some p → BpW w e p
theorem PsW.cef {w W : World} (h : CeF w W) {es : List (List Value)} {L : List PrT} (k : PsW w es L) : PsW W es L := ⟨k.len, fun i e p h1 h2 => (k.get i e p h1 h2).cef h⟩
theorem PsW.nil (w : World) : PsW w [] [] := ⟨rfl, fun i e p h _ => by simp at h⟩
theorem PsW.app {w : World} {es fs : List (List Value)} {L M : List PrT} (h : PsW w es L) (k : PsW w fs M) : PsW w (es ++ fs) (L ++ M) := by
 refine ⟨by rw [List.length_append, List.length_append, h.len, k.len], fun i e p h1 h2 => ?_⟩
 have hl := h.len
 by_cases hi : i < es.length
 ·rw [List.getElem?_append_left hi] at h1
  rw [List.getElem?_append_left (by omega)] at h2
  exact h.get i e p h1 h2
 ·rw [List.getElem?_append_right (by omega)] at h1
  rw [List.getElem?_append_right (by omega), ← hl] at h2
  exact k.get _ e p h1 h2
theorem PsW.take {w : World} {es : List (List Value)} {L : List PrT} (h : PsW w es L) (i : Nat) : PsW w (es.take i) (L.take i) := by
 refine ⟨by rw [List.length_take, List.length_take, h.len], fun j e p h1 h2 => ?_⟩
 rw [List.getElem?_take] at h1 h2
 split at h1
 ·rename_i hj
  rw [if_pos hj] at h2
  exact h.get j e p h1 h2
 ·cases h1
theorem PsW.drop {w : World} {es : List (List Value)} {L : List PrT} (h : PsW w es L) (i : Nat) : PsW w (es.drop i) (L.drop i) := by
 refine ⟨by rw [List.length_drop, List.length_drop, h.len], fun j e p h1 h2 => ?_⟩
 rw [List.getElem?_drop] at h1 h2
 exact h.get _ e p h1 h2
theorem PsW.one {w : World} {e : List Value} {p : PrT} (h : BpW w e p) : PsW w [e] [p] := ⟨rfl, fun i e' p' h1 h2 => by
 match i, h1, h2 with
 | 0, h1, h2 => simp at h1 h2; subst h1 h2; exact h
 | i + 1, h1, _ => simp at h1⟩
theorem PsW.sz {w : World} {es : List (List Value)} {L : List PrT} (h : PsW w es L) : ∀ e ∈ es, e.length = 2 := fun e he => by
 obtain ⟨i, hi, rfl⟩ := List.mem_iff_getElem.1 he
 have hl := h.len
 obtain ⟨_, _, _, _, e1, _⟩ := h.get i _ _ (List.getElem?_eq_getElem hi) (List.getElem?_eq_getElem (by omega))
 rw [e1]; rfl
theorem PsW.cells {w : World} {es : List (List Value)} {L : List PrT} (h : PsW w es L) : ∀ e ∈ es, ∀ v ∈ e, v.oneCell' = true := fun e he v hv => by
 obtain ⟨i, hi, rfl⟩ := List.mem_iff_getElem.1 he
 have hl := h.len
 obtain ⟨_, _, _, _, e1, _⟩ := h.get i _ _ (List.getElem?_eq_getElem hi) (List.getElem?_eq_getElem (by omega))
 rw [e1] at hv
 simp only [List.mem_cons, List.not_mem_nil, or_false] at hv
 rcases hv with rfl | rfl <;> rfl
def MpW (w : World) (a : Option Addr) (n c : Nat) (L : List PrT) : Prop := L.length = n ∧ ∃ es, EsT w 40 a n c 2 es ∧ PsW w es L
theorem MpW.cef {w W : World} (h : CeF w W) {a : Option Addr} {n c : Nat} {L : List PrT} (k : MpW w a n c L) : MpW W a n c L := by
 obtain ⟨h0, es, h1, h2⟩ := k
 exact ⟨h0, es, h1.kept (by decide) h.frt, h2.cef h⟩
theorem MpW.of {w : World} {base n : Nat} {v : Value} {es : List (List Value)} {L : List PrT} (h : w.ownsRow base 40 2 v n es.flatten) (k : PsW w es L) (hn : L.length = n) : ∃ a c, v = .slice a n c ∧ MpW w a n c L := by
 obtain ⟨a, c, rfl, he⟩ := EsT.of_owns h (by decide) k.sz k.cells
 exact ⟨a, c, rfl, hn, es, he, k⟩
theorem MpW.nil (w : World) : MpW w none 0 0 [] := ⟨rfl, [], EsT.nul _ _ _, PsW.nil _⟩
theorem MpW.get {w : World} {a : Option Addr} {n c : Nat} {L : List PrT} (h : MpW w a n c L) {i : Nat} {p : PrT} (hp : L[i]? = some p) :
  ∃ b off ka kc va vc, a = some ⟨b, off, none⟩ ∧ w.cell? ⟨b, off + i * 2, none⟩ = some (.slice ka p.key.length kc) ∧ w.cell? ⟨b, off + i * 2 + 1, none⟩ = some (.slice va p.val.length vc) ∧ Byt w ka p.key.length kc p.key ∧ Byt w va p.val.length vc p.val := by
 obtain ⟨h0, es, h1, h2⟩ := h
 have hl := h2.len
 have hi := (List.getElem?_eq_some_iff.1 hp).1
 have he : es[i]? = some (es[i]'(by omega)) := List.getElem?_eq_getElem (by omega)
 obtain ⟨ka, kc, va, vc, e1, e2, e3⟩ := h2.get i _ p he hp
 obtain ⟨b, off, e4, _, e5⟩ := h1.cell i _ he
 rw [e1] at e5
 exact ⟨b, off, ka, kc, va, vc, e4, e5 0 _ rfl, e5 1 _ rfl, e2, e3⟩
end Go.Proofs.YtepcgckapoljpaaGreat
namespace Go.Proofs.YtepcgckapoljpaaGreat
open Go.RowKit
theorem less_numsW : ∀ {a b : List Int}, Bt a → Bt b → Op.bytesLess (a.map fun n => UInt8.ofNat n.toNat) (b.map fun n => UInt8.ofNat n.toNat) = decide (cmpZ a b < 0)
 | [], [], _, _ => by simp [Op.bytesLess, cmpZ]
 | _ :: _, [], _, _ => by simp [Op.bytesLess, cmpZ]
 | [], _ :: _, _, _ => by simp [Op.bytesLess, cmpZ]
 | a :: xs, b :: ys, ha, hb => by
  have h1 := ha a (List.mem_cons_self ..)
  have h2 := hb b (List.mem_cons_self ..)
  have ih := less_numsW (a := xs) (b := ys) (fun z hz => ha z (List.mem_cons_of_mem _ hz)) (fun z hz => hb z (List.mem_cons_of_mem _ hz))
  have e1 : (UInt8.ofNat a.toNat < UInt8.ofNat b.toNat) ↔ a < b := by
   rw [UInt8.lt_iff_toNat_lt]; simp; omega
  have e2 : (UInt8.ofNat a.toNat = UInt8.ofNat b.toNat) ↔ a = b := by
   rw [← UInt8.toNat_inj]; simp; omega
  rw [List.map_cons, List.map_cons, Op.bytesLess, ih, cmp_cons]
  by_cases h3 : a < b
  ·simp [e1, h3]
  ·by_cases h4 : b < a
   ·have h5 : ¬ a = b := by omega
    simp [e1, e2, h3, h4, h5]
   ·have h5 : a = b := by omega
    subst h5
    simp
set_option maxHeartbeats 400000 in
set_option maxRecDepth 100000 in
theorem lessW (ao bo : Option Addr) (n m c d : Nat) (za zb : List Int) (w : World) (ha : Byt w ao n c za) (hb : Byt w bo m d zb) (ba : Bt za) (bb : Bt zb) :
  Calls Tryz.prog 35 #[.slice ao n c, .slice bo m d] w fun en w' => en = .returned (.bool (decide (cmpZ za zb < 0))) ∧ w' = w := by
 have h1 := conv_str ha
 have h2 := conv_str hb
 have HE : Hid (Op.bytesLess (strOfNums za).toList (strOfNums zb).toList = decide (cmpZ za zb < 0)) := by
  show _ = _
  rw [ByteArray.toList_eq, ByteArray.toList_eq, strOfNums_data, strOfNums_data]
  exact less_numsW ba bb
 clear ha hb
 go_enter Tryz.func35, Tryz.ntmps35
 go_wp2
 go_ret
 exact ⟨by rw [← HE.out]; rfl, rfl⟩
theorem sameW (ao bo : Option Addr) (n m c d : Nat) (za zb : List Int) (w : World) (ha : Byt w ao n c za) (hb : Byt w bo m d zb) (ba : Bt za) (bb : Bt zb) :
  Calls Tryz.prog 12 #[.slice ao n c, .slice bo m d] w fun en w' => en = .returned (.bool (decide (za = zb))) ∧ w' = w := by
 by_cases e : za = zb
 ·rw [decide_eq_true e]; exact same_yes ao bo n m c d za zb w ha hb e
 ·rw [decide_eq_false e]; exact same_no ao bo n m c d za zb w ha hb ba bb e
theorem append_es {P : Program} {w : World} {ops : Array Oper} {rest : List Oper} {o : Oper} {a : Act} {Q : Exit → Act → World → Prop} (hgd : o.guard = none) (s x : Operand) (t : TypeId)
  (ho : o.op = .call { callee := .builtin .append, args := #[s, x], argTypes := #[t, t] })
  (base : Nat) (e : TypeId) (i : TypeInfo) (z : Value) (size bytes : Nat) (ht : P.underlying t = some (.slice e)) (hi : P.info? e = some i) (hz : i.zero = some z) (hsize : i.size = size) (hby : i.bytes = bytes) (hzs : z.cells.size = size) (hsz : 0 < size)
  (v : Value) (n : Nat) (xs : List Value) (hs : a.eval s = v) (hown : w.ownsRow base e size v n xs)
  (ao : Option Addr) (m c : Nat) (es : List (List Value)) (hx : a.eval x = .slice ao m c) (he : EsT w e ao m c size es)
  (h63 : n + m ≤ maxLen) (hbytes : (n + m) * bytes ≤ 140737488355328) (hbase : base ≤ w.heap.size)
  (h : ∀ v' w', w'.ownsRow base e size v' (n + m) (xs ++ es.flatten) → w.grownBy w' v.ownBlock → wpList P ops Q rest (a.put o.dst v') w') : wpList P ops Q (o :: rest) a w := by
 have hl := he.len
 have hcap := he.cap
 cases ao with
 | none =>
  have h0 := he.nil rfl
  have hm : m = 0 := by omega
  have hc : c = 0 := by omega
  have hn : es = [] := List.eq_nil_of_length_eq_zero (by omega)
  subst hm hc hn
  exact wpList_append_own_none hgd s x t ho base e i size ht hi v n xs hs hown hx (h v w (by simpa using hown) (World.grownBy.refl _ _))
 | some ad =>
  obtain ⟨b, off, rfl⟩ := he.pl ad rfl
  refine append_at10 hgd s x t ho base e i z size bytes ht hi hz hsize hby hzs hsz v n xs hs hown ⟨b, off, none⟩ m c es.flatten hx (by rw [flat_len he.sz, hl]) (fun j u hu => ?_) (fun u hu => ?_) h63 hbytes hbase (fun v' w' k1 k2 _ => h v' w' k1 k2)
  ·obtain ⟨k, f, e1, h1, h2, rfl⟩ := flat_in he.sz hu
   obtain ⟨b', off', e3, _, e4⟩ := he.cell k e1 h1
   cases e3
   rw [Addr.add_lit, ← Nat.add_assoc]
   exact e4 f u h2
  ·obtain ⟨e1, h1, h2⟩ := List.mem_flatten.1 hu
   exact he.one e1 h1 u h2
theorem EsT.tail2 {w : World} {t : TypeId} {a : Option Addr} {n c k : Nat} {es : List (List Value)} (h : EsT w t a n c 2 es) (hk : k ≤ n) :
  (c = k → EsT w t a (n - k) 0 2 (es.drop k)) ∧ EsT w t (a.map fun x => x.add (k * 2)) (n - k) (c - k) 2 (es.drop k) := by
 have hc := h.cap
 have h1 := h.len
 cases a with
 | none =>
  have h0 := h.nil rfl
  have hn : n = 0 := by omega
  have hk0 : k = 0 := by omega
  subst hn hk0
  rw [List.drop_zero]
  have he : es = [] := List.eq_nil_of_length_eq_zero h1
  subst he
  have hc0 : c = 0 := by omega
  subst hc0
  exact ⟨fun _ => h, h⟩
 | some ad =>
  obtain ⟨b, off, rfl⟩ := h.pl ad rfl
  refine ⟨fun e => ?_, ?_⟩
  ·have e0 : n - k = 0 := by omega
   rw [e0, List.drop_of_length_le (by omega)]
   exact EsT.zero _ _ _ _ _ (by omega) (fun e => by cases e) (fun x hx => by cases hx; exact ⟨_, _, rfl⟩)
  ·rw [Option.map_some, Addr.add_lit]
   exact h.drop hk
theorem find_lt {key : List Int} : ∀ {L : List PrT} {k : Nat} {p : PrT}, L[k]? = some p → k < findT L key → cmpZ p.key key < 0
 | [], _, _, h, _ => by simp at h
 | x :: L, 0, p, h, hk => by
  simp at h
  subst h
  rw [find_cons] at hk
  split at hk
  ·assumption
  ·omega
 | x :: L, k + 1, p, h, hk => by
  rw [find_cons] at hk
  split at hk
  ·exact find_lt (by simpa using h) (by omega)
  ·omega
theorem find_ge {key : List Int} : ∀ {L : List PrT} {p : PrT}, L[findT L key]? = some p → ¬ cmpZ p.key key < 0
 | [], _, h => by simp at h
 | x :: L, p, h => by
  rw [find_cons] at h
  split at h
  ·exact find_ge (by simpa using h)
  ·rename_i hx
   simp at h
   subst h
   exact hx
theorem end_has {L : List PrT} {key : List Int} {p : PrT} (h : L[findT L key]? = some p) : endT L key = if p.key = key then findT L key + 1 else findT L key := by
 have e2 : hasT L key = decide (cmpZ p.key key = 0) := by
  unfold hasT
  rw [h]
 rw [endT, e2]
 by_cases e : p.key = key
 ·rw [if_pos e, e]
  simp [cmp_self]
 ·rw [if_neg e]
  have : cmpZ p.key key ≠ 0 := fun h => e (cmp_zero h)
  simp [this]
theorem end_no {L : List PrT} {key : List Int} (h : L.length ≤ findT L key) : endT L key = findT L key := by
 unfold endT hasT
 rw [List.getElem?_eq_none h]
 rfl
end Go.Proofs.YtepcgckapoljpaaGreat
namespace Go.Proofs.YtepcgckapoljpaaGreat
open Go.RowKit
set_option maxHeartbeats 1000000 in
set_option maxRecDepth 100000 in
theorem samePair11 (a1 b1 a2 b2 : Option Addr) (n1 m1 c1 d1 c2 d2 : Nat) (k v : List Int) (w : World) (h1 : Byt w a1 n1 c1 k) (h2 : Byt w b1 m1 d1 v) (h3 : Byt w a2 n1 c2 k) (h4 : Byt w b2 m1 d2 v) :
  Calls Tryz.prog 40 #[.agg #[.slice a1 n1 c1, .slice b1 m1 d1], .agg #[.slice a2 n1 c2, .slice b2 m1 d2]] w fun en w' => en = .returned (.bool true) ∧ w.grownBy w' none := by
 have ga := World.grownBy_alloc w (.cells #[.slice a1 n1 c1, .slice b1 m1 d1] 40) none
 have gb := grown_trans ga (World.grownBy_alloc (w.alloc (.cells #[.slice a1 n1 c1, .slice b1 m1 d1] 40)) (.cells #[.slice a2 n1 c2, .slice b2 m1 d2] 40) none)
 have HG := hid_intro gb
 have HC1 := hid_intro (same_yes a1 a2 n1 n1 c1 c2 k k _ (h1.keptN gb) (h3.keptN gb) rfl)
 have HC2 := hid_intro (same_yes b1 b2 m1 m1 d1 d2 v v _ (h2.keptN gb) (h4.keptN gb) rfl)
 clear h1 h2 h3 h4 ga gb
 go_enter Tryz.func40, Tryz.ntmps40
 go_wp2_with fail
 refine HC1.out.mono ?_
 rintro en w2 ⟨rfl, hw2⟩
 subst hw2
 go_wp2_with fail
 refine HC2.out.mono ?_
 rintro en w3 ⟨rfl, hw3⟩
 subst hw3
 go_wp2
 go_ret
 exact ⟨rfl, HG.out⟩
set_option maxHeartbeats 4000000 in
set_option maxRecDepth 100000 in
theorem samePairs11 (a b : Option Addr) (n c d : Nat) (L : List PrT) (w : World) (h1 : MpW w a n c L) (h2 : MpW w b n d L) (h0 : n ≤ 100000000) :
  Calls Tryz.prog 15 #[.slice a n c, .slice b n d] w fun en w' => en = .returned (.bool true) ∧ w.grownBy w' none := by
 have HL := hid_intro h1
 have HK := hid_intro h2
 have HN := hid_intro h1.1
 clear h1 h2
 have g0 : ((n : Int) == (n : Int)) = true := by simp
 go_enter Tryz.func15, Tryz.ntmps15
 go_wp2
 go_loopw [5, 6] (fun si _ wr => ∃ i : Nat, i ≤ n ∧ si = .int .i64 (i : Nat) ∧ w.grownBy wr none) (fun si _ _ => n - (intOf si).toNat)
 case atStart => exact ⟨0, Nat.zero_le _, rfl, World.grownBy.refl _ _⟩
 case round =>
  obtain ⟨i, hi, rfl, hg⟩ := hrel
  have HG := hid_intro hg
  clear hg
  by_cases hlt : i < n
  ·obtain ⟨p, hp⟩ : ∃ p, L[i]? = some p := ⟨_, List.getElem?_eq_getElem (by have := HN.out; omega)⟩
   obtain ⟨b1, off1, ao1, c1, bo1, d1, rfl, q1, q2, q3, q5⟩ := HL.out.get hp
   obtain ⟨b2, off2, ao2, c2, bo2, d2, rfl, r1, r2, r3, r5⟩ := HK.out.get hp
   have HSP := hid_intro (fun (W : World) (hW : W.heap = wr.heap) => samePair11 ao1 bo1 ao2 bo2 _ _ c1 d1 c2 d2 p.key p.val W ((q3.keptN HG.out).heap hW) ((q5.keptN HG.out).heap hW) ((r3.keptN HG.out).heap hW) ((r5.keptN HG.out).heap hW))
   have x1 := HG.out.cell q1 (by simp)
   have x2 := HG.out.cell q2 (by simp)
   have y1 := HG.out.cell r1 (by simp)
   have y2 := HG.out.cell r2 (by simp)
   clear q1 q2 q3 q5 r1 r2 r3 r5 hp
   generalize p.key.length = n1 at *
   generalize p.val.length = m1 at *
   have g1 : (0 : Int) ≤ (i : Int) := by omega
   have g2 : (i : Int) < (n : Int) := by omega
   go_upto_region 6 with fail
   go_region_with ((go_at_call 40; refine (HSP.out wr.drew rfl).mono ?_; rintro en w3 ⟨rfl, hg3⟩; have G3 := hid_intro (grown_trans HG.out (undrewW hg3)); clear hg3))
   all_goals
    go_wp2
    go_roundw
    case rel => exact ⟨i + 1, by omega, by go_num, G3.out⟩
    case measure => simp [intOf]; omega
  ·obtain rfl : i = n := by omega
   go_wp2
   go_ret
   exact ⟨rfl, HG.out⟩
end Go.Proofs.YtepcgckapoljpaaGreat
namespace Go.Proofs.YtepcgckapoljpaaGreat
open Go.RowKit
theorem pvl_ps {w : World} : ∀ {es : List (List Value)} {ps : List PrT} {lo hi : Nat}, PvL w es ps lo hi → PsW w es ps
 | [], [], _, _, _ => PsW.nil _
 | e :: es, p :: ps, _, _, h => by
  obtain ⟨q, _, _, h3, h4⟩ := h
  exact (PsW.one (pv_bp h3)).app (pvl_ps h4)
 | [], _ :: _, _, _, h => h.elim
 | _ :: _, [], _, _, h => h.elim
set_option maxHeartbeats 16000000 in
set_option maxRecDepth 100000 in
theorem row10_any (va : Option Addr) (N vc lb : Nat) (es : List (List Value)) (xs : List NoT) (lo hi : Nat) (w1 : World) (ho : w1.ownsRow lb 54 6 (.slice va N vc) N es.flatten) (htm : ToM w1 lb es xs lo hi) (hN : xs.length = N) (hs : N ≤ 10000000) (hf : (xs.flatMap NoT.ps).length ≤ 10000000) :
  Calls Tryz.prog 13 #[.slice va N vc] w1 fun en w' => ∃ a n c, en = .returned (.slice a n c) ∧ MpW w' a n c (xs.flatMap NoT.ps) ∧ w1.grownBy w' none := by
 obtain ⟨ip, hip, hp0, hp1, hp2⟩ := info_parts info_pair10
 have HO := hid_intro ho
 have HT := hid_intro htm
 have hel := htm.len
 clear ho htm
 go_enter Tryz.func13, Tryz.ntmps13
 go_wp2_with fail
 go_loopw [3, 4] (fun sl si wr => ∃ (k m : Nat) (ps : List (List Value)), k ≤ N ∧ si = .int .i64 (k : Nat) ∧ w1.grownBy wr none ∧ wr.ownsRow w1.heap.size 40 2 sl ((xs.take k).flatMap NoT.ps).length ps.flatten ∧ PvL w1 ps ((xs.take k).flatMap NoT.ps) lo m ∧ ToM w1 lb (es.drop k) (xs.drop k) m hi) (fun _ si _ => N - (intOf si).toNat)
 case atStart => exact ⟨0, lo, [], Nat.zero_le _, rfl, World.grownBy.refl _ _, ⟨rfl, .inl ⟨rfl, rfl⟩⟩, Nat.le_refl _, HT.out⟩
 case round =>
  obtain ⟨k, m, ps, hk, rfl, hg, hl, hpv, htm⟩ := hrel
  have G1 := hid_intro hg
  have PV := hid_intro hpv
  obtain ⟨la, lc, hv⟩ := own_shape10 hl
  subst hv
  by_cases hlt : k < N
  ·have hx : xs[k]? = some (xs[k]'(by omega)) := List.getElem?_eq_getElem (by omega)
   have hek : es[k]? = some (es[k]'(by omega)) := List.getElem?_eq_getElem (by omega)
   have dx : xs.drop k = xs[k]'(by omega) :: xs.drop (k + 1) := List.drop_eq_getElem_cons (by omega)
   have de : es.drop k = es[k]'(by omega) :: es.drop (k + 1) := List.drop_eq_getElem_cons (by omega)
   rw [dx, de] at htm
   clear dx de
   revert hx hek htm
   generalize xs[k]'(by omega) = x
   generalize es[k]'(by omega) = e5
   intro htm hx hek
   obtain ⟨m', hm1, hm2, ⟨vp, qs, ca, cn, cc, sa, sn, sc, ka, kn, kc, he5, o1, o2, o3, _⟩, hrest⟩ := htm
   rw [he5] at hek
   clear he5
   have hva : ∃ g, va = some ⟨g, 0, none⟩ := by
    rcases HO.out.2 with ⟨_, h0⟩ | ⟨g, cap, cur, hv, _⟩
    ·omega
    ·exact ⟨g, by injection hv⟩
   obtain ⟨g, rfl⟩ := hva
   have cel : ∀ f u, [Value.int .i64 x.no, .int .i64 (x.lv : Int), vp, .slice ca cn cc, .slice sa sn sc, .slice ka kn kc][f]? = some u → wr.cell? ⟨g, k * 6 + f, none⟩ = some u := fun f u hu => by
    have h6 : f < 6 := (List.getElem?_eq_some_iff.1 hu).1
    have := HO.out.cellAt (k * 6 + f) (by omega)
    rw [flat_at HT.out.sz hek hu] at this
    exact hg.cell this (by simp)
   have c0 := cel 0 _ rfl
   have c1 := cel 1 _ rfl
   have c2 := cel 2 _ rfl
   have c3 := cel 3 _ rfl
   have c4 := cel 4 _ rfl
   have c5 := cel 5 _ rfl
   rw [Nat.add_zero] at c0
   obtain ⟨pa, pc, hvp⟩ := own_shape10 o1
   subst hvp
   have i1 : (k : Int) < (N : Int) := by omega
   have i0 : (0 : Int) ≤ (k : Int) := by omega
   have O1 := hid_intro (o1.kept hg (Classical.em _))
   have O3 := hid_intro o3
   have HL := hid_intro hl
   have HR := hid_intro hrest
   have HX := hid_intro hx
   have hcnt := flatMap_le (xs := xs) (k + 1)
   rw [flatMap_take hx, List.length_append] at hcnt
   obtain ⟨M, hM⟩ : ∃ M, ((xs.take k).flatMap NoT.ps).length = M := ⟨_, rfl⟩
   obtain ⟨L, hL⟩ : ∃ L, x.ps.length = L := ⟨_, rfl⟩
   rw [hM, hL] at hcnt
   rw [hM] at HL ⊢
   rw [hL] at O1 c2
   have HM := hid_intro hM
   have HLn := hid_intro hL
   have hsz := hg.size
   have ONE := hid_intro o3.one
   clear hM hL hg hl hpv hrest hx hek o1 o3 cel
   go_wp2_with (at_builtin; refine append_vp rfl _ _ 27 rfl w1.heap.size 40 ip (.agg #[.slice none 0 0, .slice none 0 0]) 2 48 Tryz.underlying27 hip hp0 hp1 hp2 rfl (by decide) _ M ps.flatten rfl HL.out m _ L qs.flatten rfl O1.out ONE.out ?c3 ?c4 ?c5 ?_)
   case c3 => unfold maxLen; omega
   case c4 => omega
   case c5 => exact hsz
   intro v9 w9 ho9 hg9
   have O9 := hid_intro ho9
   have G9 : Hid (w1.grownBy w9 none) := by
    have h1 := G1.out
    cases hb : (Value.slice la M lc).ownBlock with
    | none => rw [hb] at hg9; exact grown_trans h1 hg9
    | some d => rw [hb] at hg9; exact grown_new h1 hg9 (own_lt10 HL.out hb).1
   clear ho9 hg9
   go_wp2_with fail
   go_roundw
   case rel =>
    refine ⟨k + 1, m', ps ++ qs, by omega, by go_num, G9.out, ?_, ?_, HR.out⟩
    ·rw [flatMap_take HX.out, List.length_append, HM.out, HLn.out, List.flatten_append]
     exact O9.out
    ·rw [flatMap_take HX.out]
     exact PV.out.app O3.out
   case measure => simp [intOf]; omega
  ·have hin : k = N := by omega
   subst hin
   have hta : xs.take k = xs := List.take_of_length_le (by omega)
   rw [hta] at hl PV
   have hz := hg.size
   have HL := hid_intro hl
   rw [hta]
   obtain ⟨M, hM⟩ : ∃ M, (xs.flatMap NoT.ps).length = M := ⟨_, rfl⟩
   rw [hM] at HL ⊢
   have HM := hid_intro hM
   clear hg hl hpv htm hM
   go_wp2_with fail
   go_ret
   obtain ⟨a9, c9, e9, m9⟩ := MpW.of HL.out ((pvl_ps PV.out).cef (CeF.of G1.out)) HM.out
   simp only [Value.slice.injEq] at e9
   obtain ⟨rfl, _, rfl⟩ := e9
   exact ⟨_, _, _, rfl, m9, G1.out⟩
end Go.Proofs.YtepcgckapoljpaaGreat
