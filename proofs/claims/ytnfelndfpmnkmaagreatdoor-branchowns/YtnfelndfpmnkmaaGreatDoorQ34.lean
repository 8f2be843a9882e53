import Derived.Test.YtnfelndfpmnkmaaGreatDoorQ24
import Derived.Test.YtnfelndfpmnkmaaGreatDoorQ10
namespace Go.Proofs.YtnfelndfpmnkmaaGreatDoor
open Go.RowKit
theorem info_bytesC : (Tryz.prog.info? 26).map (fun i => (i.zero, i.size, i.bytes)) = some (some (.slice none 0 0), 1, 24) := by kernel_rfl
theorem lgetC {L : List (List Int)} {i : Nat} (h : i < L.length) : L.getD i [] ∈ L := by
 simp [List.getD, List.getElem?_eq_getElem h]
theorem own_keptC {w w' : World} {base sz : Nat} {e : TypeId} {v : Value} {n : Nat} {xs : List Value} (h : w.ownsRow base e sz v n xs) (hg : w.grownBy w' none) : w'.ownsRow base e sz v n xs := h.kept hg (by cases v.ownBlock <;> simp)
theorem grown_appC {w wr w' : World} {o : Obj} {base n : Nat} {v : Value} {xs : List Value} {t : TypeId} {sz : Nat} (hg : w.grownBy wr none) (ho : wr.ownsRow base t sz v n xs) (hb : w.heap.size ≤ base) (h : (wr.alloc o).grownBy w' v.ownBlock) : w.grownBy w' none := by
 refine ⟨h.os.trans hg.os, h.tape.trans hg.tape, h.output.trans hg.output, ?_, fun q hq _ => ?_⟩
 ·have := h.size; have := hg.size; simp at *; omega
 ·have hq2 : q < wr.heap.size := Nat.lt_of_lt_of_le hq hg.size
  rw [h.block q (by simp; omega) (by intro e; have := (ho.lt q e.symm).1; omega), Below.heap_alloc wr _ q hq2]
  exact hg.block q hq (by simp)
structure Sy (w : World) (base : Nat) (xs : List Value) (M : List (List Int)) : Prop where
 len : xs.length = M.length
 el : ∀ j, j < M.length → ∃ g H, base ≤ H ∧ xs[j]? = some (.slice (some ⟨g, 0, none⟩) (M.getD j []).length (M.getD j []).length) ∧ w.ownsRow H 5 1 (.slice (some ⟨g, 0, none⟩) (M.getD j []).length (M.getD j []).length) (M.getD j []).length ((M.getD j []).map (Value.int .u8))
theorem Sy.nil (w : World) (base : Nat) : Sy w base [] [] := ⟨rfl, fun j hj => by simp at hj⟩
theorem Sy.keptN {w w' : World} {base : Nat} {xs : List Value} {M : List (List Int)} (h : Sy w base xs M) (hg : w.grownBy w' none) : Sy w' base xs M := by
 refine ⟨h.len, fun j hj => ?_⟩
 obtain ⟨g, H, h0, h1, h2⟩ := h.el j hj
 exact ⟨g, H, h0, h1, own_keptC h2 hg⟩
theorem Sy.kept {w w' : World} {base : Nat} {xs : List Value} {M : List (List Int)} {b sz n : Nat} {vl : Value} {ys : List Value} (h : Sy w base xs M) (hg : w.grownBy w' vl.ownBlock) (ho : w.ownsRow b 26 sz vl n ys) : Sy w' base xs M := by
 refine ⟨h.len, fun j hj => ?_⟩
 obtain ⟨g, H, h0, h1, h2⟩ := h.el j hj
 exact ⟨g, H, h0, h1, h2.kept hg (Or.inr (fun e => (blk_own ho g e.symm).ne (blk_own h2 g rfl) (by decide) rfl))⟩
theorem Sy.snoc {w : World} {base : Nat} {xs : List Value} {M : List (List Int)} {g n H : Nat} {x : List Int} (h : Sy w base xs M) (hH : base ≤ H) (h1 : w.ownsRow H 5 1 (.slice (some ⟨g, 0, none⟩) n n) n (x.map (Value.int .u8))) (hn : x.length = n) : Sy w base (xs ++ [.slice (some ⟨g, 0, none⟩) n n]) (M ++ [x]) := by
 have hl := h.len
 refine ⟨by simp [hl], fun j hj => ?_⟩
 rw [List.length_append] at hj
 simp only [List.length_cons, List.length_nil] at hj
 by_cases e : j < M.length
 ·obtain ⟨g, H, k0, k1, k2⟩ := h.el j e
  have eg : (M ++ [x]).getD j [] = M.getD j [] := by simp [List.getD, List.getElem?_append_left e]
  rw [eg]
  exact ⟨g, H, k0, by rw [List.getElem?_append_left (by omega)]; exact k1, k2⟩
 ·obtain rfl : j = M.length := by omega
  have eg : (M ++ [x]).getD M.length [] = x := by simp [List.getD]
  rw [eg, hn]
  exact ⟨g, H, hH, by rw [List.getElem?_append_right (by omega), hl, Nat.sub_self]; rfl, h1⟩
set_option maxHeartbeats 1000000 in
set_option maxRecDepth 100000 in
theorem refLists_new (a : Option Addr) (n cap : Nat) (L : List (List Int)) (w : World) (hl : Lz w a L) (hn : L.length = n) (hm : n ≤ 5000) (hs : ∀ s ∈ L, s.length ≤ 100000) :
  Calls Tryz.prog 33 #[.slice a n cap] w fun en w' => (∃ v xs, en = .returned v ∧ w'.ownsRow w.heap.size 26 1 v n xs ∧ Sy w' w.heap.size xs L) ∧ w.grownBy w' none ∧ (n = 0 → Blk w' 26 w.heap.size) := by
 obtain ⟨i0, hi, hz0, hz1, hz2⟩ := info_parts info_bytesC
 have HL := hid_intro hl
 have HS := hid_intro hs
 clear hl hs
 go_enter Tryz.func33, Tryz.ntmps33
 go_wp2_with (at_make; refine wpList_make_own _ rfl _ _ 22 rfl w.heap.size 26 i0 (.slice none 0 0) 1 Tryz.underlying22 hi hz0 hz1 _ _ _ n rfl rfl rfl ?b2 ?b3 (Nat.le_refl _) ?_)
 case b2 => rw [hz2]; omega
 case b3 => unfold maxLen; omega
 intro w0 hown0 hg0
 have O0 := hid_intro hown0
 have HB0 := hid_intro (blk_own hown0 w.heap.size rfl)
 have G0 := hid_intro hg0
 clear hown0 hg0
 go_wp2
 go_loopw [3, 4, 5] (fun sl si _ wr => ∃ (i : Nat) (xs : List Value), i ≤ n ∧ si = .int .i64 i ∧ Sy wr w.heap.size xs (L.take i) ∧ wr.ownsRow w.heap.size 26 1 sl i xs ∧ w.grownBy wr none ∧ (i = 0 → Blk wr 26 w.heap.size)) (fun _ si _ _ => n - (intOf si).toNat)
 case atStart => exact ⟨0, [], Nat.zero_le _, rfl, Sy.nil _ _, O0.out, G0.out, fun _ => HB0.out⟩
 case round =>
  obtain ⟨i, xs, hi', rfl, hsv, hown, hg, hbl⟩ := hrel
  have HBL := hid_intro hbl
  clear hbl HB0
  have HV := hid_intro hsv
  have HO := hid_intro hown
  have HG := hid_intro hg
  clear hsv hown hg O0 G0
  by_cases hlt : i < n
  ·obtain ⟨b1, off, ao, k, c, rfl, q2, q3, q4, q5⟩ := HL.out.row i (by omega)
   have c0 := HG.out.cell q2 (by simp)
   have B0 := hid_intro (q3.keptN HG.out)
   have hk := q3.len
   have hk2 := HS.out _ (lgetC (show i < L.length by omega))
   have HTK : Hid (L.take (i + 1) = L.take i ++ [L.getD i []]) := by
    show _ = _
    rw [List.take_add_one, List.getElem?_eq_getElem (show i < L.length by omega)]
    simp [List.getD, List.getElem?_eq_getElem (show i < L.length by omega)]
   clear q2 q3
   generalize L.getD i [] = x at *
   go_wp2_with fail
   refine (refBytes_any ao k c x _ B0.out (by omega)).mono ?_
   rintro en w2 ⟨rfl, hown2, hg2, hs2⟩
   have R2 := hid_intro hown2
   have HV2 := hid_intro (HV.out.keptN hg2)
   have HO2 := hid_intro (own_keptC HO.out hg2)
   have HG2 := hid_intro (grown_trans HG.out hg2)
   have hgl := HG.out.size
   clear hown2 hg2 hs2 HV HO HG B0 c0
   generalize wr.heap.size = g at *
   go_wp2_with (at_builtin; refine wpList_append_own _ rfl _ _ 22 rfl w.heap.size 26 i0 (.slice none 0 0) 1 24 Tryz.underlying22 hi hz0 hz1 hz2 rfl (by decide) _ i xs rfl (HO2.out.alloc _) ⟨w2.heap.size, 0, none⟩ 1 1 [.slice (some ⟨g, 0, none⟩) k k] rfl rfl (cell_one_new _ _ _) (by intro u hu; simp at hu; subst hu; rfl) (by unfold maxLen; omega) (by omega) (by have := HG2.out.size; simp; omega) ?_)
   intro v' w4 ho4 hg4 _
   have hg24 := World.grownBy_alloc w2 (.cells #[.slice (some ⟨g, 0, none⟩) k k] 26) none
   have HV4 := hid_intro (((HV2.out.keptN hg24).snoc hgl (own_keptC R2.out hg24) hk).kept hg4 (HO2.out.alloc (.cells #[.slice (some ⟨g, 0, none⟩) k k] 26)))
   have HG4 := hid_intro (grown_appC HG2.out HO2.out (Nat.le_refl _) hg4)
   have HO4 := hid_intro ho4
   clear hg24 ho4 hg4 HV2 HO2 HG2 R2
   go_wp2
   go_roundw
   case rel => exact ⟨i + 1, _, by omega, by go_num, by rw [HTK.out]; exact HV4.out, HO4.out, HG4.out, fun e => by omega⟩
   case measure => simp [intOf]; omega
  ·have hin : i = n := by omega
   subst hin
   have e : L.take i = L := by rw [← hn, List.take_length]
   rw [e] at HV
   go_wp2
   go_ret
   exact ⟨⟨_, xs, rfl, HO.out, HV.out⟩, HG.out, HBL.out⟩
structure Tl (w : World) (base : Nat) (cs : Nat → Value) (a : Option Addr) (Z : List (List Int)) : Prop where
 row : ∀ i, i < Z.length → ∃ b off ao n c, a = some ⟨b, off, none⟩ ∧ w.cell? ⟨b, off + i, none⟩ = some (.slice ao n c) ∧ Tb w base cs ao n c (Z.getD i []) ∧ n ≤ c ∧ c ≤ 9223372036854775807 ∧ Fre base cs b
theorem Tl.kee {w w' : World} {base : Nat} {cs cs' : Nat → Value} {a : Option Addr} {Z : List (List Int)} (h : Tl w base cs a Z) (k : Kee w w' base cs cs') : Tl w' base cs' a Z := by
 refine ⟨fun i hi => ?_⟩
 obtain ⟨b, off, ao, n, c, h1, h2, h3, h4, h5, h6⟩ := h.row i hi
 exact ⟨b, off, ao, n, c, h1, k.cell h2 h6, h3.kee k, h4, h5, (k.block b (World.block_lt_of_cell? w _ h2) h6).2⟩
theorem Tl.lz {w : World} {base : Nat} {cs : Nat → Value} {a : Option Addr} {Z : List (List Int)} (h : Tl w base cs a Z) : Lz w a Z := by
 refine ⟨fun i hi => ?_⟩
 obtain ⟨b, off, ao, n, c, h1, h2, h3, h4, h5, _⟩ := h.row i hi
 exact ⟨b, off, ao, n, c, h1, h2, h3.by', h4, h5⟩
theorem tl_own {w : World} {H base n cb : Nat} {cs : Nat → Value} {bo : Option Addr} {xs : List Value} {Z : List (List Int)} (h : w.ownsRow H 26 1 (.slice bo n cb) n xs) (hs : Sy w H xs Z) (hz : ∀ s ∈ Z, s.length ≤ 1099511627776) (hf : ∀ i, H ≤ i → i < w.heap.size → Fre base cs i) : Tl w base cs bo Z := by
 refine ⟨fun i hi => ?_⟩
 have hl : xs.length = n := by have := h.1; simpa using this
 have hl2 := hs.len
 rcases h.2 with ⟨e, h0⟩ | ⟨g, cap, cur, e, _⟩
 ·omega
 ·injection e with e1
  subst e1
  obtain ⟨g2, H2, k0, k1, k2⟩ := hs.el i hi
  have b1 := h.lt g rfl
  have b2 := k2.lt g2 rfl
  have hzl := hz _ (lgetC hi)
  exact ⟨g, 0, _, _, _, rfl, by rw [Nat.zero_add, h.cellAt i (by omega)]; exact k1, ⟨Byt.of_owns k2, fun ad e _ => by obtain rfl := Option.some.inj e; exact hf g2 (by omega) b2.2⟩, Nat.le_refl _, by omega, hf g b1.1 b1.2⟩
def SameB (w : World) (base : Nat) (cs : Nat → Value) (s : Lst) (y : Value) : Prop := ∃ ao bo cb zs, s.v = .slice ao s.n s.c ∧ y = .slice bo s.n cb ∧ Tb w base cs ao s.n s.c zs ∧ Tb w base cs bo s.n cb zs
def SameL (w : World) (base : Nat) (cs : Nat → Value) (s : Lst) (y : Value) : Prop := ∃ ao bo cb, ∃ Z : List (List Int), s.v = .slice ao s.n s.c ∧ y = .slice bo s.n cb ∧ Tl w base cs ao Z ∧ Tl w base cs bo Z ∧ (∀ z ∈ Z, Bt z) ∧ Z.length = s.n
theorem SameB.kee {w w' : World} {base : Nat} {cs cs' : Nat → Value} (k : Kee w w' base cs cs') : ∀ s y, SameB w base cs s y → SameB w' base cs' s y := by
 rintro s y ⟨ao, bo, cb, zs, h1, h2, h3, h4⟩
 exact ⟨ao, bo, cb, zs, h1, h2, h3.kee k, h4.kee k⟩
theorem SameL.kee {w w' : World} {base : Nat} {cs cs' : Nat → Value} (k : Kee w w' base cs cs') : ∀ s y, SameL w base cs s y → SameL w' base cs' s y := by
 rintro s y ⟨ao, bo, cb, zs, h1, h2, h3, h4, h5⟩
 exact ⟨ao, bo, cb, zs, h1, h2, h3.kee k, h4.kee k, h5⟩
theorem Blk.row' {w w' : World} {t : TypeId} {g : Nat} {row : Option Nat} (h : Blk w t g) (hg : w.grownBy w' row) (hne : some g ≠ row) : Blk w' t g := by
 have hl := h.lt
 obtain ⟨cur, fr, h⟩ := h
 exact ⟨cur, fr, (hg.block g hl hne).trans h⟩
theorem own_sl {w : World} {H W n : Nat} {t : TypeId} {v : Value} {xs : List Value} (h : w.ownsRow H t W v n xs) : ∃ bo cb, v = .slice bo n cb := by
 rcases h.2 with ⟨rfl, h0⟩ | ⟨g, cap, cur, rfl, _⟩
 ·exact ⟨none, 0, by rw [h0]⟩
 ·exact ⟨_, cap, rfl⟩
structure Rdy (w : World) (base : Nat) (cs : Nat → Value) (W : Nat) (et : TypeId) (s : Lst) : Prop where
 ok : s.Ok W
 th : s.There w
 n : s.n ≤ 1099511620000
 bl : Blk w et s.g
 fr : Fre base cs s.g
theorem Rdy.kee {w w' : World} {base : Nat} {cs cs' : Nat → Value} {W : Nat} {et : TypeId} {s : Lst} (h : Rdy w base cs W et s) (k : Kee w w' base cs cs') : Rdy w' base cs' W et s :=
 ⟨h.ok, k.there h.th h.fr, h.n, h.bl.kee k h.fr, (k.block s.g h.bl.lt h.fr).2⟩
def lsz (v : Value) (g : Nat) : Lst := ⟨v, g, 0, 0, 0, 0, 0⟩
theorem lsz_ok (ao : Option Addr) (g W : Nat) : (lsz (.slice ao 0 0) g).Ok W := ⟨Nat.le_refl _, by simp [lsz], by simp [lsz], by simp [lsz], by simp [lsz], ao, rfl, fun h => by simp [lsz] at h⟩
theorem lsz_there (v : Value) (g : Nat) (w : World) : (lsz v g).There w := fun j hj => by simp [lsz] at hj
theorem lsz_apart (v : Value) (g : Nat) (t : Lst) : t.Apart (lsz v g) := fun i j _ hj => by simp [lsz] at hj
theorem fre_copy {w : World} {B base q g1 n1 c1 g4 n4 c4 lo hi : Nat} {cz : Nat → Value} (hT : Kpt w B base cz) (hlo : w.heap.size ≤ lo) (h1 : g1 < lo) (h4 : g4 < lo ∨ hi ≤ g4) {b : Nat} (hb : lo ≤ b) (hb2 : b < hi) : Fre base (kup (kup cz q (.slice (some ⟨g1, 0, none⟩) n1 c1)) (q + 1) (.slice (some ⟨g4, 0, none⟩) n4 c4)) b := by
 refine ⟨by have := hT.bB.2; omega, fun p hp e => ?_⟩
 by_cases e2 : p = q + 1
 ·subst e2
  rw [kup_same] at e
  have e' : g4 = b := Option.some.inj e
  omega
 ·by_cases e3 : p = q
  ·subst e3
   rw [kup_far _ _ e2, kup_same] at e
   have e' : g1 = b := Option.some.inj e
   omega
  ·rw [kup_far _ _ e2, kup_far _ _ e3] at e
   have := (hT.bk p hp b e).2
   omega
end Go.Proofs.YtnfelndfpmnkmaaGreatDoor
