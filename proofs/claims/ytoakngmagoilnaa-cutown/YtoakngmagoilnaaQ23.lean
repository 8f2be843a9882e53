import Derived.Test.YtoakngmagoilnaaQ15
import Derived.Test.YtoakngmagoilnaaQ21
import Derived.Test.YtoakngmagoilnaaQ22
import Derived.Test.YtoakngmagoilnaaQ20
import Derived.Test.YtoakngmagoilnaaQ18
import Derived.Test.YtoakngmagoilnaaQ17
import Derived.ArgAppend
namespace Go.Proofs.Ytoakngmagoilnaa
open Go.RowKit
set_option maxHeartbeats 1000000 in
set_option maxRecDepth 100000 in
theorem refLists_own (a : Option Addr) (n cap : Nat) (L : List (List Int)) (w : World) (hl : Lz w a L) (hn : L.length = n) (hm : n ≤ 5000) (hs : ∀ s ∈ L, s.length ≤ 140737488351240) :
  Calls Try.prog 6 #[.slice a n cap] w fun en w' => (∃ v xs, en = .returned v ∧ w'.ownsRow w.heap.size 26 1 v n xs ∧ Sx w' xs L) ∧ w.grownBy w' none := by
 obtain ⟨i0, hi, hz0, hz1, hz2⟩ := info_parts info_bytesS
 have HL := hid_intro hl
 have HS := hid_intro hs
 clear hl hs
 go_enter Try.func6, Try.ntmps6
 go_wp2_with (at_make; refine wpList_make_own _ rfl _ _ 23 rfl w.heap.size 26 i0 (.slice none 0 0) 1 Try.underlying23 hi hz0 hz1 _ _ _ n rfl rfl rfl ?b2 ?b3 (Nat.le_refl _) ?_)
 case b2 => rw [hz2]; omega
 case b3 => unfold maxLen; omega
 intro w0 hown0 hg0
 have O0 := hid_intro hown0
 have G0 := hid_intro hg0
 clear hown0 hg0
 go_wp2
 go_loopw [3, 4, 5] (fun sl si _ wr => ∃ (i : Nat) (xs : List Value), i ≤ n ∧ si = .int .i64 i ∧ Sx wr xs (L.take i) ∧ wr.ownsRow w.heap.size 26 1 sl i xs ∧ w.grownBy wr none) (fun _ si _ _ => n - (intOf si).toNat)
 case atStart => exact ⟨0, [], Nat.zero_le _, rfl, Sx.nil _, O0.out, G0.out⟩
 case round =>
  obtain ⟨i, xs, hi', rfl, hsv, hown, hg⟩ := hrel
  have HV := hid_intro hsv
  have HO := hid_intro hown
  have HG := hid_intro hg
  clear hsv hown hg O0 G0
  by_cases hlt : i < n
  ·obtain ⟨b1, off, ao, k, c, rfl, q2, q3, q4, q5⟩ := HL.out.row i (by omega)
   have c0 := HG.out.cell q2 (by simp)
   have B0 := hid_intro (q3.keptN HG.out)
   have hk := q3.len
   have hk2 := HS.out _ (lget_mem (show i < L.length by omega))
   have HTK : Hid (L.take (i + 1) = L.take i ++ [L.getD i []]) := by
    show _ = _
    rw [List.take_add_one, List.getElem?_eq_getElem (show i < L.length by omega)]
    simp [List.getD, List.getElem?_eq_getElem (show i < L.length by omega)]
   clear q2 q3
   generalize L.getD i [] = x at *
   go_wp2_with fail
   refine (refBytes_any ao k c x _ B0.out (by omega)).mono ?_
   rintro en w2 ⟨rfl, hown2, hg2, hs2⟩
   have R2 := hid_intro hown2
   have HV2 := hid_intro (HV.out.keptN hg2)
   have HO2 := hid_intro (own_kept5 HO.out hg2)
   have HG2 := hid_intro (grown_trans HG.out hg2)
   have hgl := HG.out.size
   clear hown2 hg2 hs2 HV HO HG B0 c0
   generalize wr.heap.size = g at *
   go_wp2_with (at_builtin; refine wpList_append_own _ rfl _ _ 23 rfl w.heap.size 26 i0 (.slice none 0 0) 1 24 Try.underlying23 hi hz0 hz1 hz2 rfl (by decide) _ i xs rfl (HO2.out.alloc _) ⟨w2.heap.size, 0, none⟩ 1 1 [.slice (some ⟨g, 0, none⟩) k k] rfl rfl (cell_one_new _ _ _) (by intro u hu; simp at hu; subst hu; rfl) (by unfold maxLen; omega) (by omega) (by have := HG2.out.size; simp; omega) ?_)
   intro v' w4 ho4 hg4 _
   have hg24 := World.grownBy_alloc w2 (.cells #[.slice (some ⟨g, 0, none⟩) k k] 26) none
   have HV4 := hid_intro (((HV2.out.keptN hg24).snoc (own_kept5 R2.out hg24) hk).kept hg4 (HO2.out.alloc (.cells #[.slice (some ⟨g, 0, none⟩) k k] 26)))
   have HG4 := hid_intro (grown_app5 HG2.out HO2.out (Nat.le_refl _) hg4)
   have HO4 := hid_intro ho4
   clear hg24 ho4 hg4 HV2 HO2 HG2 R2
   go_wp2
   go_roundw
   case rel => exact ⟨i + 1, _, by omega, by go_num, by rw [HTK.out]; exact HV4.out, HO4.out, HG4.out⟩
   case measure => simp [intOf]; omega
  ·have hin : i = n := by omega
   subst hin
   have e : L.take i = L := by rw [← hn, List.take_length]
   rw [e] at HV
   go_wp2
   go_ret
   exact ⟨⟨_, xs, rfl, HO.out, HV.out⟩, HG.out⟩
theorem Byt.beside {w : World} {ao : Option Addr} {n c : Nat} {zs : List Int} {a : Addr} {old v : Value} (h : Byt w ao n c zs) (ho : w.cell? a = some old) (hne : ∀ z : Int, old ≠ .int .u8 z) : Byt (w.setCell a v) ao n c zs := by
 refine ⟨h.len, h.nil, fun ad had j u hu => ?_⟩
 have h1 := h.cells ad had j u hu
 by_cases e : a = ad.add j
 ·rw [← e, ho] at h1
  simp only [Option.some.injEq] at h1
  rw [List.getElem?_map] at hu
  obtain ⟨z, _, hz⟩ := Option.map_eq_some_iff.1 hu
  exact absurd (h1.trans hz.symm) (hne z)
 ·rw [World.cell?_setCell_other _ _ _ _ e]
  exact h1
theorem Il.setSize {w : World} {A : Nat} {L : List It} (h : Il w (some ⟨A, 0, none⟩) L) {k : Nat} (hk : k < L.length) (v : Int) :
  Il (w.setCell ⟨A, k * 4 + 2, none⟩ (.int .i64 v)) (some ⟨A, 0, none⟩) (L.set k { L.getD k it0 with size := v }) := by
 obtain ⟨b, off, ao, n, c, bo, m, d, e, q2, q3, q4, q5, _⟩ := h.row k hk
 simp only [Option.some.injEq, Addr.mk.injEq] at e
 obtain ⟨rfl, rfl, _⟩ := e
 rw [Nat.zero_add] at q4
 have nu : ∀ z : Int, (Value.int .i64 (L.getD k it0).size) ≠ .int .u8 z := fun z e => by cases e
 refine ⟨fun i hi => ?_⟩
 rw [List.length_set] at hi
 obtain ⟨b, off, ao, n, c, bo, m, d, e, r2, r3, r4, r5, r6, r7, r8, r9, r10, r11⟩ := h.row i hi
 simp only [Option.some.injEq, Addr.mk.injEq] at e
 obtain ⟨rfl, rfl, _⟩ := e
 have far : ∀ o u, o ≠ k * 4 + 2 → w.cell? ⟨A, o, none⟩ = some u → (w.setCell ⟨A, k * 4 + 2, none⟩ (.int .i64 v)).cell? ⟨A, o, none⟩ = some u := by
  intro o u ho hu
  rw [World.cell?_setCell_other _ _ _ _ (by intro e; simp only [Addr.mk.injEq] at e; omega)]
  exact hu
 by_cases e : i = k
 ·subst e
  have eg : (L.set i { L.getD i it0 with size := v }).getD i it0 = { L.getD i it0 with size := v } := by
   simp [List.getD, hi]
  rw [eg]
  exact ⟨A, 0, ao, n, c, bo, m, d, rfl, far _ _ (by omega) r2, far _ _ (by omega) r3, by rw [Nat.zero_add]; exact World.cell?_setCell_same _ _ _ q4, far _ _ (by omega) r5, r6.beside q4 nu, r7, r8, r9.beside q4 nu, r10, r11⟩
 ·have eg : (L.set k { L.getD k it0 with size := v }).getD i it0 = L.getD i it0 := by
   simp only [List.getD]
   rw [List.getElem?_set_ne (by omega)]
  rw [eg]
  exact ⟨A, 0, ao, n, c, bo, m, d, rfl, far _ _ (by omega) r2, far _ _ (by omega) r3, far _ _ (by omega) r4, far _ _ (by omega) r5, r6.beside q4 nu, r7, r8, r9.beside q4 nu, r10, r11⟩
theorem Il.far {w : World} {A B j : Nat} {L : List It} {old v : Value} (h : Il w (some ⟨A, 0, none⟩) L) (hne : A ≠ B) (ho : w.cell? ⟨B, j, none⟩ = some old) (nu : ∀ z : Int, old ≠ .int .u8 z) : Il (w.setCell ⟨B, j, none⟩ v) (some ⟨A, 0, none⟩) L := by
 refine ⟨fun i hi => ?_⟩
 obtain ⟨b, off, ao, n, c, bo, m, d, e, r2, r3, r4, r5, r6, r7, r8, r9, r10, r11⟩ := h.row i hi
 simp only [Option.some.injEq, Addr.mk.injEq] at e
 obtain ⟨rfl, rfl, _⟩ := e
 have far : ∀ o u, w.cell? ⟨A, o, none⟩ = some u → (w.setCell ⟨B, j, none⟩ v).cell? ⟨A, o, none⟩ = some u := by
  intro o u hu
  rw [World.cell?_setCell_other _ _ _ _ (by intro e; simp only [Addr.mk.injEq] at e; exact hne e.1.symm)]
  exact hu
 exact ⟨A, 0, ao, n, c, bo, m, d, rfl, far _ _ r2, far _ _ r3, far _ _ r4, far _ _ r5, r6.beside ho nu, r7, r8, r9.beside ho nu, r10, r11⟩
theorem Lz.far {w : World} {A B j : Nat} {L : List (List Int)} {old v : Value} (h : Lz w (some ⟨A, 0, none⟩) L) (hne : A ≠ B) (ho : w.cell? ⟨B, j, none⟩ = some old) (nu : ∀ z : Int, old ≠ .int .u8 z) : Lz (w.setCell ⟨B, j, none⟩ v) (some ⟨A, 0, none⟩) L := by
 refine ⟨fun i hi => ?_⟩
 obtain ⟨b, off, ao, n, c, e, r2, r3, r4, r5⟩ := h.row i hi
 simp only [Option.some.injEq, Addr.mk.injEq] at e
 obtain ⟨rfl, rfl, _⟩ := e
 exact ⟨A, 0, ao, n, c, rfl, by rw [World.cell?_setCell_other _ _ _ _ (by intro e; simp only [Addr.mk.injEq] at e; exact hne e.1.symm)]; exact r2, r3.beside ho nu, r4, r5⟩
theorem Lz.setAt {w : World} {B : Nat} {L : List (List Int)} (h : Lz w (some ⟨B, 0, none⟩) L) {k : Nat} (hk : k < L.length) {ao : Option Addr} {n c : Nat} {x : List Int} (hx : Byt w ao n c x) (hn : n ≤ c) (hc : c ≤ 9223372036854775807) :
  Lz (w.setCell ⟨B, k, none⟩ (.slice ao n c)) (some ⟨B, 0, none⟩) (L.set k x) := by
 obtain ⟨b, off, ao1, n1, c1, e, q2, _⟩ := h.row k hk
 simp only [Option.some.injEq, Addr.mk.injEq] at e
 obtain ⟨rfl, rfl, _⟩ := e
 rw [Nat.zero_add] at q2
 have nu : ∀ z : Int, (Value.slice ao1 n1 c1) ≠ .int .u8 z := fun z e => by cases e
 refine ⟨fun i hi => ?_⟩
 rw [List.length_set] at hi
 by_cases e : i = k
 ·subst e
  have eg : (L.set i x).getD i [] = x := by simp [List.getD, hi]
  rw [eg]
  exact ⟨B, 0, ao, n, c, rfl, by rw [Nat.zero_add]; exact World.cell?_setCell_same _ _ _ q2, hx.beside q2 nu, hn, hc⟩
 ·obtain ⟨b, off, ao2, n2, c2, e2, r2, r3, r4, r5⟩ := h.row i hi
  simp only [Option.some.injEq, Addr.mk.injEq] at e2
  obtain ⟨rfl, rfl, _⟩ := e2
  have eg : (L.set k x).getD i [] = L.getD i [] := by
   simp only [List.getD]
   rw [List.getElem?_set_ne (by omega)]
  rw [eg]
  exact ⟨B, 0, ao2, n2, c2, rfl, by rw [World.cell?_setCell_other _ _ _ _ (by intro e3; simp only [Addr.mk.injEq] at e3; omega)]; exact r2, r3.beside q2 nu, r4, r5⟩
theorem wpList_append_lit {w : World} {ops : Array Oper} {rest : List Oper} {o : Oper} {a : Act} {Q : Exit → Act → World → Prop} (hgd : o.guard = none) (s x : Operand)
  (ho : o.op = .call { callee := .builtin .append, args := #[s, x], argTypes := #[26, 26] })
  (g : Nat) (zs : List Int) (hs : a.eval s = .slice (some ⟨g, 0, none⟩) 5 5) (hlit : Byt w (some ⟨g, 0, none⟩) 5 5 zs)
  (ao : Option Addr) (m c : Nat) (ts : List Int) (hx : a.eval x = .slice ao m c) (hb : Byt w ao m c ts) (hm : m ≤ 140737488354000)
  (h : ∀ ao' c' w', Byt w' ao' (5 + m) c' (zs ++ ts) → 5 + m ≤ c' → c' ≤ 9223372036854775807 → w.grownBy w' none → wpList Try.prog ops Q rest (a.put o.dst (.slice ao' (5 + m) c')) w') : wpList Try.prog ops Q (o :: rest) a w := by
 obtain ⟨i0, hi, hz0, hz1, hz2⟩ := info_parts info_u8
 by_cases hm0 : m = 0
 ·subst hm0
  have ht : ts = [] := List.length_eq_zero_iff.1 hb.len
  subst ht
  have hr : ∀ ty, (Builtin.append_ #[26, 26] ty #[.slice (some ⟨g, 0, none⟩) 5 5, .slice ao 0 c]).run Try.prog w = .ok (.slice (some ⟨g, 0, none⟩) 5 5) w := by
   intro ty
   cases ao with
   | none => simp [Builtin.append_, run_underlying Try.underlying26, sizeOf, typeInfo, hi, Builtin.lenOf, Builtin.firstCells, storeCells]
   | some ad =>
    have := run_append_room_cells (P := Try.prog) w 26 ty 5 i0 Try.underlying26 hi g 0 5 5 ad 0 c [] (by simp) (fun j u hu => by simp at hu) (fun u hu => by simp at hu) (Nat.le_refl _) (fun j hj => by simp at hj) (fun j hj => by simp at hj)
    simpa [World.setCells] using this
  refine Go.Lib.wpList_append_run _ hgd s x _ _ ho _ _ hs hx _ _ (hr _) ?_
  exact h _ 5 w (by rw [List.append_nil]; exact hlit) (Nat.le_refl _) (by omega) (World.grownBy.refl _ _)
 ·cases ao with
  | none => exact absurd (hb.nil rfl).1 hm0
  | some ad =>
   refine wpList_append_grows w hgd s x 26 ho 5 i0 (.int .u8 0) 1 1 Try.underlying26 hi hz0 hz1 hz2 rfl (by decide) (some ⟨g, 0, none⟩) 5 5 (zs.map (Value.int .u8)) hs (fun e => by cases e) (by rw [List.length_map, hlit.len]) (fun b hbe j u hu => by simp only [Option.some.injEq] at hbe; subst hbe; exact hlit.cells _ rfl j u hu) ad m c (ts.map (Value.int .u8)) hx (by rw [List.length_map, hb.len, Nat.mul_one]) (hb.cells ad rfl) (ints_oneCell _ _) (by omega) (by unfold maxLen; omega) (by omega) ?_
   intro v' w' h1 h2
   obtain ⟨fo, fc, hv, F⟩ := owns_any (zs := zs ++ ts) (by rw [List.map_append]; exact h1)
   have hcap : 5 + m ≤ fc ∧ fc ≤ 9223372036854775807 := by
    rcases h1.2 with ⟨k1, k2⟩ | ⟨g', cp, cur, k1, _, _, k2, k3, _⟩
    ·omega
    ·rw [k1] at hv
     simp only [Value.slice.injEq] at hv
     unfold maxLen at k3
     omega
   subst hv
   exact h fo fc w' F hcap.1 hcap.2 h2
end Go.Proofs.Ytoakngmagoilnaa
