import Derived.Test.YtcdkkhbkicejiaaGreatDoorQ15
namespace Go.Proofs.YtcdkkhbkicejiaaGreatDoor
open Go.RowKit
theorem Byt.zero (w : World) (ao : Option Addr) : Byt w ao 0 0 [] := ⟨rfl, fun _ => ⟨rfl, rfl⟩, fun ad _ j u hu => by simp at hu⟩
theorem rd_V (R G : Nat) (zs : List Int) (s : Nat × Int) (w : World) (h : Rd w R G zs s.1 s.2) (hbt : Bt zs) :
  Calls Tryz.prog 43 #[.pointer (some ⟨R, 0, none⟩)] w fun en w' => en = .returned (.int .u64 ((sV zs s).1 : Nat)) ∧ Rd w' R G zs (sV zs s).2.1 (sV zs s).2.2 ∧ w.grownBy w' (some R) := by
 obtain ⟨p, e⟩ := s
 by_cases he : e = 0
 ·subst he
  by_cases h0 : (rv (zs.drop p)).2.2 = 0
  ·have e1 : sV zs (p, 0) = ((rv (zs.drop p)).1, (p + (rv (zs.drop p)).2.1, 0)) := by unfold sV; rw [if_pos rfl, if_pos h0]
   rw [e1]
   exact v_ok R G zs p _ _ w h hbt (by rw [← h0])
  ·have e1 : sV zs (p, 0) = (0, (p, (rv (zs.drop p)).2.2)) := by unfold sV; rw [if_pos rfl, if_neg h0]
   rw [e1]
   refine v_bad R G zs p _ w h hbt ?_ (by simpa using h0)
   rcases scan_err 10 0 0 (zs.drop p) with h1 | h1 | h1 | h1
   ·exact absurd h1 h0
   ·show rv _ = _; unfold rv; rw [h1]
   ·show rv _ = _; unfold rv; rw [h1]
   ·show rv _ = _; unfold rv; rw [h1]
 ·have e1 : sV zs (p, e) = (0, (p, e)) := by unfold sV; rw [if_neg he]
  rw [e1]
  exact v_broken R G zs p e w h (by simpa using he)
theorem rd_B (R G : Nat) (zs : List Int) (s : Nat × Int) (m : Int) (w : World) (h : Rd w R G zs s.1 s.2) :
  Calls Tryz.prog 41 #[.pointer (some ⟨R, 0, none⟩), .int .i64 m] w fun en w' => (∃ ao k, en = .returned (.slice ao k k) ∧ Byt w' ao k k (sB zs s m).1 ∧ (0 < k → ao = some ⟨G, s.1, none⟩) ∧ k ≤ zs.length) ∧ Rd w' R G zs (sB zs s m).2.1 (sB zs s m).2.2 ∧ w.grownBy w' (some R) := by
 obtain ⟨p, e⟩ := s
 by_cases he : e = 0
 ·subst he
  have hp : p ≤ zs.length := h.le
  by_cases h0 : m < 0 ∨ (zs.length : Int) - p < m
  ·have e1 : sB zs (p, 0) m = ([], (p, 10)) := by unfold sB; rw [if_pos rfl, if_pos h0]
   rw [e1]
   rcases h0 with h0 | h0
   ·refine (bytes_neg R G zs p m w h h0).mono ?_
    rintro en w' ⟨rfl, h1, h2⟩
    exact ⟨⟨_, _, rfl, Byt.zero _ _, fun h => by omega, by omega⟩, h1, h2⟩
   ·refine (bytes_short R G zs p m w h h0).mono ?_
    rintro en w' ⟨rfl, h1, h2⟩
    exact ⟨⟨_, _, rfl, Byt.zero _ _, fun h => by omega, by omega⟩, h1, h2⟩
  ·have e1 : sB zs (p, 0) m = ((zs.drop p).take m.toNat, (p + m.toNat, 0)) := by unfold sB; rw [if_pos rfl, if_neg h0]
   rw [e1]
   obtain ⟨k, rfl⟩ : ∃ k : Nat, m = (k : Int) := ⟨m.toNat, by omega⟩
   rw [Int.toNat_natCast]
   refine (bytes_ok R G zs p k w h (by omega)).mono ?_
   rintro en w' ⟨ao, rfl, h1, h2, h3, h4⟩
   exact ⟨⟨ao, k, rfl, h2, h1, by omega⟩, h3, h4⟩
 ·have e1 : sB zs (p, e) m = ([], (p, e)) := by unfold sB; rw [if_neg he]
  rw [e1]
  refine (bytes_broken R G zs p e m w h (by simpa using he)).mono ?_
  rintro en w' ⟨ao, rfl, h1, h2⟩
  exact ⟨⟨ao, 0, rfl, Byt.zero _ _, fun h => by omega, by omega⟩, h1, h2⟩
theorem rd_N2 (R G : Nat) (zs : List Int) (s : Nat × Int) (w : World) (h : Rd w R G zs s.1 s.2) (hbt : Bt zs) :
  Calls Tryz.prog 42 #[.pointer (some ⟨R, 0, none⟩)] w fun en w' => en = .returned (.int .u16 ((sN zs s 2).1 : Nat)) ∧ Rd w' R G zs (sN zs s 2).2.1 (sN zs s 2).2.2 ∧ w.grownBy w' (some R) := by
 obtain ⟨p, e⟩ := s
 by_cases he : e = 0
 ·subst he
  by_cases h0 : zs.length < p + 2
  ·have e1 : sN zs (p, 0) 2 = (0, (p, 10)) := by unfold sN; rw [if_pos rfl, if_pos h0]
   rw [e1]
   exact get_u16_short R G zs p w h h0
  ·have e1 : sN zs (p, 0) 2 = (le 2 (zs.drop p), (p + 2, 0)) := by unfold sN; rw [if_pos rfl, if_neg h0]
   rw [e1]
   exact get_u16_ok R G zs p w h hbt (by omega)
 ·have e1 : sN zs (p, e) 2 = (0, (p, e)) := by unfold sN; rw [if_neg he]
  rw [e1]
  exact get_u16_broken R G zs p e w h (by simpa using he)
theorem rd_N4 (R G : Nat) (zs : List Int) (s : Nat × Int) (w : World) (h : Rd w R G zs s.1 s.2) (hbt : Bt zs) :
  Calls Tryz.prog 113 #[.pointer (some ⟨R, 0, none⟩)] w fun en w' => en = .returned (.int .u32 ((sN zs s 4).1 : Nat)) ∧ Rd w' R G zs (sN zs s 4).2.1 (sN zs s 4).2.2 ∧ w.grownBy w' (some R) := by
 obtain ⟨p, e⟩ := s
 by_cases he : e = 0
 ·subst he
  by_cases h0 : zs.length < p + 4
  ·have e1 : sN zs (p, 0) 4 = (0, (p, 10)) := by unfold sN; rw [if_pos rfl, if_pos h0]
   rw [e1]
   exact get_u32_short R G zs p w h h0
  ·have e1 : sN zs (p, 0) 4 = (le 4 (zs.drop p), (p + 4, 0)) := by unfold sN; rw [if_pos rfl, if_neg h0]
   rw [e1]
   exact get_u32_ok R G zs p w h hbt (by omega)
 ·have e1 : sN zs (p, e) 4 = (0, (p, e)) := by unfold sN; rw [if_neg he]
  rw [e1]
  exact get_u32_broken R G zs p e w h (by simpa using he)
def Lr (w : World) (Q R : Nat) (po : Option Addr) (pn pc : Nat) : Prop := w.heap[Q]? = some (.cells #[.pointer (some ⟨R, 0, none⟩), .slice po pn pc] 63 (0, 0))
theorem Lr.cells {w : World} {Q R : Nat} {po : Option Addr} {pn pc : Nat} (h : Lr w Q R po pn pc) : w.cell? ⟨Q, 0, none⟩ = some (.pointer (some ⟨R, 0, none⟩)) ∧ w.cell? ⟨Q, 1, none⟩ = some (.slice po pn pc) ∧ w.frozen? ⟨Q, 1, none⟩ = false := by
 refine ⟨?_, ?_, frozen_of_row w Q 1 _ _ h⟩
 ·rw [cell_of_row w Q 0 _ _ _ h]; rfl
 ·rw [cell_of_row w Q 1 _ _ _ h]; rfl
theorem Lr.lt {w : World} {Q R : Nat} {po : Option Addr} {pn pc : Nat} (h : Lr w Q R po pn pc) : Q < w.heap.size := (Array.getElem?_eq_some_iff.1 h).1
theorem Lr.kept {w w' : World} {Q R : Nat} {po : Option Addr} {pn pc : Nat} {row : Option Nat} (h : Lr w Q R po pn pc) (hg : w.grownBy w' row) (hne : some Q ≠ row) : Lr w' Q R po pn pc := (hg.block Q h.lt hne).trans h
theorem sV_lt (zs : List Int) (s : Nat × Int) (h : Bt zs) : (sV zs s).1 < 18446744073709551616 := by
 unfold sV
 split
 ·split
  ·rename_i h0 h1
   obtain ⟨x, n, e⟩ : ∃ x n, rv (zs.drop s.1) = (x, n, 0) := ⟨_, _, by rw [← h1]⟩
   have := (rv_back (zs.drop s.1) x n (h.drop _) e).1
   rw [e]; exact this
  ·exact Nat.zero_lt_succ _
 ·exact Nat.zero_lt_succ _
theorem i64_wrap {x : Nat} (h : x < 18446744073709551616) : IntKind.i64.wrap (x : Int) = i64 x := by
 unfold i64
 simp [IntKind.wrap, IntKind.bits, IntKind.signed]
 split <;> omega
theorem wpList_copy_ro {w : World} {ops : Array Oper} {rest : List Oper} {o : Oper} {a : Act} {Q : Exit → Act → World → Prop} (hgd : o.guard = none) (d s : Operand)
  (ho : o.op = .call { callee := .builtin .copy, args := #[d, s], argTypes := #[42, 42] })
  (dp sp : Option Addr) (dLen dCap sLen sCap : Nat) (hd : a.eval d = .slice dp dLen dCap) (hs : a.eval s = .slice sp sLen sCap)
  (g off : Nat) (cur : List Value) (hg : w.heap[g]? = some (.cells cur.toArray 5 (0, 0))) (cs : List Value) (hn : cs.length = Nat.min sLen dLen)
  (hpos : 0 < cs.length → dp = some ⟨g, off, none⟩ ∧ ∃ ad, sp = some ad ∧ ∀ j v, cs[j]? = some v → w.cell? (ad.add j) = some v)
  (hfit : off + cs.length ≤ cur.length) (h1 : ∀ v ∈ cs, v.oneCell' = true) (k : Nat) (hk : cs.length = k)
  (h : ∀ w', Ro w w' g (splice cur off cs) → wpList Tryz.prog ops Q rest (a.put o.dst (.int .i64 (k : Int))) w') : wpList Tryz.prog ops Q (o :: rest) a w := by
 obtain ⟨i0, hi, hz0, hz1, hz2⟩ := info_parts info_u8
 have hsz : (Tryz.prog.info? 5).map (·.size) = some 1 := by rw [hi]; exact congrArg some hz1
 subst hk
 by_cases h0 : cs.length = 0
 ·obtain rfl : cs = [] := List.eq_nil_of_length_eq_zero h0
  refine wpList_copy_nothing hgd d s 42 42 ho 5 Tryz.underlying42 hsz dp sp dLen dCap sLen sCap hd hs (by simpa using hn.symm) ?_
  exact h w ⟨by simpa [splice] using hg, fun _ _ => rfl, rfl, rfl, rfl, rfl⟩
 ·obtain ⟨rfl, ad, rfl, hsrc⟩ := hpos (by omega)
  refine wpList_copy_own hgd d s 42 42 ho 5 Tryz.underlying42 hsz g off dLen dCap ad sLen sCap hd hs cur.toArray 5 hg cs hn hsrc (by simpa using hfit) h1 ?_
  exact h _ ⟨by simpa [splice] using setRow_heap w g _ _ _ _ hg, fun k hk => setRow_other w g k _ hk, by simp [World.setRow], rfl, rfl, rfl⟩
theorem wpList_copy_bytes {w : World} {ops : Array Oper} {rest : List Oper} {o : Oper} {a : Act} {Q : Exit → Act → World → Prop} (hgd : o.guard = none) (d s : Operand)
  (ho : o.op = .call { callee := .builtin .copy, args := #[d, s], argTypes := #[42, 42] })
  (dp sp : Option Addr) (dLen dCap sLen sCap : Nat) (hd : a.eval d = .slice dp dLen dCap) (hs : a.eval s = .slice sp sLen sCap)
  (g off : Nat) (cs ts : List Int) (hg : Rw w g cs) (hb : Byt w sp sLen sCap ts) (hn : sLen ≤ dLen) (hdp : 0 < sLen → dp = some ⟨g, off, none⟩) (hfit : off + sLen ≤ cs.length)
  (h : ∀ w', Rw w' g (splice cs off ts) → w.grownBy w' (some g) → wpList Tryz.prog ops Q rest (a.put o.dst (.int .i64 (sLen : Int))) w') : wpList Tryz.prog ops Q (o :: rest) a w := by
 have hl := hb.len
 refine wpList_copy_ro hgd d s ho dp sp dLen dCap sLen sCap hd hs g off (cs.map (Value.int .u8)) hg (ts.map (Value.int .u8)) (by rw [List.length_map, hl]; exact (Nat.min_eq_left hn).symm) (fun h0 => ?_) (by rw [List.length_map, List.length_map]; omega) (ints_oneCell _ _) sLen (by rw [List.length_map, hl]) fun w' hro => h w' ?_ hro.grown
 ·refine ⟨hdp (by simpa [hl] using h0), ?_⟩
  cases sp with
  | none => have := (hb.nil rfl).1; simp [hl] at h0; omega
  | some ad => exact ⟨ad, rfl, hb.cells ad rfl⟩
 ·unfold Rw
  rw [← splice_map]
  exact hro.row
theorem grown_newR {a b c : World} {R g : Nat} (h : a.grownBy b (some R)) (k : b.grownBy c (some g)) (hg : a.heap.size ≤ g) : a.grownBy c (some R) :=
 ⟨k.os.trans h.os, k.tape.trans h.tape, k.output.trans h.output, Nat.le_trans h.size k.size,
  fun i hi hne => (k.block i (Nat.lt_of_lt_of_le hi h.size) (by intro e; have := Option.some.inj e; omega)).trans (h.block i hi hne)⟩
theorem splice_fill {Z X Y : List Int} (hZ : Z.length = X.length + Y.length) : splice (splice Z 0 X) X.length Y = X ++ Y := by
 have := splice_two (cs := Z) (xs := X) (ys := Y) (p := 0) (by omega)
 rw [Nat.zero_add] at this
 rw [this]
 unfold splice
 rw [List.take_zero, List.nil_append, Nat.zero_add, List.drop_eq_nil_of_le (by rw [List.length_append]; omega), List.append_nil]
set_option maxHeartbeats 4000000 in
set_option maxRecDepth 100000 in
theorem key_any (Q R G : Nat) (zs : List Int) (s : Nat × Int) (po : Option Addr) (pn pc : Nat) (P : List Int) (w : World) (hq : Lr w Q R po pn pc) (h : Rd w R G zs s.1 s.2) (hbt : Bt zs) (hP : Byt w po pn pc P) (hpb : ∀ ad, po = some ad → 0 < pn → ad.block ≠ R) (hQR : Q ≠ R) (hpn : pn ≤ 5000) (hz : zs.length ≤ 5000) :
  Calls Tryz.prog 112 #[.pointer (some ⟨Q, 0, none⟩)] w fun en w' => (∃ g k, en = .returned (.slice (some ⟨g, 0, none⟩) k k) ∧ Rw w' g (sKey zs P s).1 ∧ (sKey zs P s).1.length = k ∧ w.heap.size ≤ g ∧ k ≤ 10000) ∧ Rd w' R G zs (sKey zs P s).2.1 (sKey zs P s).2.2 ∧ w.grownBy w' (some R) := by
 obtain ⟨i0, hi, hz0, hz1, hz2⟩ := info_parts info_u8
 obtain ⟨c0, c1, _⟩ := hq.cells
 have HKD : Hid (sKey zs P s = (P ++ (sB zs (sV zs s).2 (i64 (sV zs s).1)).1, (sB zs (sV zs s).2 (i64 (sV zs s).1)).2)) := rfl
 have HV := hid_intro (fun (W : World) (hW : Rd W R G zs s.1 s.2) => rd_V R G zs s W hW hbt)
 have HB := hid_intro (fun (W : World) (hW : Rd W R G zs (sV zs s).2.1 (sV zs s).2.2) => rd_B R G zs (sV zs s).2 (i64 (sV zs s).1) W hW)
 have hvl := sV_lt zs s hbt
 have hwr := i64_wrap hvl
 generalize (sV zs s).2 = s1 at *
 generalize (sV zs s).1 = x at *
 generalize i64 x = m at *
 have HR := hid_intro h
 have HQ := hid_intro hq
 have HP := hid_intro hP
 clear h hq hP
 go_enter Tryz.func112, Tryz.ntmps112
 go_wp2_with fail
 go_region_with (first
  | (go_at_call 43; refine (HV.out _ (by exact HR.out.kept ((Qt.refl w).drew.grown none) (by simp) (by simp))).mono ?_; rintro en w1 ⟨rfl, hr1, hg1⟩; have d0 := hg1.cell (by exact c0) (by intro e; exact hQR (Option.some.inj e)); have d1 := hg1.cell (by exact c1) (by intro e; exact hQR (Option.some.inj e)))
  | (go_at_call 41; refine (HB.out _ hr1).mono ?_; rintro en w2 ⟨⟨ao, k, rfl, hb2, hao, hk⟩, hr2, hg2⟩; have e0 := hg2.cell d0 (by intro e; exact hQR (Option.some.inj e)); have e1 := hg2.cell d1 (by intro e; exact hQR (Option.some.inj e))))
 all_goals
  have hP2 : Byt w2 po pn pc P := ((HP.out.kept ((Qt.refl w).drew.grown none) (by simp)).kept hg1 (fun ad e h e2 => hpb ad e h (Option.some.inj e2))).kept hg2 (fun ad e h e2 => hpb ad e h (Option.some.inj e2))
  have HP2 := hid_intro hP2
  have HG2 := hid_intro (grown_trans (grown_trans ((Qt.refl w).drew.grown (some R)) hg1) hg2)
  have HR2 := hid_intro hr2
  have HB2 := hid_intro hb2
  have HAO := hid_intro hao
  have hlP := HP.out.len
  have hlB := hb2.len
  have HLP := hid_intro hlP
  have HLB := hid_intro hlB
  clear hP2 hg1 hg2 hr1 hr2 hb2 hao d0 d1 c0 c1 HV HB HR HQ HP hlP hlB
  go_wp2_with (at_make; refine wpList_make_full _ rfl _ _ 42 rfl w2.heap.size 5 i0 (.int .u8 0) 1 Tryz.underlying42 hi hz0 hz1 _ _ _ _ (pn + k) rfl rfl (by simp) (by simp) ?b2 ?b3 (Nat.le_refl _) ?_)
  case b2 => rw [hz2]; omega
  case b3 => unfold maxLen; omega
  intro w3 hown3 hg3
  rw [made] at hown3
  have R3 := hid_intro (Rw.of_owns hown3)
  have HG3 := hid_intro (grown_trans HG2.out (grown_any hg3))
  have P3 := hid_intro (HP2.out.keptN hg3)
  have B3 := hid_intro (HB2.out.keptN hg3)
  have D3 := hid_intro (HR2.out.kept hg3 (by simp) (by simp))
  have hgl : Hid (w.heap.size ≤ w2.heap.size) := HG2.out.size
  have HGR : Hid (w2.heap.size ≠ R ∧ w2.heap.size ≠ G ∧ w2.heap.size ≠ Q) := by
   have a1 := HR2.out.lt
   have a2 := World.block_lt_of_cell? _ _ e0
   exact ⟨by omega, by omega, by intro e; simp at a2; omega⟩
  have e1' := hg3.cell e1 (by simp)
  have HBB : Hid (∀ ad, po = some ad → 0 < pn → ad.block < w2.heap.size) := fun ad e h => HP2.out.lt e h
  have HBC : Hid (∀ ad, ao = some ad → 0 < k → ad.block < w2.heap.size) := fun ad e h => HB2.out.lt e h
  clear hown3 hg3 HG2 HP2 HB2 HR2 e0 e1
  generalize w2.heap.size = g at *
  have hfit : Hid ((List.replicate (pn + k) (0 : Int)).length = pn + k) := List.length_replicate
  go_wp2_with (refine wpList_copy_bytes rfl _ _ rfl _ _ _ _ _ _ rfl rfl g 0 (List.replicate (pn + k) 0) P R3.out P3.out (by omega) (fun _ => rfl) (by rw [hfit.out]; omega) ?_)
  intro w4 hr4 hg4
  have R4 := hid_intro hr4
  have B4 := hid_intro (B3.out.kept hg4 (fun ad e h e2 => by have := HBC.out ad e h; have := Option.some.inj e2; omega))
  have D4 := hid_intro (D3.out.kept hg4 (fun e2 => HGR.out.1 (Option.some.inj e2).symm) (fun e2 => HGR.out.2.1 (Option.some.inj e2).symm))
  have HG4 := hid_intro (grown_newR HG3.out hg4 hgl.out)
  clear hr4 hg4 R3 B3 D3 HG3 P3 e1'
  have g1 : (0 : Int) ≤ (pn : Int) := by omega
  have g2 : (pn : Int) ≤ (pn : Int) + (k : Int) := by omega
  have hl4 : Hid ((splice (List.replicate (pn + k) 0) 0 P).length = pn + k) := by show _ = _; rw [splice_len (by rw [hfit.out, HLP.out]; omega)]; exact hfit.out
  by_cases hk0 : k = 0
  ·subst hk0
   go_wp2_with (refine wpList_copy_bytes rfl _ _ rfl _ _ _ _ _ _ rfl rfl g pn (splice (List.replicate (pn + 0) 0) 0 P) (sB zs s1 m).1 R4.out B4.out (by omega) (fun h => by omega) (by rw [hl4.out]; exact Nat.le_refl _) ?_)
   intro w5 hr5 hg5
   have R5 := hid_intro hr5
   have D5 := hid_intro (D4.out.kept hg5 (fun e2 => HGR.out.1 (Option.some.inj e2).symm) (fun e2 => HGR.out.2.1 (Option.some.inj e2).symm))
   have HG5 := hid_intro (grown_newR HG4.out hg5 hgl.out)
   clear hr5 hg5 R4 B4 D4 HG4
   go_wp2
   go_ret
   rw [HKD.out]
   refine ⟨⟨g, pn + 0, rfl, ?_, by rw [List.length_append, HLP.out, HLB.out], hgl.out, by omega⟩, D5.out, HG5.out⟩
   have e := splice_fill (Z := List.replicate (pn + 0) 0) (X := P) (Y := (sB zs s1 m).1) (by rw [hfit.out, HLP.out, HLB.out])
   rw [HLP.out] at e
   rw [← e]; exact R5.out
  ·have g3 : ¬ pn + k = pn := by omega
   go_wp2_with (refine wpList_copy_bytes rfl _ _ rfl _ _ _ _ _ _ rfl rfl g pn (splice (List.replicate (pn + k) 0) 0 P) (sB zs s1 m).1 R4.out B4.out (by omega) (fun h => by first | rfl | simp [Nat.zero_add]) (by rw [hl4.out]; exact Nat.le_refl _) ?_)
   intro w5 hr5 hg5
   have R5 := hid_intro hr5
   have D5 := hid_intro (D4.out.kept hg5 (fun e2 => HGR.out.1 (Option.some.inj e2).symm) (fun e2 => HGR.out.2.1 (Option.some.inj e2).symm))
   have HG5 := hid_intro (grown_newR HG4.out hg5 hgl.out)
   clear hr5 hg5 R4 B4 D4 HG4
   go_wp2
   go_ret
   rw [HKD.out]
   refine ⟨⟨g, pn + k, rfl, ?_, by rw [List.length_append, HLP.out, HLB.out], hgl.out, by omega⟩, D5.out, HG5.out⟩
   have e := splice_fill (Z := List.replicate (pn + k) 0) (X := P) (Y := (sB zs s1 m).1) (by rw [hfit.out, HLP.out, HLB.out])
   rw [HLP.out] at e
   rw [← e]; exact R5.out
end Go.Proofs.YtcdkkhbkicejiaaGreatDoor
