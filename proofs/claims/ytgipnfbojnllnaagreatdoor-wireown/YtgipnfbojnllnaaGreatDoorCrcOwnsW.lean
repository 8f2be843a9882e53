import Derived.Test.YtgipnfbojnllnaaGreatDoorBookZ
import Derived.Test.YtgipnfbojnllnaaGreatDoorCrc8P
import Derived.Laws.Tables
namespace Go.Proofs.YtgipnfbojnllnaaGreatDoor
open Go.RowKit

/-- A list of lists of bytes, as it came in. -/
structure Ll (w : World) (lo : Option Addr) (ln : Nat) : Prop where
  el : ∀ i, i < ln → ∃ b off ao n c zs, lo = some ⟨b, off, none⟩ ∧ w.cell? ⟨b, off + i, none⟩ = some (.slice ao n c) ∧ Byt w ao n c zs ∧ Bt zs
theorem Ll.kept {w w' : World} {lo : Option Addr} {ln : Nat} (h : Ll w lo ln) (hg : w.grownBy w' none) : Ll w' lo ln :=
  ⟨fun i hi => by
    obtain ⟨b, off, ao, n, c, zs, h1, h2, h3, h4⟩ := h.el i hi
    exact ⟨b, off, ao, n, c, zs, h1, hg.cell h2 (by simp), h3.keptN hg, h4⟩⟩

/-- 'copy(place, ts)', place a whole row. -/
theorem wpList_copy_rw {w : World} {ops : Array Oper} {rest : List Oper} {o : Oper} {a : Act} {Q : Exit → Act → World → Prop} (hgd : o.guard = none) (d s : Operand)
    (ho : o.op = .call { callee := .builtin .copy, args := #[d, s], argTypes := #[22, 22] }) (g dLen dCap : Nat) (ad : Addr) (m c : Nat) (zs ts : List Int)
    (hd : a.eval d = .slice (some ⟨g, 0, none⟩) dLen dCap) (hs : a.eval s = .slice (some ad) m c) (hr : Rw w g zs) (hb : Byt w (some ad) m c ts) (hm : m ≤ dLen) (hz : m ≤ zs.length)
    (h : ∀ X, Rw X g (ts ++ zs.drop m) → w.grownBy X (some g) → wpList Tryz.prog ops Q rest (a.put o.dst (goInt m)) X) : wpList Tryz.prog ops Q (o :: rest) a w := by
  obtain ⟨i0, hi, hz0, hz1, hz2⟩ := info_parts info_u8
  have hl : (ts.map (Value.int .u8)).length = m := by rw [List.length_map]; exact hb.len
  refine wpList_copy_own hgd d s 22 22 ho 5 Tryz.underlying22 (by rw [hi]; exact congrArg some hz1) g 0 dLen dCap ad m c hd hs (zs.map (Value.int .u8)).toArray 5 hr (ts.map (Value.int .u8)) (by rw [hl]; exact (Nat.min_eq_left hm).symm) (hb.cells ad rfl) (by simp [hb.len]; exact hz) (ints_oneCell _ _) ?_
  rw [hl]
  refine h _ ?_ ⟨rfl, rfl, rfl, by simp [World.setRow], fun k _ hk => setRow_other w g k _ (fun e => hk (by rw [e]))⟩
  unfold Rw
  rw [setRow_heap w g _ _ 5 _ hr]
  simp [List.map_drop]

theorem sl_of_rw {w : World} {g n : Nat} {zs : List Int} (h : Rw w g zs) (hn : zs.length = n) (hm : n ≤ 5000) : (⟨.slice (some ⟨g, 0, none⟩) n n, g, 0, n, n⟩ : Sl).Ok ∧ (⟨.slice (some ⟨g, 0, none⟩) n n, g, 0, n, n⟩ : Sl).There w := by
  refine ⟨⟨Nat.le_refl _, by simp; omega, by simp; omega, _, rfl, fun _ => rfl⟩, fun j hj => ?_⟩
  have hj' : j < n := hj
  show (∃ u, w.cell? ⟨g, 0 + j, none⟩ = some u) ∧ w.frozen? ⟨g, 0 + j, none⟩ = false
  rw [Nat.zero_add]
  exact ⟨⟨_, h.cell j (by omega)⟩, frozen_of_row w g j _ _ h⟩

/-- A new book's cells. -/
def bookZ : Array Value := #[.int .i64 0, .int .i64 0, .slice none 0 0, .slice none 0 0, .slice none 0 0, .slice none 0 0, .slice none 0 0, .slice none 0 0, .slice none 0 0, .slice none 0 0, .slice none 0 0, .slice none 0 0, .slice none 0 0, .slice none 0 0, .slice none 0 0, .slice none 0 0, .slice none 0 0, .slice none 0 0, .slice none 0 0, .slice none 0 0, .slice none 0 0, .slice none 0 0, .slice none 0 0, .slice none 0 0, .slice none 0 0, .slice none 0 0, .slice none 0 0, .slice none 0 0, .slice none 0 0, .slice none 0 0, .slice none 0 0, .slice none 0 0, .slice none 0 0, .slice none 0 0, .slice none 0 0, .slice none 0 0, .slice none 0 0, .slice none 0 0, .slice none 0 0, .slice none 0 0, .slice none 0 0]
theorem build_book (w : World) : (Instr.build 40 #[]).run Tryz.prog w = .ok (.agg bookZ) w := run_build w 40 _ _ (by kernel_rfl)
theorem box_new (w : World) : Box (w.alloc (.cells bookZ 40 (0, 0))) w.heap.size 0 0 (.slice none 0 0) (.slice none 0 0) (.slice none 0 0) := by
  have hc : ∀ i, (w.alloc (.cells bookZ 40 (0, 0))).cell? ⟨w.heap.size, i, none⟩ = bookZ[i]? := fun i => cell_of_row _ w.heap.size i _ _ (0, 0) (heap_alloc_new w _)
  refine ⟨hc 0, hc 1, hc 2, hc 3, hc 4, fun k hk => ?_, fun i hi => frozen_of_row _ w.heap.size i _ _ (heap_alloc_new w _)⟩
  rw [hc]
  have : ∀ k, k < 12 → bookZ[5 + 3 * k]? = some (.slice none 0 0)
    | 0, _ => rfl
    | 1, _ => rfl
    | 2, _ => rfl
    | 3, _ => rfl
    | 4, _ => rfl
    | 5, _ => rfl
    | 6, _ => rfl
    | 7, _ => rfl
    | 8, _ => rfl
    | 9, _ => rfl
    | 10, _ => rfl
    | 11, _ => rfl
    | n + 12, h => absurd h (by omega)
  exact this k hk

theorem wpList_build_book {w : World} {ops : Array Oper} {rest : List Oper} {o : Oper} {a : Act} {Q : Exit → Act → World → Prop} (hgd : o.guard = none) (ho : o.op = .build 40 #[])
    (h : wpList Tryz.prog ops Q rest (a.put o.dst (.agg bookZ)) w) : wpList Tryz.prog ops Q (o :: rest) a w := by
  refine wpList_plain hgd fun K hK => ?_
  have hrun := build_book w
  unfold Oper.wp
  simp only [execOp, ho, List.map_toArray, List.map_nil, Sem.run_bind, hrun, Sem.run_pure, Result.andThen_ok]
  exact hK _ _ h

/-- A list that fills a block of its own. -/
def sl (g n : Nat) : Sl := ⟨.slice (some ⟨g, 0, none⟩) n n, g, 0, n, n⟩
theorem apart_blocks {s t : Sl} (h : s.g ≠ t.g) : s.Apart t := fun i j _ _ e => h (by injection e)
theorem Kb.free {w : World} {B base : Nat} {L : List Sl} {ys : List Value} {vb vw : Value} (h : Kb w B base L ys vb vw) {i : Nat} (hi : i < base) (hB : i ≠ B) : Free B vb vw i :=
  ⟨hB, fun e => by have := (h.ob.lt i e.symm).1; omega, fun e => by have := (h.ow.lt i e.symm).1; omega⟩
theorem Kb.freeN {w : World} {B base : Nat} {L : List Sl} {ys : List Value} {vb vw : Value} (h : Kb w B base L ys vb vw) {i : Nat} (hi : w.heap.size ≤ i) : Free B vb vw i :=
  ⟨by have := h.box.lt; omega, fun e => by have := (h.ob.lt i e.symm).2; omega, fun e => by have := (h.ow.lt i e.symm).2; omega⟩
theorem Ke.grown {w0 w w' : World} {B base : Nat} {L : List Sl} {ys : List Value} {vb vw vb' vw' : Value} (k : Ke w w' B vb vw vb' vw') (h : Kb w B base L ys vb vw) (hg : w0.grownBy w none) (hB : w0.heap.size ≤ B) : w0.grownBy w' none :=
  ⟨k.os.trans hg.os, k.tape.trans hg.tape, k.output.trans hg.output, Nat.le_trans hg.size k.size, fun i hi _ => (k.block i (Nat.lt_of_lt_of_le hi hg.size) (h.free (by have := h.bB.1; omega) (by omega))).1.trans (hg.block i hi (by simp))⟩
theorem Ke.rw {w w' : World} {B : Nat} {vb vw vb' vw' : Value} (k : Ke w w' B vb vw vb' vw') {g : Nat} {zs : List Int} (h : Rw w g zs) (hf : Free B vb vw g) : Rw w' g zs := (k.block g h.lt hf).1.trans h

theorem keep_rw {w : World} {B base : Nat} {L : List Sl} {ys : List Value} {vb vw : Value} (g n : Nat) (zs : List Int) (h : Kb w B base L ys vb vw) (hr : Rw w g zs) (hn : zs.length = n) (hm : n ≤ 5000) (hf : Free B vb vw g) (hap : ∀ t ∈ L, t.g ≠ g) (hL : L.length ≤ 1000) :
    Calls Tryz.prog 11 #[.pointer (some ⟨B, 0, none⟩), .slice (some ⟨g, 0, none⟩) n n] w fun en w' => en = .returned (.tuple #[]) ∧ ∃ ys' vb' vw', Kb w' B base (L ++ [sl g n]) ys' vb' vw' ∧ Ke w w' B vb vw vb' vw' := by
  obtain ⟨h1, h2⟩ := sl_of_rw hr hn hm
  exact kb_keep (sl g n) (some ⟨g, 0, none⟩) zs h h1 h2 (show n ≤ 1099511620000 by omega) hr.lt hf.1 hf.2.1 hf.2.2 rfl (fun t ht => apart_blocks (hap t ht)) (hr.all n n hn.symm) hL

/-- What holds at each round's head. -/
structure Orl (w : World) (B P base i : Nat) (wr : World) (L : List Sl) (ys : List Value) (vb vw : Value) (ps : List Int) : Prop where
  kb : Kb wr B base L ys vb vw
  len : L.length = 4 * i
  new : ∀ t ∈ L, base ≤ t.g
  row : Rw wr P ps
  pl : ps.length = 4099
  gr : w.grownBy wr none

set_option maxHeartbeats 4000000 in
set_option maxRecDepth 100000 in
theorem owns_calls (lo : Option Addr) (ln lc : Nat) (w : World) (hl : Ll w lo ln) (ht : Tab w) :
    Calls Tryz.prog 4 #[.slice lo ln lc] w fun e w' => e = .returned (.bool true) ∧ w.grownBy w' none := by
  obtain ⟨i0, hi, hz0, hz1, hz2⟩ := info_parts info_u8
  have HL := hid_intro hl
  have HT := hid_intro ht
  clear hl ht
  go_enter Tryz.func4, Tryz.ntmps4
  go_wp2_with fail
  refine (first2_any w HT.out).mono ?_
  rintro e w1 ⟨rfl, hg1⟩
  have G1 := hid_intro hg1
  clear hg1
  go_wp2_with (first
    | (refine wpList_build_book rfl rfl ?_)
    | (at_make; refine wpList_make_full _ rfl _ _ 22 rfl 0 5 i0 (.int .u8 0) 1 Tryz.underlying22 hi hz0 hz1 _ _ _ _ 4099 rfl rfl rfl rfl (by rw [hz2]; omega) (by unfold maxLen; omega) (Nat.zero_le _) ?_))
  intro w3 hown3 hg3
  obtain ⟨B, hB⟩ : ∃ B, B = w1.heap.size := ⟨_, rfl⟩
  obtain ⟨P, hP⟩ : ∃ P, P = B + 1 := ⟨_, rfl⟩
  rw [← hB, ← hP] at hown3
  rw [← hB, ← hP]
  have hwB : w.heap.size ≤ B := by rw [hB]; exact G1.out.size
  have hBpos : 0 < B := by have h0 : 0 < w.heap.size := Nat.lt_of_le_of_lt (Nat.zero_le _) (World.block_lt_of_cell? w _ (HT.out 0 (by decide))); omega
  have R3 : Rw w3 P (List.replicate 4099 0) := by
    have h1 : w3.ownsRow 0 5 1 (.slice (some ⟨P, 0, none⟩) 4099 4099) 4099 ((List.replicate 4099 (0 : Int)).map (Value.int .u8)) := by rw [← made]; exact hown3
    exact Rw.of_owns h1
  have X3 : Box w3 B 0 0 (.slice none 0 0) (.slice none 0 0) (.slice none 0 0) := by rw [hB]; exact (box_new w1).kept hg3 (by simp)
  have G3 : w.grownBy w3 none := grown_trans G1.out (grown_trans (World.grownBy_alloc w1 _ none) hg3)
  have hsz3 := R3.lt
  have HO : Hid (Orl w B P w3.heap.size 0 w3 [] [] (.slice none 0 0) (.slice none 0 0) (List.replicate 4099 0)) :=
    ⟨⟨X3, ⟨rfl, _root_.Or.inl ⟨rfl, rfl⟩⟩, ⟨rfl, _root_.Or.inl ⟨rfl, rfl⟩⟩, ⟨by omega, Nat.le_refl _⟩, (fun i e => by cases e), (fun s hs => by simp at hs), List.Pairwise.nil, (fun k s y hk => by simp at hk)⟩, rfl, (fun s hs => by simp at hs), R3, List.length_replicate, G3⟩
  obtain ⟨base, hbase⟩ : ∃ base, base = w3.heap.size := ⟨_, rfl⟩
  rw [← hbase] at HO hsz3
  have hPb : P < base := hsz3
  have hPB : P ≠ B := by omega
  have hwP : w.heap.size ≤ P := by omega
  have hBb : B < base := by omega
  clear hB hP hown3 hg3 R3 X3 G3 G1 hsz3 hbase
  go_wp2
  go_loopw [6] (fun si wr => ∃ i : Nat, i ≤ 20 ∧ si = .int .i64 i ∧ ∃ L ys vb vw ps, Orl w B P base i wr L ys vb vw ps) (fun si _ => 20 - (intOf si).toNat)
  case atStart => exact ⟨0, by omega, rfl, _, _, _, _, _, HO.out⟩
  case round =>
    obtain ⟨i, hi20, rfl, L, ys, vb, vw, ps, hO⟩ := hrel
    have OO := hid_intro hO
    have hLl := hO.len
    clear hO HO
    have p0 : (0 : Int) ≤ (i : Int) := by omega
    by_cases h1 : i < ln ∧ i < 20
    · have p1 : (i : Int) < (ln : Int) := by omega
      have p2 : (i : Int) < 20 := by omega
      obtain ⟨b, off, ao, n, c, zs, rfl, hcell, hby, hbt⟩ := (HL.out.kept OO.out.gr).el i h1.1
      have HBY := hid_intro hby
      have l1 : (padL zs 4092).length = 4092 := padL_len zs 4092
      have b1 : Bt (padL zs 4092) := padL_bt hbt 4092
      clear hby
      go_wp2_with fail
      refine (padded_any ao n c 4092 zs wr HBY.out (by omega)).mono ?_
      rintro e w4 ⟨rfl, hr4, hg4⟩
      generalize padL zs 4092 = body at *
      have hwr := OO.out.kb.bB.2
      obtain ⟨D, hD⟩ : ∃ D, D = wr.heap.size := ⟨_, rfl⟩
      rw [← hD] at hr4 hwr
      rw [← hD]
      have D4 := hid_intro hr4
      have K4 := hid_intro (OO.out.kb.kept hg4 (by simp))
      have P4 := hid_intro (OO.out.row.keptN hg4)
      have G4 := hid_intro (grown_trans OO.out.gr hg4)
      have HLT : Hid (∀ t ∈ L, t.g < D ∧ base ≤ t.g) := fun t ht => ⟨by rw [hD]; exact (OO.out.kb.ok t ht).2.2.2.1, OO.out.new t ht⟩
      have HFR : Hid (∀ j, D ≤ j → Free B vb vw j) := fun j hj => OO.out.kb.freeN (by omega)
      have hpl := OO.out.pl
      clear hr4 hg4 hD OO HBY hcell
      go_wp2_with (refine wpList_copy_rw rfl _ _ rfl P 4099 4099 ⟨D, 0, none⟩ 4092 4092 ps body rfl rfl P4.out (D4.out.all 4092 4092 l1.symm) (by omega) (by omega) ?_)
      intro w5 hr5 hg5
      have P5 := hid_intro hr5
      have lp5 : (body ++ ps.drop 4092).length = 4099 := by rw [List.length_append, List.length_drop, l1, hpl]
      have D5 := hid_intro (D4.out.kept hg5 (by simp; omega))
      have K5 := hid_intro (K4.out.kept hg5 (fun j e => by obtain rfl := Option.some.inj e; exact ⟨hPB, hPb, fun s hs => by have := (HLT.out s hs).2; omega⟩))
      have G5 := hid_intro (grown_new G4.out hg5 hwP)
      have B5 : Hid (Byt w5 (some ⟨P, 0, none⟩) 4092 4099 body) := by
        have h5 := hr5.byt 0 4092 4099 (by omega)
        rwa [List.drop_zero, List.take_left' l1] at h5
      have hD5 : D < w5.heap.size := D5.out.lt
      clear hr5 hg5 D4 K4 P4 G4
      generalize body ++ ps.drop 4092 = ps5 at *
      go_wp2_with fail
      refine (seal_ok _ 4099 body w5 B5.out b1 (HT.out.keptN G5.out)).mono ?_
      rintro e w6 ⟨rfl, hr6, hg6⟩
      have l6 : (body ++ low4 (upd 0 body)).length = 4096 := by rw [List.length_append, l1]; rfl
      have t6 : (body ++ low4 (upd 0 body)).take 4092 = body := List.take_left' l1
      have d6 : (body ++ low4 (upd 0 body)).drop 4092 = low4 (upd 0 body) := List.drop_left' l1
      have b6 : Bt (body ++ low4 (upd 0 body)) := b1.app (bt_low4 _)
      have f6 : (body ++ low4 (upd 0 body)).drop 4092 = low4 (upd 0 ((body ++ low4 (upd 0 body)).take 4092)) := by rw [d6, t6]
      obtain ⟨A1, hA1⟩ : ∃ A1, A1 = w5.heap.size := ⟨_, rfl⟩
      rw [← hA1] at hr6
      rw [← hA1]
      have A6 := hid_intro hr6
      have K6 := hid_intro (K5.out.kept hg6 (by simp))
      have P6 := hid_intro (P5.out.keptN hg6)
      have D6 := hid_intro (D5.out.keptN hg6)
      have B6 := hid_intro (B5.out.keptN hg6)
      have G6 := hid_intro (grown_trans G5.out hg6)
      have hA1s : A1 < w6.heap.size := A6.out.lt
      have hDA : D < A1 := by omega
      clear hr6 hg6 hA1 K5 P5 D5 B5 G5 d6
      go_wp2_with fail
      refine (seal_ok _ 4099 body w6 B6.out b1 (HT.out.keptN G6.out)).mono ?_
      rintro e w7 ⟨rfl, hr7, hg7⟩
      obtain ⟨A2, hA2⟩ : ∃ A2, A2 = w6.heap.size := ⟨_, rfl⟩
      rw [← hA2] at hr7
      rw [← hA2]
      have C7 := hid_intro hr7
      have A7 := hid_intro (A6.out.keptN hg7)
      have K7 := hid_intro (K6.out.kept hg7 (by simp))
      have P7 := hid_intro (P6.out.keptN hg7)
      have D7 := hid_intro (D6.out.keptN hg7)
      have G7 := hid_intro (grown_trans G6.out hg7)
      have hA2s : A2 < w7.heap.size := C7.out.lt
      have hA12 : A1 < A2 := by omega
      clear hr7 hg7 hA2 K6 P6 D6 B6 G6 A6
      generalize hpg : body ++ low4 (upd 0 body) = page at *
      have HPG := hid_intro hpg
      clear hpg
      go_wp2_with fail
      refine (num2_any _ _).mono ?_
      rintro e w7b ⟨rfl, rfl⟩
      go_wp2_with fail
      refine (num2_any _ _).mono ?_
      rintro e w7c ⟨rfl, rfl⟩
      go_wp2_with (refine wpList_copy_rw rfl _ _ rfl P 4099 4099 ⟨A1, 0, none⟩ 4096 4096 ps5 page rfl rfl P7.out (A7.out.all 4096 4096 l6.symm) (by omega) (by omega) ?_)
      intro w8 hr8 hg8
      have P8 := hid_intro hr8
      have lp8 : (page ++ ps5.drop 4096).length = 4099 := by rw [List.length_append, List.length_drop, l6, lp5]
      have K8 := hid_intro (K7.out.kept hg8 (fun j e => by obtain rfl := Option.some.inj e; exact ⟨hPB, hPb, fun s hs => by have := (HLT.out s hs).2; omega⟩))
      have G8 := hid_intro (grown_new G7.out hg8 hwP)
      have A8 := hid_intro (A7.out.kept hg8 (by simp; omega))
      have C8 := hid_intro (C7.out.kept hg8 (by simp; omega))
      have D8 := hid_intro (D7.out.kept hg8 (by simp; omega))
      have B8 : Hid (Byt w8 (some ⟨P, 0, none⟩) 4096 4099 page) := by
        have h5 := hr8.byt 0 4096 4099 (by omega)
        rwa [List.drop_zero, List.take_left' l6] at h5
      have hA28 : A2 < w8.heap.size := C8.out.lt
      clear hr8 hg8 K7 P7 D7 G7 A7 C7
      generalize page ++ ps5.drop 4096 = ps8 at *
      go_wp2_with fail
      refine (open_yes _ 4099 page w8 B8.out b6 (HT.out.keptN G8.out) (by omega) f6).mono ?_
      rintro e w9 ⟨g1, rfl, hr9, hs9, hg9⟩
      rw [t6] at hr9
      have E9 := hid_intro hr9
      have K9 := hid_intro (K8.out.kept hg9 (by simp))
      have P9 := hid_intro (P8.out.keptN hg9)
      have A9 := hid_intro (A8.out.keptN hg9)
      have C9 := hid_intro (C8.out.keptN hg9)
      have D9 := hid_intro (D8.out.keptN hg9)
      have B9 := hid_intro (B8.out.keptN hg9)
      have G9 := hid_intro (grown_trans G8.out hg9)
      have hg1s : g1 < w9.heap.size := hr9.lt
      clear hr9 hg9 K8 P8 A8 C8 D8 B8 G8
      go_wp2_with fail
      refine (open_yes _ 4099 page w9 B9.out b6 (HT.out.keptN G9.out) (by omega) f6).mono ?_
      rintro e w10 ⟨g2, rfl, hr10, hs10, hg10⟩
      rw [t6] at hr10
      have F10 := hid_intro hr10
      have E10 := hid_intro (E9.out.keptN hg10)
      have K10 := hid_intro (K9.out.kept hg10 (by simp))
      have P10 := hid_intro (P9.out.keptN hg10)
      have A10 := hid_intro (A9.out.keptN hg10)
      have C10 := hid_intro (C9.out.keptN hg10)
      have D10 := hid_intro (D9.out.keptN hg10)
      have G10 := hid_intro (grown_trans G9.out hg10)
      clear hr10 hg10 E9 K9 P9 A9 C9 D9 B9 G9
      go_wp2_with fail
      refine (same_yes _ _ 4092 4092 4092 4092 body body w10 (E10.out.all 4092 4092 l1.symm) (D10.out.all 4092 4092 l1.symm) rfl).mono ?_
      rintro e w10b ⟨rfl, rfl⟩
      go_wp2_with fail
      refine (same_yes _ _ 4092 4092 4092 4092 body body w10b (F10.out.all 4092 4092 l1.symm) (D10.out.all 4092 4092 l1.symm) rfl).mono ?_
      rintro e w10c ⟨rfl, rfl⟩
      clear D10
      go_wp2_with fail
      refine (num2_any _ _).mono ?_
      rintro e w10d ⟨rfl, rfl⟩
      go_wp2_with fail
      refine (num2_any _ _).mono ?_
      rintro e w10e ⟨rfl, rfl⟩
      go_wp2_with fail
      refine (keep_rw A1 4096 page K10.out A10.out l6 (by omega) (HFR.out A1 (by omega)) (fun t ht => by have := (HLT.out t ht).1; omega) (by omega)).mono ?_
      rintro e w11 ⟨rfl, ys1, vb1, vw1, hK11, hE11⟩
      have hF1 : ∀ j, D ≤ j → j < w10e.heap.size → Free B vb1 vw1 j := fun j h1 h2 => (hE11.block j h2 (HFR.out j h1)).2
      have K11 := hid_intro hK11
      have C11 := hid_intro (hE11.rw C10.out (HFR.out A2 (by omega)))
      have E11 := hid_intro (hE11.rw E10.out (HFR.out g1 (by omega)))
      have F11 := hid_intro (hE11.rw F10.out (HFR.out g2 (by omega)))
      have P11 := hid_intro (hE11.rw P10.out (K10.out.free hPb hPB))
      have G11 := hid_intro (hE11.grown K10.out G10.out hwB)
      have N1 := hid_intro hF1
      have z1 := hE11.size
      have y1 := E10.out.lt
      have y2 := F10.out.lt
      clear hK11 hE11 K10 A10 C10 E10 F10 P10 G10 hF1
      go_wp2_with fail
      refine (keep_rw A2 4096 page K11.out C11.out l6 (by omega) (N1.out A2 (by omega) (by omega)) (fun t ht => by
        rcases List.mem_append.1 ht with h | h
        · have := (HLT.out t h).1; omega
        · obtain rfl := List.mem_singleton.1 h; show A1 ≠ A2; omega) (by rw [List.length_append]; simp; omega)).mono ?_
      rintro e w12 ⟨rfl, ys2, vb2, vw2, hK12, hE12⟩
      have K12 := hid_intro hK12
      have E12 := hid_intro (hE12.rw E11.out (N1.out g1 (by omega) (by omega)))
      have F12 := hid_intro (hE12.rw F11.out (N1.out g2 (by omega) (by omega)))
      have N2 : Hid (Free B vb2 vw2 g1 ∧ Free B vb2 vw2 g2) := ⟨(hE12.block g1 (by omega) (N1.out g1 (by omega) (by omega))).2, (hE12.block g2 (by omega) (N1.out g2 (by omega) (by omega))).2⟩
      have P12 := hid_intro (hE12.rw P11.out (K11.out.free hPb hPB))
      have G12 := hid_intro (hE12.grown K11.out G11.out hwB)
      have z2 := hE12.size
      clear hK12 hE12 K11 C11 E11 F11 P11 G11 N1
      go_wp2_with fail
      refine (keep_rw g1 4092 body K12.out E12.out l1 (by omega) N2.out.1 (fun t ht => by
        rcases List.mem_append.1 ht with h | h
        · rcases List.mem_append.1 h with h | h
          · have := (HLT.out t h).1; omega
          · obtain rfl := List.mem_singleton.1 h; show A1 ≠ g1; omega
        · obtain rfl := List.mem_singleton.1 h; show A2 ≠ g1; omega) (by rw [List.length_append, List.length_append]; simp; omega)).mono ?_
      rintro e w13 ⟨rfl, ys3, vb3, vw3, hK13, hE13⟩
      have K13 := hid_intro hK13
      have F13 := hid_intro (hE13.rw F12.out N2.out.2)
      have N3 := hid_intro (hE13.block g2 F12.out.lt N2.out.2).2
      have P13 := hid_intro (hE13.rw P12.out (K12.out.free hPb hPB))
      have G13 := hid_intro (hE13.grown K12.out G12.out hwB)
      clear hK13 hE13 K12 E12 F12 P12 G12 N2
      go_wp2_with fail
      refine (keep_rw g2 4092 body K13.out F13.out l1 (by omega) N3.out (fun t ht => by
        rcases List.mem_append.1 ht with h | h
        · rcases List.mem_append.1 h with h | h
          · rcases List.mem_append.1 h with h | h
            · have := (HLT.out t h).1; omega
            · obtain rfl := List.mem_singleton.1 h; show A1 ≠ g2; omega
          · obtain rfl := List.mem_singleton.1 h; show A2 ≠ g2; omega
        · obtain rfl := List.mem_singleton.1 h; show g1 ≠ g2; omega) (by rw [List.length_append, List.length_append, List.length_append]; simp; omega)).mono ?_
      rintro e w14 ⟨rfl, ys4, vb4, vw4, hK14, hE14⟩
      have NEW : Hid (Orl w B P base (i + 1) w14 (L ++ [sl A1 4096] ++ [sl A2 4096] ++ [sl g1 4092] ++ [sl g2 4092]) ys4 vb4 vw4 ps8) := by
        refine ⟨hK14, by simp; omega, fun t ht => ?_, hE14.rw P13.out (K13.out.free hPb hPB), lp8, hE14.grown K13.out G13.out hwB⟩
        rcases List.mem_append.1 ht with h | h
        · rcases List.mem_append.1 h with h | h
          · rcases List.mem_append.1 h with h | h
            · rcases List.mem_append.1 h with h | h
              · exact (HLT.out t h).2
              · obtain rfl := List.mem_singleton.1 h; show base ≤ A1; omega
            · obtain rfl := List.mem_singleton.1 h; show base ≤ A2; omega
          · obtain rfl := List.mem_singleton.1 h; show base ≤ g1; omega
        · obtain rfl := List.mem_singleton.1 h; show base ≤ g2; omega
      clear hK14 hE14 K13 F13 P13 G13 N3 HLT HFR
      go_wp2
      go_roundw
      case rel => exact ⟨i + 1, by omega, by go_num, _, _, _, _, _, NEW.out⟩
      case measure => simp [intOf]; omega
    · have FIN : Hid (Calls Tryz.prog 13 #[.pointer (some ⟨B, 0, none⟩)] wr fun en w' => en = .returned (.bool true) ∧ w.grownBy w' none) := by
        refine kb_finish OO.out.kb (by omega) (_root_.Or.inr hBpos) (fun v => w.grownBy v none) OO.out.gr (fun v w' row h1 h2 h3 => ?_) (fun v s j u h1 h2 h3 => ?_)
        · cases row with
          | none => exact grown_trans h1 h2
          | some j =>
            refine grown_new h1 h2 ?_
            have := OO.out.gr.size
            rcases h3 j rfl with h4 | h4 <;> omega
        · exact grown_new h3 (grown_set v s.g _ _) (by have := OO.out.new s h1; omega)
      by_cases h2 : i < ln
      · have h3 : ¬ (i : Int) < 20 := by omega
        have p1 : (i : Int) < (ln : Int) := by omega
        go_wp2_with fail
        refine FIN.out.mono ?_
        rintro e w4 ⟨rfl, hg4⟩
        have G4 := hid_intro hg4
        clear hg4
        go_wp2
        go_ret
        exact ⟨rfl, G4.out⟩
      · have p1 : ¬ (i : Int) < (ln : Int) := by omega
        go_wp2_with fail
        refine FIN.out.mono ?_
        rintro e w4 ⟨rfl, hg4⟩
        have G4 := hid_intro hg4
        clear hg4
        go_wp2
        go_ret
        exact ⟨rfl, G4.out⟩
end Go.Proofs.YtgipnfbojnllnaaGreatDoor
