import Derived.Test.YtkiopabcnemgnaaGreatDoorK32
set_option maxRecDepth 100000
set_option maxHeartbeats 4000000
namespace Go.Proofs.YtkiopabcnemgnaaGreatDoor
open Go.RowKit
structure Mk (w : World) : Prop where
 a0 : w.cell? ⟨0, 0, none⟩ = some (.int .u8 99)
 a1 : w.cell? ⟨0, 1, none⟩ = some (.int .u8 111)
 a2 : w.cell? ⟨0, 2, none⟩ = some (.int .u8 112)
 b0 : w.cell? ⟨1, 0, none⟩ = some (.int .u8 101)
 b1 : w.cell? ⟨1, 1, none⟩ = some (.int .u8 110)
 b2 : w.cell? ⟨1, 2, none⟩ = some (.int .u8 100)
 b3 : w.cell? ⟨1, 3, none⟩ = some (.int .u8 46)
theorem Mk.kept {w w' : World} {row : Option Nat} (h : Mk w) (hg : w.grownBy w' row) (h0 : some 0 ≠ row) (h1 : some 1 ≠ row) : Mk w' :=
 ⟨hg.cell h.a0 h0, hg.cell h.a1 h0, hg.cell h.a2 h0, hg.cell h.b0 h1, hg.cell h.b1 h1, hg.cell h.b2 h1, hg.cell h.b3 h1⟩
theorem Mk.keptN {w w' : World} (h : Mk w) (hg : w.grownBy w' none) : Mk w' := h.kept hg (by simp) (by simp)
theorem p64 (ao : Option Addr) (n c m : Nat) (zs : List Int) (x : Nat) (w : World) (hb : Byt w ao n c zs) (hn : n ≤ 100) (hx : x < 18446744073709551616) (hm : m = n + 8) :
  Calls Tryz.prog 189 #[.slice ao n c, .int .u64 x] w fun e w' => e = .returned (.slice (some ⟨w.heap.size, 0, none⟩) m m) ∧ Byt w' (some ⟨w.heap.size, 0, none⟩) m m (zs ++ lb 8 x) ∧ w.grownBy w' none := by
 subst hm;refine (put_u64 ao n c zs x w hb (by omega) hx).mono ?_;rintro e w' ⟨rfl, h1, h2, h3⟩;exact ⟨rfl, Byt.of_owns h1, h2⟩
theorem p32 (ao : Option Addr) (n c m : Nat) (zs : List Int) (x : Nat) (w : World) (hb : Byt w ao n c zs) (hn : n ≤ 100) (hx : x < 4294967296) (hm : m = n + 4) :
  Calls Tryz.prog 140 #[.slice ao n c, .int .u32 x] w fun e w' => e = .returned (.slice (some ⟨w.heap.size, 0, none⟩) m m) ∧ Byt w' (some ⟨w.heap.size, 0, none⟩) m m (zs ++ lb 4 x) ∧ w.grownBy w' none := by
 subst hm;refine (put_u32 ao n c zs x w hb (by omega) hx).mono ?_;rintro e w' ⟨rfl, h1, h2, h3⟩;exact ⟨rfl, Byt.of_owns h1, h2⟩
theorem p8 (ao : Option Addr) (n c m : Nat) (zs : List Int) (x : Nat) (w : World) (hb : Byt w ao n c zs) (hn : n ≤ 100) (hx : x < 256) (hm : m = n + 1) :
  Calls Tryz.prog 144 #[.slice ao n c, .int .u8 x] w fun e w' => e = .returned (.slice (some ⟨w.heap.size, 0, none⟩) m m) ∧ Byt w' (some ⟨w.heap.size, 0, none⟩) m m (zs ++ lb 1 x) ∧ w.grownBy w' none := by
 subst hm;refine (put_u8 ao n c zs x w hb (by omega) hx).mono ?_;rintro e w' ⟨rfl, h1, h2, h3⟩;exact ⟨rfl, Byt.of_owns h1, h2⟩
theorem numbers_any (v c r t k f n : Nat) (w : World) (hv : v < 9223372036854775808) (hc : c < 4294967296) (hr : r < 4294967296) (ht : t < 256) (hk : k < 9223372036854775808) (hf : f < 4294967296) (hn : n < 4294967296) :
  Calls Tryz.prog 145 #[.agg #[.int .i64 v, .int .i64 c, .int .i64 r, .int .i64 t, .int .i64 k, .int .i64 f, .int .i64 n]] w fun en w' => (∃ g, en = .returned (.slice (some ⟨g, 0, none⟩) 33 33) ∧ Byt w' (some ⟨g, 0, none⟩) 33 33 (nb ⟨v, c, r, t, k, f, n⟩)) ∧ w.grownBy w' none := by
 have wv : IntKind.u64.wrap (v : Int) = (v : Int) := by simp [IntKind.wrap, IntKind.bits, IntKind.signed]; omega
 have wc : IntKind.u32.wrap (c : Int) = (c : Int) := by simp [IntKind.wrap, IntKind.bits, IntKind.signed]; omega
 have wr : IntKind.u32.wrap (r : Int) = (r : Int) := by simp [IntKind.wrap, IntKind.bits, IntKind.signed]; omega
 have wt : IntKind.u8.wrap (t : Int) = (t : Int) := by simp [IntKind.wrap, IntKind.bits, IntKind.signed]; omega
 have wk : IntKind.u64.wrap (k : Int) = (k : Int) := by simp [IntKind.wrap, IntKind.bits, IntKind.signed]; omega
 have wf : IntKind.u32.wrap (f : Int) = (f : Int) := by simp [IntKind.wrap, IntKind.bits, IntKind.signed]; omega
 have wn : IntKind.u32.wrap (n : Int) = (n : Int) := by simp [IntKind.wrap, IntKind.bits, IntKind.signed]; omega
 have HB : Hid ([] ++ lb 8 v ++ lb 4 c ++ lb 4 r ++ lb 1 t ++ lb 8 k ++ lb 4 f ++ lb 4 n = nb ⟨v, c, r, t, k, f, n⟩) := by
  show _ = _
  simp [nb]
 go_enter Tryz.func145, Tryz.ntmps145;go_upto_region 1 with fail
 have X1 := hJ (Hx.new w v c r t k f n);have G1 := hJ (World.grownBy_alloc w (.cells #[.int .i64 v, .int .i64 c, .int .i64 r, .int .i64 t, .int .i64 k, .int .i64 f, .int .i64 n] 28) none);generalize w.alloc (.cells #[.int .i64 v, .int .i64 c, .int .i64 r, .int .i64 t, .int .i64 k, .int .i64 f, .int .i64 n] 28) = w1 at *;obtain ⟨c0, c1, c2, c3, c4, c5, c6⟩ := X1.out.cells
 go_wp2_with fail
 refine (p64 none 0 0 8 [] v _ (Byt.empty _) (by omega) (by omega) rfl).mono ?_;rintro en w2 ⟨rfl, hb2, hg2⟩;have X2 := hJ (X1.out.keptN hg2);have G2 := hJ (gQ G1.out hg2);clear X1 G1 hg2 c0 c1 c2 c3 c4 c5 c6;obtain ⟨c0, c1, c2, c3, c4, c5, c6⟩ := X2.out.cells
 go_wp2_with fail
 refine (p32 _ 8 8 12 _ c _ hb2 (by omega) hc rfl).mono ?_;rintro en w3 ⟨rfl, hb3, hg3⟩;have X3 := hJ (X2.out.keptN hg3);have G3 := hJ (gQ G2.out hg3);clear X2 G2 hg3 c0 c1 c2 c3 c4 c5 c6 hb2;obtain ⟨c0, c1, c2, c3, c4, c5, c6⟩ := X3.out.cells
 go_wp2_with fail
 refine (p32 _ 12 12 16 _ r _ hb3 (by omega) hr rfl).mono ?_;rintro en w4 ⟨rfl, hb4, hg4⟩;have X4 := hJ (X3.out.keptN hg4);have G4 := hJ (gQ G3.out hg4);clear X3 G3 hg4 c0 c1 c2 c3 c4 c5 c6 hb3;obtain ⟨c0, c1, c2, c3, c4, c5, c6⟩ := X4.out.cells
 go_wp2_with fail
 refine (p8 _ 16 16 17 _ t _ hb4 (by omega) ht rfl).mono ?_;rintro en w5 ⟨rfl, hb5, hg5⟩;have X5 := hJ (X4.out.keptN hg5);have G5 := hJ (gQ G4.out hg5);clear X4 G4 hg5 c0 c1 c2 c3 c4 c5 c6 hb4;obtain ⟨c0, c1, c2, c3, c4, c5, c6⟩ := X5.out.cells
 go_wp2_with fail
 refine (p64 _ 17 17 25 _ k _ hb5 (by omega) (by omega) rfl).mono ?_;rintro en w6 ⟨rfl, hb6, hg6⟩;have X6 := hJ (X5.out.keptN hg6);have G6 := hJ (gQ G5.out hg6);clear X5 G5 hg6 c0 c1 c2 c3 c4 c5 c6 hb5;obtain ⟨c0, c1, c2, c3, c4, c5, c6⟩ := X6.out.cells
 go_wp2_with fail
 refine (p32 _ 25 25 29 _ f _ hb6 (by omega) hf rfl).mono ?_;rintro en w7 ⟨rfl, hb7, hg7⟩;have X7 := hJ (X6.out.keptN hg7);have G7 := hJ (gQ G6.out hg7);clear X6 G6 hg7 c0 c1 c2 c3 c4 c5 c6 hb6;obtain ⟨c0, c1, c2, c3, c4, c5, c6⟩ := X7.out.cells
 go_wp2_with fail
 refine (p32 _ 29 29 33 _ n _ hb7 (by omega) hn rfl).mono ?_;rintro en w8 ⟨rfl, hb8, hg8⟩;have G8 := hJ (gQ G7.out hg8);have B8 := hJ hb8;clear X7 G7 hg8 c0 c1 c2 c3 c4 c5 c6 hb7 hb8;go_wp2;go_ret;exact ⟨⟨_, rfl, HB.out ▸ B8.out⟩, G8.out⟩
theorem body_eq {Z A B C D : List Int} (hZ : Z = List.replicate 4092 0) (hA : A.length = 1) (hB : B.length = 3) (hC : C.length = 33) (hD : D.length = 4) : splice (splice (splice (splice Z 0 A) 1 B) 4 C) 4088 D = A ++ (B ++ (C ++ (zr ++ D))) := by
 have e1 : Z = List.replicate 1 0 ++ (List.replicate 3 0 ++ (List.replicate 33 0 ++ (zr ++ List.replicate 4 0))) := by
  rw [hZ]; unfold zr; simp only [List.replicate_append_replicate]
 have s1 : splice Z 0 A = A ++ (List.replicate 3 0 ++ (List.replicate 33 0 ++ (zr ++ List.replicate 4 0))) := by
  rw [e1]; exact splice_mid (X := []) (Y := List.replicate 1 0) (V := A) rfl (by rw [List.length_replicate, hA])
 have s2 : splice (splice Z 0 A) 1 B = A ++ (B ++ (List.replicate 33 0 ++ (zr ++ List.replicate 4 0))) := by
  rw [s1]; exact splice_mid (X := A) (Y := List.replicate 3 0) (V := B) hA (by rw [List.length_replicate, hB])
 have s3 : splice (splice (splice Z 0 A) 1 B) 4 C = A ++ (B ++ (C ++ (zr ++ List.replicate 4 0))) := by
  have s := splice_mid (X := A ++ B) (Y := List.replicate 33 0) (Z := zr ++ List.replicate 4 0) (V := C) (p := 4) (by rw [List.length_append]; omega) (by rw [List.length_replicate, hC]);rw [s2, ← List.append_assoc A B, s, List.append_assoc A B]
 rw [s3];have e2 : A ++ (B ++ (C ++ (zr ++ List.replicate 4 0))) = (A ++ (B ++ (C ++ zr))) ++ (List.replicate 4 0 ++ []) := by simp only [List.append_assoc, List.append_nil]
 have s4 := splice_mid (X := A ++ (B ++ (C ++ zr))) (Y := List.replicate 4 0) (Z := []) (V := D) (p := 4088) (by simp only [List.length_append, zr_len]; omega) (by rw [List.length_replicate, hD]);rw [e2, s4];simp only [List.append_assoc, List.append_nil]
theorem encode_no (v c r t k f n : Int) (w : World) (hm : may ⟨v, c, r, t, k, f, n⟩ = false) :
  Calls Tryz.prog 112 #[.agg #[.int .i64 v, .int .i64 c, .int .i64 r, .int .i64 t, .int .i64 k, .int .i64 f, .int .i64 n]] w fun en w' => en = .returned (.tuple #[.slice none 0 0, .int .i64 71]) ∧ w.grownBy w' none := by
 have HM := hJ hm;clear hm;go_enter Tryz.func112, Tryz.ntmps112
 go_wp2_with fail
 have G1 := hJ (World.grownBy_alloc w (.cells #[.int .i64 v, .int .i64 c, .int .i64 r, .int .i64 t, .int .i64 k, .int .i64 f, .int .i64 n] 28) none);generalize w.alloc (.cells #[.int .i64 v, .int .i64 c, .int .i64 r, .int .i64 t, .int .i64 k, .int .i64 f, .int .i64 n] 28) = w1 at *;refine (mayBe_any v c r t k f n _).mono ?_;rintro en w2 ⟨rfl, hg2⟩;rw [HM.out];have G2 := hJ (gQ G1.out hg2);clear hg2 G1;go_wp2
 go_ret2
 exact ⟨rfl, G2.out⟩
theorem encode_yes (v c r t k f n : Nat) (w : World) (hm : may ⟨v, c, r, t, k, f, n⟩ = true) (hk0 : Mk w) :
  Calls Tryz.prog 112 #[.agg #[.int .i64 v, .int .i64 c, .int .i64 r, .int .i64 t, .int .i64 k, .int .i64 f, .int .i64 n]] w fun en w' => ∃ g, en = .returned (.tuple #[.slice (some ⟨g, 0, none⟩) 4092 4092, .int .i64 0]) ∧ Rw w' g (mB ⟨v, c, r, t, k, f, n⟩) ∧ w.heap.size ≤ g ∧ w.grownBy w' none := by
 obtain ⟨i0, hi, hz0, hz1, hz2⟩ := info_parts info_u8;have hb := may_bounds hm;simp only at hb;have HNB := hJ (fun W => numbers_any v c r t k f n W (by omega) (by omega) (by omega) (by omega) (by omega) (by omega) (by omega));clear hb;have HM := hJ hm;have HNL := hJ (nb_len ⟨v, c, r, t, k, f, n⟩);have HB : Hid (∀ Z, Z = List.replicate 4092 0 → splice (splice (splice (splice Z 0 (lb 1 5)) 1 [99, 111, 112]) 4 (nb ⟨v, c, r, t, k, f, n⟩)) 4088 en4 = mB ⟨v, c, r, t, k, f, n⟩) := fun Z hZ => body_eq hZ rfl rfl (nb_len _) rfl
 obtain ⟨Z, hZ⟩ : ∃ Z : List Int, Z = List.replicate 4092 0 := ⟨_, rfl⟩;have hZl : Z.length = 4092 := by rw [hZ, List.length_replicate]
 have HZ := hJ hZ;have HB := hJ (HB.out Z hZ);have HK := hJ hk0;have q4 : IntKind.i64.wrap 4 = 4 := by decide
 have q37 : IntKind.i64.wrap 37 = 37 := by decide
 have q88 : IntKind.i64.wrap 4088 = 4088 := by decide
 clear hm hk0 hZ;generalize mB ⟨v, c, r, t, k, f, n⟩ = M at *;generalize nb ⟨v, c, r, t, k, f, n⟩ = NB at *;go_enter Tryz.func112, Tryz.ntmps112
 go_wp2_with fail
 have G1 := hJ (World.grownBy_alloc w (.cells #[.int .i64 v, .int .i64 c, .int .i64 r, .int .i64 t, .int .i64 k, .int .i64 f, .int .i64 n] 28) none);have X1 := hJ (Hx.new w v c r t k f n);generalize w.alloc (.cells #[.int .i64 v, .int .i64 c, .int .i64 r, .int .i64 t, .int .i64 k, .int .i64 f, .int .i64 n] 28) = w1 at *;refine (mayBe_any v c r t k f n _).mono ?_;rintro en w2 ⟨rfl, hg2⟩;rw [HM.out];have G2 := hJ (gQ G1.out hg2);have X2 := hJ (X1.out.keptN hg2);obtain ⟨a0, a1, a2, b0, b1, b2, b3⟩ := HK.out.keptN G2.out;clear hg2 G1 X1 HM;go_upto_region 4 with fail
 clear a0 a1 a2 b0 b1 b2 b3;have g3 := grown_two w2 (.cells #[.int .u8 99, .int .u8 111, .int .u8 112] 174) (.cells #[.int .u8 101, .int .u8 110, .int .u8 100, .int .u8 46] 99);have F3 : Hid (Rt ((w2.alloc (.cells #[.int .u8 99, .int .u8 111, .int .u8 112] 174)).alloc (.cells #[.int .u8 101, .int .u8 110, .int .u8 100, .int .u8 46] 99)) w2.heap.size 174 [99, 111, 112]) := (show Rt (w2.alloc (.cells #[.int .u8 99, .int .u8 111, .int .u8 112] 174)) w2.heap.size 174 [99, 111, 112] from heap_alloc_new w2 _).keptN (World.grownBy_alloc _ _ none)
 have E3 : Hid (Rt ((w2.alloc (.cells #[.int .u8 99, .int .u8 111, .int .u8 112] 174)).alloc (.cells #[.int .u8 101, .int .u8 110, .int .u8 100, .int .u8 46] 99)) (w2.heap.size + 1) 99 en4) := by
  have := heap_alloc_new (w2.alloc (.cells #[.int .u8 99, .int .u8 111, .int .u8 112] 174)) (.cells #[.int .u8 101, .int .u8 110, .int .u8 100, .int .u8 46] 99);simp only [World.size_alloc] at this;exact this
 have X3 := hJ (X2.out.keptN g3);have G3 := hJ (gQ G2.out g3);have S3 : Hid (w2.heap.size + 2 ≤ ((w2.alloc (.cells #[.int .u8 99, .int .u8 111, .int .u8 112] 174)).alloc (.cells #[.int .u8 101, .int .u8 110, .int .u8 100, .int .u8 46] 99)).heap.size) := by show _ ≤ _; simp
 have S2 := hJ G2.out.size;clear g3 X2 G2;generalize (w2.alloc (.cells #[.int .u8 99, .int .u8 111, .int .u8 112] 174)).alloc (.cells #[.int .u8 101, .int .u8 110, .int .u8 100, .int .u8 46] 99) = w3 at *
 go_wp2_with (at_make; refine wpList_make_full _ rfl _ _ 25 rfl w3.heap.size 5 i0 (.int .u8 0) 1 Tryz.underlying25 hi hz0 hz1 _ _ _ _ 4092 rfl rfl rfl rfl (by rw [hz2]; omega) (by unfold maxLen; omega) (Nat.le_refl _) ?_)
 intro w4 hown hg4;rw [made, ← HZ.out] at hown;have R4 := hJ (show Rt w4 w3.heap.size 5 Z from Rw.of_owns hown);have X4 := hJ (X3.out.keptN hg4);have F4 := hJ (F3.out.keptN hg4);have E4 := hJ (E3.out.keptN hg4);have G4 := hJ (gQ G3.out hg4);have HBS : Hid (w.heap.size ≤ w3.heap.size ∧ w2.heap.size + 1 < w3.heap.size) := ⟨G3.out.size, by have := S3.out; omega⟩;clear hown hg4 X3 F3 E3 G3
 go_wp2_with fail
 refine (p8 none 0 0 1 [] 5 _ (Byt.empty _) (by omega) (by omega) rfl).mono ?_;rintro en w5 ⟨rfl, hb5, hg5⟩;have R5 := hJ (R4.out.keptN hg5);have X5 := hJ (X4.out.keptN hg5);have F5 := hJ (F4.out.keptN hg5);have E5 := hJ (E4.out.keptN hg5);have G5 := hJ (gQ G4.out hg5);have B5 := hJ hb5;clear hg5 hb5 R4 X4 F4 E4 G4
 go_wp2_with (refine wpList_copy_rt rfl _ _ rfl _ _ _ _ _ _ rfl rfl w3.heap.size 0 5 Z (lb 1 5) R5.out B5.out (by omega) (fun _ => rfl) (by omega) ?_)
 intro w6 hr6 hg6 hs6;have R6 := hJ hr6;have X6 := hJ (X5.out.kept hg6 (fun e => by have := Option.some.inj e; have := X5.out.lt; have := HBS.out; have := S2.out; omega));have F6 := hJ (F5.out.kept hg6 (fun e => by have := Option.some.inj e; have := HBS.out; omega));have E6 := hJ (E5.out.kept hg6 (fun e => by have := Option.some.inj e; have := HBS.out; omega));have G6 := hJ (grown_new G5.out hg6 HBS.out.1);clear hr6 hg6 hs6 R5 X5 F5 E5 G5 B5;have L6 := hJ (splice_len (cs := Z) (zs := lb 1 5) (p := 0) (by rw [hZl]; decide));generalize splice Z 0 (lb 1 5) = Z1 at *;have hZ1 : Z1.length = 4092 := by rw [L6.out, hZl]
 clear L6 hZl;go_upto_region 6 with fail
 have F6A := hJ (F6.out.all 3 3 rfl)
 go_region_law
  (refine step_copy_rt rfl (.tmp 20) (.tmp 21) (by rfl) _ _ _ _ _ _ (by rfl) (by rfl) w3.heap.size 1 5 Z1 [99, 111, 112] (by exact R6.out) (by exact F6A.out.heap rfl) (by omega) (fun _ => by rfl) (by omega) ?_; intro w7 hr7 hg7 hs7)
 all_goals
  have R7 := hJ hr7;have hg7' := gQ ((Qt.refl w6).drew.grown (some w3.heap.size)) hg7;have X7 := hJ (X6.out.kept hg7' (fun e => by have := Option.some.inj e; have := X6.out.lt; have := HBS.out; have := S2.out; omega));have E7 := hJ (E6.out.kept hg7' (fun e => by have := Option.some.inj e; have := HBS.out; omega));have G7 := hJ (grown_new G6.out hg7' HBS.out.1);clear hr7 hg7 hg7' hs7 R6 X6 F6 F6A E6 G6;have L7 := hJ (splice_len (cs := Z1) (zs := [99, 111, 112]) (p := 1) (by rw [hZ1]; decide));generalize splice Z1 1 [99, 111, 112] = Z2 at *;have hZ2 : Z2.length = 4092 := by rw [L7.out, hZ1]
  clear L7 hZ1;go_upto_region 7 with fail
  obtain ⟨c0, c1, c2, c3, c4, c5, c6⟩ := X7.out.cells
  go_region_law
   (first
    | (have zz := R8; refine step_copy_rt rfl (.tmp 27) (.tmp 29) (by rfl) _ _ _ _ _ _ (by rfl) (by rfl) w3.heap.size 4 5 Z2 NB (by exact R8) (by exact hb8) (by omega) (fun _ => by rfl) (by omega) ?_; intro w9 hr9 hg9 hs9)
    | (go_simp; go_at_call 145; refine (HNB.out _).mono ?_; rintro en w8 ⟨⟨g8, rfl, hb8⟩, hg8⟩; have hg8' := gQ ((Qt.refl w7).drew.grown none) hg8; have R8 := R7.out.keptN hg8'))
  all_goals
   have R9 := hJ hr9;have hg9' := gQ (grown_any hg8') hg9;have E9 := hJ (E7.out.kept hg9' (fun e => by have := Option.some.inj e; have := HBS.out; omega));have G9 := hJ (grown_new G7.out hg9' HBS.out.1);clear hr9 hg9 hg9' hs9 hg8 hg8' hb8 R7 X7 E7 G7 R8 c0 c1 c2 c3 c4 c5 c6;have L9 := hJ (splice_len (cs := Z2) (zs := NB) (p := 4) (by rw [hZ2, HNL.out]; decide));generalize splice Z2 4 NB = Z3 at *;have hZ3 : Z3.length = 4092 := by rw [L9.out, hZ2]
   clear L9 hZ2;go_upto_region 8 with fail
   have E9A := hJ (E9.out.all 4 4 rfl)
   go_region_law
    (refine step_copy_rt rfl (.tmp 35) (.tmp 36) (by rfl) _ _ _ _ _ _ (by rfl) (by rfl) w3.heap.size 4088 5 Z3 en4 (by exact R9.out) (by exact E9A.out.heap rfl) (by omega) (fun _ => by rfl) (by omega) ?_; intro w10 hr10 hg10 hs10)
   all_goals
    have R10 : Hid (Rw w10 w3.heap.size M) := by rw [← HB.out]; exact hr10
    have G10 := hJ (grown_new G9.out (gQ ((Qt.refl w9).drew.grown (some w3.heap.size)) hg10) HBS.out.1);have S10 := hJ HBS.out.1;clear hr10 hg10 hs10 R9 G9 E9 E9A;go_wp2
    go_ret2
    exact ⟨_, rfl, R10.out, S10.out, G10.out⟩
end Go.Proofs.YtkiopabcnemgnaaGreatDoor
