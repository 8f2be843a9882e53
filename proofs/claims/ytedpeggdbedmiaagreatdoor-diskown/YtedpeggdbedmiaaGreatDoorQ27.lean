import Derived.Test.YtedpeggdbedmiaaGreatDoorQ20
import Derived.Below
namespace Go.Proofs.YtedpeggdbedmiaaGreatDoor
open Go.RowKit Go.MuLone
theorem below_of {w w' : World} (h : w.grownBy w' none) : Below w.heap.size w w' := ⟨h.os, h.tape, h.output, h.size, fun k hk => h.block k hk (by simp)⟩
theorem landL_nil {z : List Int} (h : z.length = 4096) : landL [] 0 z 4096 = [z] := by
 unfold landL
 simp only [List.length_nil, List.nil_append, Nat.sub_zero, Nat.zero_add, List.replicate_one, List.set_cons_zero, List.getD_cons_zero]
 rw [List.take_of_length_le (by omega), List.drop_of_length_le (by rw [zp_len]; exact Nat.le_refl _), List.append_nil]
theorem landL_one (y z : List Int) (n : Nat) : landL [y] 0 z n = [z.take n ++ y.drop n] := by
 unfold landL
 simp
theorem Kp.new {w a b : World} {F : Nat → Prop} (hg : w.grownBy a none) (h : Kp a b F) (hf : ∀ k, F k → w.heap.size ≤ k) : w.grownBy b none :=
 ⟨h.os.trans hg.os, h.tape.trans hg.tape, h.output.trans hg.output, Nat.le_trans hg.size h.size, fun i hi hn => (h.block i (Nat.lt_of_lt_of_le hi hg.size) (fun e => by have := hf i e; omega)).trans (hg.block i hi hn)⟩
theorem Nf.ge {F : Nat → Prop} {a b : World} {m : Nat} (h : ∀ k, F k → m ≤ k) (hs : m ≤ a.heap.size) : ∀ k, Nf F a b k → m ≤ k := fun k hk => hk.elim (h k) (fun x => Nat.le_trans hs x.1)
theorem Nf.no {F : Nat → Prop} {a b : World} {g : Nat} (h : ¬ F g) (hg : g < a.heap.size) : ¬ Nf F a b g := fun hk => hk.elim h (fun x => by omega)
theorem Rw.kp {w w' : World} {F : Nat → Prop} {g : Nat} {zs : List Int} (h : Rw w g zs) (k : Kp w w' F) (hn : ¬ F g) : Rw w' g zs := (k.block g h.lt hn).trans h
theorem fs_ref1 : Ds.refuse ⟨3, 0, false, 0, 0, [], []⟩ 0 4096 = 0 := by simp [Ds.refuse, Ds.pages]
theorem fs_put1 : Ds.put ⟨3, 0, false, 0, 0, [], []⟩ 0 (fp 65) = ⟨3, 0, false, 1, 0, [], [(0, fp 65)]⟩ := by simp [Ds.put, Ds.spend]
theorem fs_sync : Ds.sync ⟨3, 0, false, 1, 0, [], [(0, fp 65)]⟩ = ⟨3, 0, false, 2, 0, [fp 65], []⟩ := by
 unfold Ds.sync
 simp only [List.foldl_cons, List.foldl_nil, landL_nil (fp_len 65)]
 rfl
theorem fs_ref2 : Ds.refuse ⟨3, 0, false, 2, 0, [fp 65], []⟩ 0 4096 = 0 := by simp [Ds.refuse, Ds.pages]
theorem fs_put2 : Ds.put ⟨3, 0, false, 2, 0, [fp 65], []⟩ 0 (fp 67) = ⟨3, 0, false, 3, 0, [fp 65], [(0, fp 67)]⟩ := by simp [Ds.put, Ds.spend]
theorem fs_arm : Ds.armed ⟨3, 0, false, 3, 0, [fp 65], [(0, fp 67)]⟩ 2 = ⟨3, 2, false, 3, 0, [fp 65], [(0, fp 67)]⟩ := by simp [Ds.armed]
theorem fs_ref3 : Ds.refuse ⟨3, 2, false, 3, 0, [fp 65], [(0, fp 67)]⟩ 1 4096 = 0 := by simp [Ds.refuse, Ds.pages]
theorem fs_put3 : Ds.put ⟨3, 2, false, 3, 0, [fp 65], [(0, fp 67)]⟩ 1 (fp 67) = ⟨3, 1, false, 4, 0, [fp 65], [(0, fp 67), (1, fp 67)]⟩ := by simp [Ds.put, Ds.spend]
theorem fs_spend : Ds.spend ⟨3, 1, false, 4, 0, [fp 65], [(0, fp 67), (1, fp 67)]⟩ = ⟨3, 0, true, 5, 0, [fp 65], [(0, fp 67), (1, fp 67)]⟩ := by simp [Ds.spend]
theorem fs_crash : Ds.crash ⟨3, 0, true, 5, 0, [fp 65], [(0, fp 67), (1, fp 67)]⟩ [(2, 2)] = ⟨3, 0, false, 5, 0, [(fp 67).take 2 ++ (fp 65).drop 2], []⟩ := by
 unfold Ds.crash
 simp only [List.zip_cons_cons, List.zip_nil_right, List.foldl_cons, List.foldl_nil]
 rw [show fateQ [fp 65] (0, fp 67) (2, 2) = landL [fp 65] 0 (fp 67) 2 from rfl, landL_one]
theorem fs_page : Ds.page ⟨3, 0, false, 5, 0, [(fp 67).take 2 ++ (fp 65).drop 2], []⟩ 0 = (fp 67).take 2 ++ (fp 65).drop 2 := rfl
theorem fs_same : ((fp 65).set 0 67).set 1 67 = (fp 67).take 2 ++ (fp 65).drop 2 := by
 have h1 : ∀ n (x y : Int), (((List.replicate (n + 2) x).set 0 y).set 1 y) = (List.replicate (n + 2) y).take 2 ++ (List.replicate (n + 2) x).drop 2 := by
  intro n x y
  simp [List.replicate_succ]
 exact h1 4094 65 67
set_option maxHeartbeats 8000000 in
set_option maxRecDepth 8000 in
theorem first12_any (w : World) : Calls Tryz.prog 4 #[] w fun e w' => e = .returned (.bool true) ∧ w.grownBy w' none := by
 go_enter Tryz.func4, Tryz.ntmps4
 go_wp2_with fail
 refine (dz_new 3 w (by omega) (by omega)).mono ?_
 rintro e w1 ⟨B, rfl, hg1, hz1⟩
 have s1 := hg1.size
 obtain ⟨F0, hF0⟩ : ∃ F0 : Nat → Prop, F0 = fun k => w.heap.size ≤ k ∧ k < w1.heap.size := ⟨_, rfl⟩
 rw [← hF0] at hz1
 have N0 : ∀ k, F0 k → w.heap.size ≤ k := fun k hk => by rw [hF0] at hk; exact hk.1
 have A0 : ¬ F0 w1.heap.size := fun hk => by rw [hF0] at hk; have := hk.2; omega
 clear hF0
 have G1 := hid_intro hg1
 have Z1 := hid_intro hz1
 clear hg1 hz1
 go_wp2_with fail
 refine (full_any 65 _).mono ?_
 rintro e w2 ⟨rfl, ha2, hg2⟩
 have s2 := hg2.size
 have sA := ha2.lt
 have Z2 := hid_intro (Z1.out.keptN hg2)
 have G2 := hid_intro (grown_trans G1.out hg2)
 have HA2 := hid_intro ha2
 clear ha2 hg2 Z1 G1
 go_wp2_with fail
 refine (dz_write Z2.out 0 _ 4096 (fp 65) (HA2.out.all 4096 4096 (fp_len 65).symm) (fun ad e hf => A0 (by rw [← Option.some.inj e] at hf; exact hf)) (fp_bt (by omega)) fs_ref1 (by decide) (by decide)).mono ?_
 rintro e w3 ⟨rfl, hz3, hk3⟩
 rw [fs_put1] at hz3
 have s3 := hk3.size
 obtain ⟨F1, hF1⟩ : ∃ F1 : Nat → Prop, F1 = Nf F0 w2 w3 := ⟨_, rfl⟩
 have N1 : ∀ k, F1 k → w.heap.size ≤ k := by rw [hF1]; exact Nf.ge N0 (by omega)
 have A1 : ¬ F1 w1.heap.size := by rw [hF1]; exact Nf.no A0 sA
 rw [← hF1] at hz3
 have Z3 := hid_intro hz3
 have G3 := hid_intro (Kp.new G2.out hk3 N0)
 have HA3 := hid_intro (HA2.out.kp hk3 A0)
 clear hz3 hk3 hF1 Z2 G2 HA2 A0 N0
 go_wp2_with fail
 refine (dz_sync Z3.out rfl (by decide) (by decide) (by decide)).mono ?_
 rintro e w4 ⟨rfl, hz4, hk4⟩
 rw [fs_sync] at hz4
 have s4 := hk4.size
 obtain ⟨F2, hF2⟩ : ∃ F2 : Nat → Prop, F2 = Nf F1 w3 w4 := ⟨_, rfl⟩
 have N2 : ∀ k, F2 k → w.heap.size ≤ k := by rw [hF2]; exact Nf.ge N1 (by omega)
 have A2 : ¬ F2 w1.heap.size := by rw [hF2]; exact Nf.no A1 (by omega)
 rw [← hF2] at hz4
 have Z4 := hid_intro hz4
 have G4 := hid_intro (Kp.new G3.out hk4 N1)
 have HA4 := hid_intro (HA3.out.kp hk4 A1)
 clear hz4 hk4 hF2 Z3 G3 HA3 A1 N1
 go_wp2_with fail
 refine (full_any 67 _).mono ?_
 rintro e w5 ⟨rfl, hb5, hg5⟩
 have s5 := hg5.size
 have hlow4 := Z4.out.low
 have Z5 := hid_intro (Z4.out.keptN hg5)
 have G5 := hid_intro (grown_trans G4.out hg5)
 have HA5 := hid_intro (HA4.out.keptN hg5)
 have HB5 := hid_intro hb5
 have sB5 := hb5.lt
 clear hb5 hg5 Z4 G4 HA4
 go_wp2_with fail
 refine (dz_write Z5.out 0 _ 4096 (fp 67) (HB5.out.all 4096 4096 (fp_len 67).symm) (fun ad e hf => by rw [← Option.some.inj e] at hf; have := hlow4 _ hf; simp at this) (fp_bt (by omega)) fs_ref2 (by decide) (by decide)).mono ?_
 rintro e w6 ⟨rfl, hz6, hk6⟩
 rw [fs_put2] at hz6
 have s6 := hk6.size
 obtain ⟨F3, hF3⟩ : ∃ F3 : Nat → Prop, F3 = Nf F2 w5 w6 := ⟨_, rfl⟩
 have N3 : ∀ k, F3 k → w.heap.size ≤ k := by rw [hF3]; exact Nf.ge N2 (by omega)
 have A3 : ¬ F3 w1.heap.size := by rw [hF3]; exact Nf.no A2 (by omega)
 rw [← hF3] at hz6
 have Z6 := hid_intro hz6
 have G6 := hid_intro (Kp.new G5.out hk6 N2)
 have HA6 := hid_intro (HA5.out.kp hk6 A2)
 clear hz6 hk6 hF3 Z5 G5 HA5 A2 N2 hlow4 HB5
 go_wp2_with fail
 refine (dz_arm Z6.out 2).mono ?_
 rintro e w7 ⟨rfl, hz7, hk7⟩
 rw [fs_arm] at hz7
 rw [show Ds.arm ⟨3, 0, false, 3, 0, [fp 65], [(0, fp 67)]⟩ 2 = 0 from rfl]
 have s7 := hk7.size
 have Z7 := hid_intro hz7
 have G7 := hid_intro (Kp.new G6.out hk7 N3)
 have HA7 := hid_intro (HA6.out.kp hk7 A3)
 clear hz7 hk7 Z6 G6 HA6
 go_wp2_with fail
 refine (full_any 67 _).mono ?_
 rintro e w8 ⟨rfl, hb8, hg8⟩
 have s8 := hg8.size
 have hlow7 := Z7.out.low
 have Z8 := hid_intro (Z7.out.keptN hg8)
 have G8 := hid_intro (grown_trans G7.out hg8)
 have HA8 := hid_intro (HA7.out.keptN hg8)
 have HB8 := hid_intro hb8
 clear hb8 hg8 Z7 G7 HA7
 go_wp2_with fail
 refine (dz_write Z8.out 1 _ 4096 (fp 67) (HB8.out.all 4096 4096 (fp_len 67).symm) (fun ad e hf => by rw [← Option.some.inj e] at hf; have := hlow7 _ hf; simp at this) (fp_bt (by omega)) fs_ref3 (by decide) (by decide)).mono ?_
 rintro e w9 ⟨rfl, hz9, hk9⟩
 rw [fs_put3] at hz9
 have s9 := hk9.size
 obtain ⟨F4, hF4⟩ : ∃ F4 : Nat → Prop, F4 = Nf F3 w8 w9 := ⟨_, rfl⟩
 have N4 : ∀ k, F4 k → w.heap.size ≤ k := by rw [hF4]; exact Nf.ge N3 (by omega)
 have A4 : ¬ F4 w1.heap.size := by rw [hF4]; exact Nf.no A3 (by omega)
 rw [← hF4] at hz9
 have Z9 := hid_intro hz9
 have G9 := hid_intro (Kp.new G8.out hk9 N3)
 have HA9 := hid_intro (HA8.out.kp hk9 A3)
 clear hz9 hk9 hF4 Z8 G8 HA8 A3 N3 hlow7 HB8
 go_wp2_with fail
 refine (dz_sync_fail Z9.out rfl rfl (by decide)).mono ?_
 rintro e w10 ⟨rfl, hz10, hk10⟩
 rw [fs_spend] at hz10
 have s10 := hk10.size
 have Z10 := hid_intro hz10
 have G10 := hid_intro (Kp.new G9.out hk10 N4)
 have HA10 := hid_intro (HA9.out.kp hk10 A4)
 clear hz10 hk10 Z9 G9 HA9
 rw [show Ds.ans ⟨3, 0, false, 0, 0, [], []⟩ = 0 from rfl, show Ds.ans ⟨3, 0, false, 2, 0, [fp 65], []⟩ = 0 from rfl, show Ds.ans ⟨3, 2, false, 3, 0, [fp 65], [(0, fp 67)]⟩ = 0 from rfl]
 go_wp2_with (go_at_call 18; refine (num_12 _ _ (by omega)).mono ?_; rintro e w10 ⟨rfl, rfl⟩)
 have gA := World.grownBy_alloc w10 (.cells #[.int .i64 2, .int .i64 2] 64) none
 have hlow10 := Z10.out.low
 have uA := heap_alloc_new w10 (.cells #[.int .i64 2, .int .i64 2] 64)
 have FL : Fl (w10.alloc (.cells #[.int .i64 2, .int .i64 2] 64)) (some ⟨w10.heap.size, 0, none⟩) [(2, 2)] := ⟨fun i f hf => by
  cases i with
  | zero =>
   obtain rfl := Option.some.inj hf
   exact ⟨w10.heap.size, 0, rfl, by simp, cell_of_row _ _ 0 _ _ _ uA, cell_of_row _ _ 1 _ _ _ uA⟩
  | succ i => simp at hf⟩
 refine (dz_crash (Z10.out.keptN gA) (some ⟨w10.heap.size, 0, none⟩) 1 1 [(2, 2)] FL rfl (Nat.le_refl _) (by omega) (fun b off e hf => by injection e with e; injection e with e; subst e; have := hlow10 _ hf; omega) (by decide)).mono ?_
 rintro e w11 ⟨rfl, hz11, hk11⟩
 rw [fs_crash] at hz11
 have s11 := hk11.size
 have sA10 : (w10.alloc (.cells #[.int .i64 2, .int .i64 2] 64)).heap.size = w10.heap.size + 1 := by simp
 obtain ⟨F5, hF5⟩ : ∃ F5 : Nat → Prop, F5 = Nf F4 (w10.alloc (.cells #[.int .i64 2, .int .i64 2] 64)) w11 := ⟨_, rfl⟩
 have N5 : ∀ k, F5 k → w.heap.size ≤ k := by rw [hF5]; exact Nf.ge N4 (by omega)
 have A5 : ¬ F5 w1.heap.size := by rw [hF5]; exact Nf.no A4 (by omega)
 rw [← hF5] at hz11
 have Z11 := hid_intro hz11
 have G11 := hid_intro (Kp.new (grown_trans G10.out gA) hk11 N4)
 have HA11 := hid_intro ((HA10.out.keptN gA).kp hk11 A4)
 clear hz11 hk11 hF5 Z10 G10 HA10 A4 N4 hlow10 FL uA gA
 go_wp2_with fail
 refine (dz_read Z11.out 0 (by decide) rfl (by decide)).mono ?_
 rintro e w12 ⟨g, rfl, hr12, hgs, -, hbt, hz12, hk12⟩
 rw [fs_page] at hr12 hbt
 have s12 := hk12.size
 have HA12 := hid_intro (HA11.out.kp hk12 A5)
 have G12 := hid_intro (Kp.new G11.out hk12 N5)
 have Z12 := hid_intro hz12
 have HR12 := hid_intro hr12
 have c0 := HA12.out.cell 0 (by rw [fp_len]; omega)
 have f0 := HA12.out.fz 0
 have c1 := HA12.out.cell 1 (by rw [fp_len]; omega)
 have f1 := HA12.out.fz 1
 clear hr12 hz12 hk12 Z11 G11 HA11
 have hne : g ≠ w1.heap.size := by omega
 have HA13 := hid_intro ((HA12.out.set 0 67).set 1 67)
 have gs2 : w12.grownBy ((w12.setCell ⟨w1.heap.size, 0, none⟩ (.int .u8 67)).setCell ⟨w1.heap.size, 1, none⟩ (.int .u8 67)) (some w1.heap.size) := grown_trans (grown_cell _ _ _ _) (grown_cell _ _ _ _)
 have HR13 := hid_intro (HR12.out.kept gs2 (fun e => hne (Option.some.inj e)))
 have Z13 := hid_intro (Z12.out.kept gs2 (fun k e => by rw [← Option.some.inj e]; exact A5))
 have G13 := hid_intro (grown_new G12.out gs2 s1)
 have hlz : ((fp 67).take 2 ++ (fp 65).drop 2).length = 4096 := by rw [← fs_same, List.length_set, List.length_set, fp_len]
 clear gs2
 go_wp2_with fail
 refine (same_yes (some ⟨g, 0, none⟩) (some ⟨w1.heap.size, 0, none⟩) 4096 4096 4096 4096 ((fp 67).take 2 ++ (fp 65).drop 2) (((fp 65).set 0 67).set 1 67) _ (HR13.out.all 4096 4096 hlz.symm) (HA13.out.all 4096 4096 (by rw [List.length_set, List.length_set, fp_len])) fs_same.symm).mono ?_
 rintro e w13 ⟨rfl, hw13⟩
 have Z14 := hid_intro (hw13 ▸ Z13.out)
 have G14 := hid_intro (hw13 ▸ G13.out)
 clear hw13 Z13 G13 HR13 HA13 c0 c1 f0 f1
 go_wp2_with (go_at_call 18; refine (num_12 _ _ (by omega)).mono ?_; rintro e w13 ⟨rfl, rfl⟩)
 refine (dz_pages Z14.out).mono ?_
 rintro e w15 ⟨rfl, -, hk15⟩
 rw [show Ds.pages (Ds.read ⟨3, 0, false, 5, 0, [(fp 67).take 2 ++ (fp 65).drop 2], []⟩) = 1 from rfl]
 have G15 := hid_intro (Kp.new G14.out hk15 N5)
 clear hk15
 go_wp2
 go_ret
 exact ⟨rfl, G15.out⟩
end Go.Proofs.YtedpeggdbedmiaaGreatDoor
namespace Go.Proofs.YtedpeggdbedmiaaGreatDoor
open Go.RowKit Go.MuLone
def Dw (w0 w : World) (B : Nat) (O : Nat → Prop) (s : Ds) : Prop := ∃ F, Dz w B F s ∧ (∀ k, F k → w0.heap.size ≤ k ∧ ¬ O k) ∧ w0.grownBy w none ∧ ∀ k, O k → k < w.heap.size
def Sd (w w' : World) (O : Nat → Prop) : Prop := ∀ k, O k → w'.heap[k]? = w.heap[k]?
theorem Sd.refl (w : World) (O : Nat → Prop) : Sd w w O := fun _ _ => rfl
theorem Sd.trans {a b c : World} {O : Nat → Prop} (h : Sd a b O) (k : Sd b c O) : Sd a c O := fun i hi => (k i hi).trans (h i hi)
theorem Dw.grown {w0 w : World} {B : Nat} {O : Nat → Prop} {s : Ds} (h : Dw w0 w B O s) : w0.grownBy w none := by
 obtain ⟨F, h1, h2, h3, h4⟩ := h
 exact h3
theorem Dw.keptN {w0 w w' : World} {B : Nat} {O : Nat → Prop} {s : Ds} (h : Dw w0 w B O s) (hg : w.grownBy w' none) : Dw w0 w' B O s := by
 obtain ⟨F, h1, h2, h3, h4⟩ := h
 exact ⟨F, h1.keptN hg, h2, grown_trans h3 hg, fun k hk => Nat.lt_of_lt_of_le (h4 k hk) hg.size⟩
theorem Dw.kept {w0 w w' : World} {B g : Nat} {O : Nat → Prop} {s : Ds} (h : Dw w0 w B O s) (hg : w.grownBy w' (some g)) (hO : O g) (h0 : w0.heap.size ≤ g) : Dw w0 w' B O s := by
 obtain ⟨F, h1, h2, h3, h4⟩ := h
 exact ⟨F, h1.kept hg (fun k e hf => (h2 k hf).2 (by rw [← Option.some.inj e]; exact hO)), h2, grown_new h3 hg h0, fun k hk => Nat.lt_of_lt_of_le (h4 k hk) hg.size⟩
theorem Dw.sub {w0 w : World} {B : Nat} {O O' : Nat → Prop} {s : Ds} (h : Dw w0 w B O s) (ho : ∀ k, O' k → O k) : Dw w0 w B O' s := by
 obtain ⟨F, h1, h2, h3, h4⟩ := h
 exact ⟨F, h1, fun k hk => ⟨(h2 k hk).1, fun e => (h2 k hk).2 (ho k e)⟩, h3, fun k hk => h4 k (ho k hk)⟩
theorem Dw.add {w0 w w' : World} {B : Nat} {O O' : Nat → Prop} {s : Ds} (h : Dw w0 w B O s) (hg : w.grownBy w' none) (ho : ∀ k, O' k → O k ∨ w.heap.size ≤ k ∧ k < w'.heap.size) : Dw w0 w' B O' s := by
 obtain ⟨F, h1, h2, h3, h4⟩ := h
 refine ⟨F, h1.keptN hg, fun k hk => ⟨(h2 k hk).1, fun e => ?_⟩, grown_trans h3 hg, fun k hk => ?_⟩
 ·rcases ho k e with x | x
  ·exact (h2 k hk).2 x
  ·have := h1.low k hk; omega
 ·rcases ho k hk with x | x
  ·exact Nat.lt_of_lt_of_le (h4 k x) hg.size
  ·exact x.2
theorem Dw.step {w0 w w' : World} {B : Nat} {F F' O : Nat → Prop} {s : Ds} (h2 : ∀ k, F k → w0.heap.size ≤ k ∧ ¬ O k) (h3 : w0.grownBy w none) (h4 : ∀ k, O k → k < w.heap.size) (hz : Dz w' B F' s) (hk : Kp w w' F) (hf : ∀ k, F' k → F k ∨ w.heap.size ≤ k ∧ k < w'.heap.size) : Dw w0 w' B O s ∧ Sd w w' O := by
 refine ⟨⟨F', hz, fun k e => ?_, Kp.new h3 hk (fun k e => (h2 k e).1), fun k e => Nat.lt_of_lt_of_le (h4 k e) hk.size⟩, fun k e => hk.block k (h4 k e) (fun x => (h2 k x).2 e)⟩
 rcases hf k e with x | x
 ·exact h2 k x
 ·exact ⟨Nat.le_trans h3.size x.1, fun o => by have := h4 k o; omega⟩
end Go.Proofs.YtedpeggdbedmiaaGreatDoor
