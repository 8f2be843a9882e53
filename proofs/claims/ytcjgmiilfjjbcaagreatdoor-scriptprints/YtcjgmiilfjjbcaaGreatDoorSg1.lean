import Derived.Test.YtcjgmiilfjjbcaaGreatDoorSrI
import Derived.Test.YtcjgmiilfjjbcaaGreatDoorDuG
import Derived.Deep.RegionHeld3
import Derived.Deep.DrawnRows
namespace Go.Proofs.YtcjgmiilfjjbcaaGreatDoor
open Go.RowKit

set_option maxHeartbeats 4000000 in
set_option maxRecDepth 100000 in
theorem refFates23 (ao : Option Addr) (n cap : Nat) (fs : List (Int × Int)) (w : World) (hF : FtR w ao fs) (hfl : fs.length = n) (hn : n ≤ 2000000000) : Calls Tryz.prog 17 #[.slice ao n cap] w fun e w' => ∃ a c, e = .returned (.slice a n c) ∧ w'.ownsRow w.heap.size 43 2 (.slice a n c) n (fcl fs) ∧ w.grownBy w' none := by
  obtain ⟨i0, hi, hz0, hz1, hz2⟩ := info_parts info_fateS
  have HF := hid_intro hF
  have HL := hid_intro hfl
  clear hF hfl
  go_enter Tryz.func17, Tryz.ntmps17
  go_wp2_with (at_make; refine wpList_make_own _ rfl _ _ 33 rfl w.heap.size 43 i0 (.agg #[.int .i64 0, .int .i64 0]) 2 Tryz.underlying33 hi hz0 hz1 _ _ _ n rfl rfl rfl ?b2 ?b3 (Nat.le_refl _) ?_)
  case b2 => rw [hz2]; omega
  case b3 => unfold maxLen; omega
  intro w0 hown0 hgrow0
  have O0 := hid_intro hown0
  have G0 := hid_intro hgrow0
  clear hown0 hgrow0
  go_wp2_with fail
  go_loopw [3, 4] (fun sv si wr => ∃ k : Nat, k ≤ n ∧ si = .int .i64 (k : Int) ∧ wr.ownsRow w.heap.size 43 2 sv k (fcl (fs.take k)) ∧ w.grownBy wr none) (fun _ si _ => n - (intOf si).toNat)
  case atStart => exact ⟨0, Nat.zero_le _, rfl, O0.out, G0.out⟩
  case round =>
    obtain ⟨k, hk, rfl, hown, hg⟩ := hrel
    have HG := hid_intro hg
    have HO := hid_intro hown
    obtain ⟨ra, rc, hsv⟩ := own_shape20 hown
    subst hsv
    clear hg hown
    by_cases hlt : k < n
    · have hlt' : (k : Int) < (n : Int) := by omega
      have hk0 : (0 : Int) ≤ (k : Int) := by omega
      have wk : IntKind.i64.wrap ((k : Int) + 1) = (k : Int) + 1 := wrap_small _ (by omega) (by omega)
      obtain ⟨f, hf⟩ : ∃ f, fs[k]? = some f := ⟨_, List.getElem?_eq_getElem (by have := HL.out; omega)⟩
      obtain ⟨f1, f2⟩ := f
      obtain ⟨b, off, eao, x1, x2⟩ := (HF.out.keptN HG.out) k _ hf
      subst eao
      simp only at x1 x2
      have HFk : Hid (fcl (fs.take (k + 1)) = fcl (fs.take k) ++ [.int .i64 f1, .int .i64 f2]) := by show _ = _; rw [List.take_add_one, hf, Option.toList_some, fcl_app]; rfl
      have hsz := HG.out.size
      clear hf
      go_wp2_with (at_builtin; refine wpList_append_own _ rfl _ _ 33 rfl w.heap.size 43 i0 (.agg #[.int .i64 0, .int .i64 0]) 2 16 Tryz.underlying33 hi hz0 hz1 hz2 rfl (by decide) _ _ _ rfl (HO.out.alloc _) ⟨wr.heap.size, 0, none⟩ 1 1 [.int .i64 f1, .int .i64 f2] rfl rfl (by exact cell_two_new _ _ _ _) (by intro u hu; simp at hu; rcases hu with rfl | rfl <;> rfl) (by unfold maxLen; omega) (by omega) (by simp; omega) ?_)
      intro v9 w9 ho9 hg9 _
      have G9 := hid_intro (grown_app20 HG.out HO.out (Nat.le_refl _) hg9)
      rw [← HFk.out] at ho9
      have O9 := hid_intro ho9
      clear ho9 hg9
      go_wp2
      go_roundw
      case rel => exact ⟨k + 1, by omega, by go_num, O9.out, G9.out⟩
      case measure => simp [intOf]; omega
    · obtain rfl : k = n := by omega
      rw [List.take_of_length_le (by have := HL.out; omega)] at HO
      go_wp2
      go_ret
      exact ⟨ra, rc, rfl, HO.out, HG.out⟩
/-- What the copy of a step answers. -/
def CoP (w : World) (o : Opq) (en : Ending) (w' : World) : Prop := ∃ ka kc va vc ha hc fa fc, en = .returned (.agg #[.int .i64 o.k, .int .i64 o.a, .int .i64 o.b, .int .i64 o.c, .slice ka o.key.length kc, .slice va o.val.length vc, .slice ha o.hi.length hc, .slice fa o.f.length fc]) ∧ w.grownBy w' none ∧ OpV w' w.heap.size o (.slice ka o.key.length kc) (.slice va o.val.length vc) (.slice ha o.hi.length hc) (.slice fa o.f.length fc)
theorem results_op1 {fn : Func} {p : Tmp} (h : fn.results = #[.cell p 35]) (tmps : Array Value) (w : World) (g : Nat) (a b c d e f k l : Value) (hp : tmps.getD p undef = .pointer (some ⟨g, 0, none⟩)) (hr : w.heap[g]? = some (.cells #[a, b, c, d, e, f, k, l] 35 (0, 0))) :
    (results fn tmps).run Tryz.prog w = .ok (.agg #[a, b, c, d, e, f, k, l]) w := by
  have hp' : tmps[p]?.getD undef = .pointer (some ⟨g, 0, none⟩) := by simpa using hp
  simp [results, h, hp', asAddr, run_loadVar_row w g 35 35 #[a, b, c, d, e, f, k, l] (0, 0) _ hr Tryz.underlying35 rfl (by rw [size_aopS]; rfl)]
set_option maxHeartbeats 8000000 in
set_option maxRecDepth 100000 in
theorem refOp23 (o : Opq) (ka : Option Addr) (kc : Nat) (va : Option Addr) (vc : Nat) (ha : Option Addr) (hc : Nat) (fa : Option Addr) (fc : Nat) (w : World) (hR : OpR w o ka kc va vc ha hc fa fc) (h1 : o.key.length ≤ 2097152) (h2 : o.val.length ≤ 2097152) (h3 : o.hi.length ≤ 2097152) (h4 : o.f.length ≤ 1048576) :
    Calls Tryz.prog 25 #[.agg #[.int .i64 o.k, .int .i64 o.a, .int .i64 o.b, .int .i64 o.c, .slice ka o.key.length kc, .slice va o.val.length vc, .slice ha o.hi.length hc, .slice fa o.f.length fc]] w fun en w' => CoP w o en w' := by
  have g1 := World.grownBy_alloc w (.cells #[.int .i64 o.k, .int .i64 o.a, .int .i64 o.b, .int .i64 o.c, .slice ka o.key.length kc, .slice va o.val.length vc, .slice ha o.hi.length hc, .slice fa o.f.length fc] 35) none
  have g2 := World.grownBy_alloc (w.alloc (.cells #[.int .i64 o.k, .int .i64 o.a, .int .i64 o.b, .int .i64 o.c, .slice ka o.key.length kc, .slice va o.val.length vc, .slice ha o.hi.length hc, .slice fa o.f.length fc] 35)) (.cells #[.int .i64 0, .int .i64 0, .int .i64 0, .int .i64 0, .slice none 0 0, .slice none 0 0, .slice none 0 0, .slice none 0 0] 35) none
  have xB := heap_keptS (heap_at0S w #[.int .i64 o.k, .int .i64 o.a, .int .i64 o.b, .int .i64 o.c, .slice ka o.key.length kc, .slice va o.val.length vc, .slice ha o.hi.length hc, .slice fa o.f.length fc] 35) g2
  have xU := heap_at0S (w.alloc (.cells #[.int .i64 o.k, .int .i64 o.a, .int .i64 o.b, .int .i64 o.c, .slice ka o.key.length kc, .slice va o.val.length vc, .slice ha o.hi.length hc, .slice fa o.f.length fc] 35)) #[.int .i64 0, .int .i64 0, .int .i64 0, .int .i64 0, .slice none 0 0, .slice none 0 0, .slice none 0 0, .slice none 0 0] 35
  rw [size_allocD] at xU
  have XB := hid_intro xB
  have XU := hid_intro xU
  have G2 := hid_intro (grown_trans g1 g2)
  have R2 := hid_intro (hR.keptN G2.out)
  clear g1 g2 xB xU hR
  go_enter Tryz.func25, Tryz.ntmps25
  go_upto_region 1 with fail
  generalize (w.alloc (.cells #[.int .i64 o.k, .int .i64 o.a, .int .i64 o.b, .int .i64 o.c, .slice ka o.key.length kc, .slice va o.val.length vc, .slice ha o.hi.length hc, .slice fa o.f.length fc] 35)).alloc (.cells #[.int .i64 0, .int .i64 0, .int .i64 0, .int .i64 0, .slice none 0 0, .slice none 0 0, .slice none 0 0, .slice none 0 0] 35) = w1 at *
  obtain ⟨B, hB⟩ : ∃ B, w.heap.size = B := ⟨_, rfl⟩
  have HB := hid_intro hB
  rw [hB] at XB XU ⊢
  obtain ⟨U, hU⟩ : ∃ U, B + 1 = U := ⟨_, rfl⟩
  rw [hU] at XU ⊢
  have HU := hid_intro hU
  have hBU : B ≠ U := by omega
  have hBU2 : some B ≠ some U := fun e => hBU (Option.some.inj e)
  clear hB hU
  obtain ⟨kn, hkn⟩ : ∃ n, o.key.length = n := ⟨_, rfl⟩
  obtain ⟨vn, hvn⟩ : ∃ n, o.val.length = n := ⟨_, rfl⟩
  obtain ⟨hn, hhn⟩ : ∃ n, o.hi.length = n := ⟨_, rfl⟩
  obtain ⟨fn, hfn⟩ : ∃ n, o.f.length = n := ⟨_, rfl⟩
  have HKN := hid_intro hkn
  have HVN := hid_intro hvn
  have HHN := hid_intro hhn
  have HFN := hid_intro hfn
  rw [hkn] at h1
  rw [hvn] at h2
  rw [hhn] at h3
  rw [hfn] at h4
  rw [hkn, hvn, hhn, hfn] at XB ⊢
  have K1 : Hid (Byt w1 ka kn kc o.key) := by rw [← hkn]; exact R2.out.key
  have V1 : Hid (Byt w1 va vn vc o.val) := by rw [← hvn]; exact R2.out.val
  have H1 : Hid (Byt w1 ha hn hc o.hi) := by rw [← hhn]; exact R2.out.hi
  have F1 := hid_intro R2.out.f
  have hsB : w.heap.size ≤ w1.heap.size := G2.out.size
  clear hkn hvn hhn hfn
  have x0 : w1.cell? ⟨B, 0, none⟩ = some (.int .i64 o.k) := cell_heapS (i := 0) XB.out rfl
  have x1 : w1.cell? ⟨B, 1, none⟩ = some (.int .i64 o.a) := cell_heapS (i := 1) XB.out rfl
  have x2 : w1.cell? ⟨B, 2, none⟩ = some (.int .i64 o.b) := cell_heapS (i := 2) XB.out rfl
  have x3 : w1.cell? ⟨B, 3, none⟩ = some (.int .i64 o.c) := cell_heapS (i := 3) XB.out rfl
  have x4 : w1.cell? ⟨B, 4, none⟩ = some (.slice ka kn kc) := cell_heapS (i := 4) XB.out rfl
  have x5 : w1.cell? ⟨B, 5, none⟩ = some (.slice va vn vc) := cell_heapS (i := 5) XB.out rfl
  have x6 : w1.cell? ⟨B, 6, none⟩ = some (.slice ha hn hc) := cell_heapS (i := 6) XB.out rfl
  have x7 : w1.cell? ⟨B, 7, none⟩ = some (.slice fa fn fc) := cell_heapS (i := 7) XB.out rfl
  have X0 : w1.cell? ⟨B, 0, none⟩ = some (.int .i64 o.k) ∧ w1.cell? ⟨B, 1, none⟩ = some (.int .i64 o.a) ∧ w1.cell? ⟨B, 2, none⟩ = some (.int .i64 o.b) ∧ w1.cell? ⟨B, 3, none⟩ = some (.int .i64 o.c) ∧ w1.cell? ⟨B, 4, none⟩ = some (.slice ka kn kc) ∧ w1.cell? ⟨B, 5, none⟩ = some (.slice va vn vc) ∧ w1.cell? ⟨B, 6, none⟩ = some (.slice ha hn hc) ∧ w1.cell? ⟨B, 7, none⟩ = some (.slice fa fn fc) := ⟨x0, x1, x2, x3, x4, x5, x6, x7⟩
  refine wp_region_held_drew (S := (fun w' => w'.cell? ⟨B, 0, none⟩ = some (.int .i64 o.k) ∧ w'.cell? ⟨B, 1, none⟩ = some (.int .i64 o.a) ∧ w'.cell? ⟨B, 2, none⟩ = some (.int .i64 o.b) ∧ w'.cell? ⟨B, 3, none⟩ = some (.int .i64 o.c) ∧ w'.cell? ⟨B, 4, none⟩ = some (.slice ka kn kc) ∧ w'.cell? ⟨B, 5, none⟩ = some (.slice va vn vc) ∧ w'.cell? ⟨B, 6, none⟩ = some (.slice ha hn hc) ∧ w'.cell? ⟨B, 7, none⟩ = some (.slice fa fn fc))) (by kernel_rfl) ?_ (fun hHeld => ?_)
  · exact X0
  refine wpAnyH_take (i := 0) (oi := { dst := some 3, op := Go.Op.fieldAddr 35 (Go.Operand.tmp 1) 0, type := 0, pos := "coppiceref.go:532", after := #[], guard := none }) (v := ?_) rfl (by kernel_rfl) (by kernel_rfl) (by kernel_rfl) (fun _ _ _ h => h) (Or.inl ⟨by rfl, ?_⟩) (by assumption) ?_
  rotate_left
  · intro w hSw; (try dsimp only at hSw); go_simp; (try with_reducible rfl)
  simp only [Act.put, List.setIfInBounds_toArray, List.set_cons_zero, List.set_cons_succ]
  refine wpAnyH_take (i := 1) (oi := { dst := some 4, op := Go.Op.load 3 (Go.Operand.tmp 3), type := 3, pos := "coppiceref.go:532", after := #[{ on := 0, ground := Go.Ground.data }], guard := none }) (v := ?_) rfl (by kernel_rfl) (by kernel_rfl) (by kernel_rfl) (fun _ _ _ h => h) (Or.inl ⟨by rfl, ?_⟩) (by assumption) ?_
  rotate_left
  · intro w hSw; (try dsimp only at hSw); go_simp; (try with_reducible rfl)
  simp only [Act.put, List.setIfInBounds_toArray, List.set_cons_zero, List.set_cons_succ]
  refine wpAnyH_take (i := 2) (oi := { dst := some 5, op := Go.Op.fieldAddr 35 (Go.Operand.tmp 1) 1, type := 0, pos := "coppiceref.go:532", after := #[], guard := none }) (v := ?_) rfl (by kernel_rfl) (by kernel_rfl) (by kernel_rfl) (fun _ _ _ h => h) (Or.inl ⟨by rfl, ?_⟩) (by assumption) ?_
  rotate_left
  · intro w hSw; (try dsimp only at hSw); go_simp; (try with_reducible rfl)
  simp only [Act.put, List.setIfInBounds_toArray, List.set_cons_zero, List.set_cons_succ]
  refine wpAnyH_take (i := 3) (oi := { dst := some 6, op := Go.Op.load 3 (Go.Operand.tmp 5), type := 3, pos := "coppiceref.go:532", after := #[{ on := 2, ground := Go.Ground.data }], guard := none }) (v := ?_) rfl (by kernel_rfl) (by kernel_rfl) (by kernel_rfl) (fun _ _ _ h => h) (Or.inl ⟨by rfl, ?_⟩) (by assumption) ?_
  rotate_left
  · intro w hSw; (try dsimp only at hSw); go_simp; (try with_reducible rfl)
  simp only [Act.put, List.setIfInBounds_toArray, List.set_cons_zero, List.set_cons_succ]
  refine wpAnyH_take (i := 4) (oi := { dst := some 7, op := Go.Op.fieldAddr 35 (Go.Operand.tmp 1) 2, type := 0, pos := "coppiceref.go:532", after := #[], guard := none }) (v := ?_) rfl (by kernel_rfl) (by kernel_rfl) (by kernel_rfl) (fun _ _ _ h => h) (Or.inl ⟨by rfl, ?_⟩) (by assumption) ?_
  rotate_left
  · intro w hSw; (try dsimp only at hSw); go_simp; (try with_reducible rfl)
  simp only [Act.put, List.setIfInBounds_toArray, List.set_cons_zero, List.set_cons_succ]
  refine wpAnyH_take (i := 5) (oi := { dst := some 8, op := Go.Op.load 3 (Go.Operand.tmp 7), type := 3, pos := "coppiceref.go:532", after := #[{ on := 4, ground := Go.Ground.data }], guard := none }) (v := ?_) rfl (by kernel_rfl) (by kernel_rfl) (by kernel_rfl) (fun _ _ _ h => h) (Or.inl ⟨by rfl, ?_⟩) (by assumption) ?_
  rotate_left
  · intro w hSw; (try dsimp only at hSw); go_simp; (try with_reducible rfl)
  simp only [Act.put, List.setIfInBounds_toArray, List.set_cons_zero, List.set_cons_succ]
  refine wpAnyH_take (i := 6) (oi := { dst := some 9, op := Go.Op.fieldAddr 35 (Go.Operand.tmp 1) 3, type := 0, pos := "coppiceref.go:532", after := #[], guard := none }) (v := ?_) rfl (by kernel_rfl) (by kernel_rfl) (by kernel_rfl) (fun _ _ _ h => h) (Or.inl ⟨by rfl, ?_⟩) (by assumption) ?_
  rotate_left
  · intro w hSw; (try dsimp only at hSw); go_simp; (try with_reducible rfl)
  simp only [Act.put, List.setIfInBounds_toArray, List.set_cons_zero, List.set_cons_succ]
  refine wpAnyH_take (i := 7) (oi := { dst := some 10, op := Go.Op.load 3 (Go.Operand.tmp 9), type := 3, pos := "coppiceref.go:532", after := #[{ on := 6, ground := Go.Ground.data }], guard := none }) (v := ?_) rfl (by kernel_rfl) (by kernel_rfl) (by kernel_rfl) (fun _ _ _ h => h) (Or.inl ⟨by rfl, ?_⟩) (by assumption) ?_
  rotate_left
  · intro w hSw; (try dsimp only at hSw); go_simp; (try with_reducible rfl)
  simp only [Act.put, List.setIfInBounds_toArray, List.set_cons_zero, List.set_cons_succ]
  refine wpAnyH_take (i := 8) (oi := { dst := some 11, op := Go.Op.fieldAddr 35 (Go.Operand.tmp 1) 4, type := 0, pos := "coppiceref.go:532", after := #[], guard := none }) (v := ?_) rfl (by kernel_rfl) (by kernel_rfl) (by kernel_rfl) (fun _ _ _ h => h) (Or.inl ⟨by rfl, ?_⟩) (by assumption) ?_
  rotate_left
  · intro w hSw; (try dsimp only at hSw); go_simp; (try with_reducible rfl)
  simp only [Act.put, List.setIfInBounds_toArray, List.set_cons_zero, List.set_cons_succ]
  refine wpAnyH_take (i := 9) (oi := { dst := some 12, op := Go.Op.load 32 (Go.Operand.tmp 11), type := 32, pos := "coppiceref.go:532", after := #[{ on := 8, ground := Go.Ground.data }], guard := none }) (v := ?_) rfl (by kernel_rfl) (by kernel_rfl) (by kernel_rfl) (fun _ _ _ h => h) (Or.inl ⟨by rfl, ?_⟩) (by assumption) ?_
  rotate_left
  · intro w hSw; (try dsimp only at hSw); go_simp; (try with_reducible rfl)
  simp only [Act.put, List.setIfInBounds_toArray, List.set_cons_zero, List.set_cons_succ]
  refine wpAnyH_take (i := 11) (oi := { dst := some 14, op := Go.Op.fieldAddr 35 (Go.Operand.tmp 1) 5, type := 0, pos := "coppiceref.go:532", after := #[], guard := none }) (v := ?_) rfl (by kernel_rfl) (by kernel_rfl) (by kernel_rfl) (fun _ _ _ h => h) (Or.inl ⟨by rfl, ?_⟩) (by assumption) ?_
  rotate_left
  · intro w hSw; (try dsimp only at hSw); go_simp; (try with_reducible rfl)
  simp only [Act.put, List.setIfInBounds_toArray, List.set_cons_zero, List.set_cons_succ]
  refine wpAnyH_take (i := 12) (oi := { dst := some 15, op := Go.Op.load 32 (Go.Operand.tmp 14), type := 32, pos := "coppiceref.go:532", after := #[{ on := 11, ground := Go.Ground.data }], guard := none }) (v := ?_) rfl (by kernel_rfl) (by kernel_rfl) (by kernel_rfl) (fun _ _ _ h => h) (Or.inl ⟨by rfl, ?_⟩) (by assumption) ?_
  rotate_left
  · intro w hSw; (try dsimp only at hSw); go_simp; (try with_reducible rfl)
  simp only [Act.put, List.setIfInBounds_toArray, List.set_cons_zero, List.set_cons_succ]
  refine wpAnyH_take (i := 14) (oi := { dst := some 17, op := Go.Op.fieldAddr 35 (Go.Operand.tmp 1) 6, type := 0, pos := "coppiceref.go:532", after := #[], guard := none }) (v := ?_) rfl (by kernel_rfl) (by kernel_rfl) (by kernel_rfl) (fun _ _ _ h => h) (Or.inl ⟨by rfl, ?_⟩) (by assumption) ?_
  rotate_left
  · intro w hSw; (try dsimp only at hSw); go_simp; (try with_reducible rfl)
  simp only [Act.put, List.setIfInBounds_toArray, List.set_cons_zero, List.set_cons_succ]
  refine wpAnyH_take (i := 15) (oi := { dst := some 18, op := Go.Op.load 32 (Go.Operand.tmp 17), type := 32, pos := "coppiceref.go:532", after := #[{ on := 14, ground := Go.Ground.data }], guard := none }) (v := ?_) rfl (by kernel_rfl) (by kernel_rfl) (by kernel_rfl) (fun _ _ _ h => h) (Or.inl ⟨by rfl, ?_⟩) (by assumption) ?_
  rotate_left
  · intro w hSw; (try dsimp only at hSw); go_simp; (try with_reducible rfl)
  simp only [Act.put, List.setIfInBounds_toArray, List.set_cons_zero, List.set_cons_succ]
  refine wpAnyH_take (i := 17) (oi := { dst := some 20, op := Go.Op.fieldAddr 35 (Go.Operand.tmp 1) 7, type := 0, pos := "coppiceref.go:532", after := #[], guard := none }) (v := ?_) rfl (by kernel_rfl) (by kernel_rfl) (by kernel_rfl) (fun _ _ _ h => h) (Or.inl ⟨by rfl, ?_⟩) (by assumption) ?_
  rotate_left
  · intro w hSw; (try dsimp only at hSw); go_simp; (try with_reducible rfl)
  simp only [Act.put, List.setIfInBounds_toArray, List.set_cons_zero, List.set_cons_succ]
  refine wpAnyH_take (i := 18) (oi := { dst := some 21, op := Go.Op.load 33 (Go.Operand.tmp 20), type := 33, pos := "coppiceref.go:532", after := #[{ on := 17, ground := Go.Ground.data }], guard := none }) (v := ?_) rfl (by kernel_rfl) (by kernel_rfl) (by kernel_rfl) (fun _ _ _ h => h) (Or.inl ⟨by rfl, ?_⟩) (by assumption) ?_
  rotate_left
  · intro w hSw; (try dsimp only at hSw); go_simp; (try with_reducible rfl)
  simp only [Act.put, List.setIfInBounds_toArray, List.set_cons_zero, List.set_cons_succ]
  refine wpAnyH_ready (rs := [10]) (by kernel_rfl) (by simp) ?_
  refine AllReadyH.cons (o := { dst := some 13, op := Go.Op.call { callee := Go.Callee.value (Go.Operand.func 16), args := #[Go.Operand.tmp 12], argTypes := #[32] }, type := 32, pos := "coppiceref.go:532", after := #[{ on := 9, ground := Go.Ground.data }], guard := none }) rfl (fun K2 hK2 => ?_) AllReadyH.nil
  go_simp
  go_at_call 16
  refine (refBytes_any ka kn kc o.key w1.drew (K1.out.heap rfl) (by omega)).mono ?_
  rintro en w2 ⟨rfl, hown2, hg2, hs2⟩
  have O2 := hid_intro hown2
  have G3 := hid_intro (grown_undrew hg2)
  have T2 := hid_intro (show w2.cell? ⟨B, 0, none⟩ = some (.int .i64 o.k) ∧ w2.cell? ⟨B, 1, none⟩ = some (.int .i64 o.a) ∧ w2.cell? ⟨B, 2, none⟩ = some (.int .i64 o.b) ∧ w2.cell? ⟨B, 3, none⟩ = some (.int .i64 o.c) ∧ w2.cell? ⟨B, 4, none⟩ = some (.slice ka kn kc) ∧ w2.cell? ⟨B, 5, none⟩ = some (.slice va vn vc) ∧ w2.cell? ⟨B, 6, none⟩ = some (.slice ha hn hc) ∧ w2.cell? ⟨B, 7, none⟩ = some (.slice fa fn fc) from ⟨G3.out.cell x0 (by simp), G3.out.cell x1 (by simp), G3.out.cell x2 (by simp), G3.out.cell x3 (by simp), G3.out.cell x4 (by simp), G3.out.cell x5 (by simp), G3.out.cell x6 (by simp), G3.out.cell x7 (by simp)⟩)
  clear hown2 hg2
  refine hK2.out _ _ (T2.out) (fun hHeld => ?_)
  clear hK2 K2
  try simp only [Act.put, List.setIfInBounds_toArray, List.set_cons_zero, List.set_cons_succ]
  refine wpAnyH_ready (rs := [13]) (by kernel_rfl) (by simp) ?_
  refine AllReadyH.cons (o := { dst := some 16, op := Go.Op.call { callee := Go.Callee.value (Go.Operand.func 16), args := #[Go.Operand.tmp 15], argTypes := #[32] }, type := 32, pos := "coppiceref.go:532", after := #[{ on := 12, ground := Go.Ground.data }, { on := 10, ground := Go.Ground.chain }], guard := none }) rfl (fun K2 hK2 => ?_) AllReadyH.nil
  go_simp
  go_at_call 16
  refine (refBytes_any va vn vc o.val w2 (V1.out.keptN G3.out) (by omega)).mono ?_
  rintro en w3 ⟨rfl, hown3, hg3, hs3⟩
  have O3 := hid_intro hown3
  have P3 := hid_intro hg3
  have G4 := hid_intro (grown_trans G3.out hg3)
  have T3 := hid_intro (show w3.cell? ⟨B, 0, none⟩ = some (.int .i64 o.k) ∧ w3.cell? ⟨B, 1, none⟩ = some (.int .i64 o.a) ∧ w3.cell? ⟨B, 2, none⟩ = some (.int .i64 o.b) ∧ w3.cell? ⟨B, 3, none⟩ = some (.int .i64 o.c) ∧ w3.cell? ⟨B, 4, none⟩ = some (.slice ka kn kc) ∧ w3.cell? ⟨B, 5, none⟩ = some (.slice va vn vc) ∧ w3.cell? ⟨B, 6, none⟩ = some (.slice ha hn hc) ∧ w3.cell? ⟨B, 7, none⟩ = some (.slice fa fn fc) from ⟨G4.out.cell x0 (by simp), G4.out.cell x1 (by simp), G4.out.cell x2 (by simp), G4.out.cell x3 (by simp), G4.out.cell x4 (by simp), G4.out.cell x5 (by simp), G4.out.cell x6 (by simp), G4.out.cell x7 (by simp)⟩)
  clear hown3 hg3
  refine hK2.out _ _ (T3.out) (fun hHeld => ?_)
  clear hK2 K2
  try simp only [Act.put, List.setIfInBounds_toArray, List.set_cons_zero, List.set_cons_succ]
  refine wpAnyH_ready (rs := [16]) (by kernel_rfl) (by simp) ?_
  refine AllReadyH.cons (o := { dst := some 19, op := Go.Op.call { callee := Go.Callee.value (Go.Operand.func 16), args := #[Go.Operand.tmp 18], argTypes := #[32] }, type := 32, pos := "coppiceref.go:532", after := #[{ on := 15, ground := Go.Ground.data }, { on := 13, ground := Go.Ground.chain }], guard := none }) rfl (fun K2 hK2 => ?_) AllReadyH.nil
  go_simp
  go_at_call 16
  refine (refBytes_any ha hn hc o.hi w3 (H1.out.keptN G4.out) (by omega)).mono ?_
  rintro en w4 ⟨rfl, hown4, hg4, hs4⟩
  have O4 := hid_intro hown4
  have P4 := hid_intro hg4
  have G5 := hid_intro (grown_trans G4.out hg4)
  have T4 := hid_intro (show w4.cell? ⟨B, 0, none⟩ = some (.int .i64 o.k) ∧ w4.cell? ⟨B, 1, none⟩ = some (.int .i64 o.a) ∧ w4.cell? ⟨B, 2, none⟩ = some (.int .i64 o.b) ∧ w4.cell? ⟨B, 3, none⟩ = some (.int .i64 o.c) ∧ w4.cell? ⟨B, 4, none⟩ = some (.slice ka kn kc) ∧ w4.cell? ⟨B, 5, none⟩ = some (.slice va vn vc) ∧ w4.cell? ⟨B, 6, none⟩ = some (.slice ha hn hc) ∧ w4.cell? ⟨B, 7, none⟩ = some (.slice fa fn fc) from ⟨G5.out.cell x0 (by simp), G5.out.cell x1 (by simp), G5.out.cell x2 (by simp), G5.out.cell x3 (by simp), G5.out.cell x4 (by simp), G5.out.cell x5 (by simp), G5.out.cell x6 (by simp), G5.out.cell x7 (by simp)⟩)
  clear hown4 hg4
  refine hK2.out _ _ (T4.out) (fun hHeld => ?_)
  clear hK2 K2
  try simp only [Act.put, List.setIfInBounds_toArray, List.set_cons_zero, List.set_cons_succ]
  refine wpAnyH_ready (rs := [19]) (by kernel_rfl) (by simp) ?_
  refine AllReadyH.cons (o := { dst := some 22, op := Go.Op.call { callee := Go.Callee.value (Go.Operand.func 17), args := #[Go.Operand.tmp 21], argTypes := #[33] }, type := 33, pos := "coppiceref.go:532", after := #[{ on := 18, ground := Go.Ground.data }, { on := 16, ground := Go.Ground.chain }], guard := none }) rfl (fun K2 hK2 => ?_) AllReadyH.nil
  go_simp
  go_at_call 17
  refine (refFates23 fa fn fc o.f w4 (F1.out.keptN G5.out) HFN.out (by omega)).mono ?_
  rintro en w5 ⟨fa5, fc5, rfl, hown5, hg5⟩
  have O5 := hid_intro hown5
  have P5 := hid_intro hg5
  have G6 := hid_intro (grown_trans G5.out hg5)
  have T5 := hid_intro (show w5.cell? ⟨B, 0, none⟩ = some (.int .i64 o.k) ∧ w5.cell? ⟨B, 1, none⟩ = some (.int .i64 o.a) ∧ w5.cell? ⟨B, 2, none⟩ = some (.int .i64 o.b) ∧ w5.cell? ⟨B, 3, none⟩ = some (.int .i64 o.c) ∧ w5.cell? ⟨B, 4, none⟩ = some (.slice ka kn kc) ∧ w5.cell? ⟨B, 5, none⟩ = some (.slice va vn vc) ∧ w5.cell? ⟨B, 6, none⟩ = some (.slice ha hn hc) ∧ w5.cell? ⟨B, 7, none⟩ = some (.slice fa fn fc) from ⟨G6.out.cell x0 (by simp), G6.out.cell x1 (by simp), G6.out.cell x2 (by simp), G6.out.cell x3 (by simp), G6.out.cell x4 (by simp), G6.out.cell x5 (by simp), G6.out.cell x6 (by simp), G6.out.cell x7 (by simp)⟩)
  have XU5 := hid_intro (heap_keptS XU.out G6.out)
  have YY := hid_intro (box8_put XU5.out (.int .i64 o.k) (.int .i64 o.a) (.int .i64 o.b) (.int .i64 o.c) (.slice (some ⟨w1.heap.size, 0, none⟩) kn kn) (.slice (some ⟨w2.heap.size, 0, none⟩) vn vn) (.slice (some ⟨w3.heap.size, 0, none⟩) hn hn) (.slice fa5 fn fc5))
  have u0 := cell_heapS (i := 0) XU5.out rfl
  have zu0 := frozen_of_row w5 U 0 _ _ XU5.out
  have u1 := cell_heapS (i := 1) XU5.out rfl
  have zu1 := frozen_of_row w5 U 1 _ _ XU5.out
  have u2 := cell_heapS (i := 2) XU5.out rfl
  have zu2 := frozen_of_row w5 U 2 _ _ XU5.out
  have u3 := cell_heapS (i := 3) XU5.out rfl
  have zu3 := frozen_of_row w5 U 3 _ _ XU5.out
  have u4 := cell_heapS (i := 4) XU5.out rfl
  have zu4 := frozen_of_row w5 U 4 _ _ XU5.out
  have u5 := cell_heapS (i := 5) XU5.out rfl
  have zu5 := frozen_of_row w5 U 5 _ _ XU5.out
  have u6 := cell_heapS (i := 6) XU5.out rfl
  have zu6 := frozen_of_row w5 U 6 _ _ XU5.out
  have u7 := cell_heapS (i := 7) XU5.out rfl
  have zu7 := frozen_of_row w5 U 7 _ _ XU5.out
  clear hown5 hg5
  refine hK2.out _ _ (T5.out) (fun hHeld => ?_)
  clear hK2 K2
  try simp only [Act.put, List.setIfInBounds_toArray, List.set_cons_zero, List.set_cons_succ]
  refine wpAnyH_take (i := 20) (oi := { dst := some 23, op := Go.Op.build 35 #[(0, Go.Operand.tmp 4), (1, Go.Operand.tmp 6), (2, Go.Operand.tmp 8), (3, Go.Operand.tmp 10), (4, Go.Operand.tmp 13), (5, Go.Operand.tmp 16), (6, Go.Operand.tmp 19), (7, Go.Operand.tmp 22)], type := 35, pos := "coppiceref.go:532", after := #[{ on := 1, ground := Go.Ground.data }, { on := 3, ground := Go.Ground.data }, { on := 5, ground := Go.Ground.data }, { on := 7, ground := Go.Ground.data }, { on := 10, ground := Go.Ground.data }, { on := 13, ground := Go.Ground.data }, { on := 16, ground := Go.Ground.data }, { on := 19, ground := Go.Ground.data }], guard := none }) (v := ?_) rfl (by kernel_rfl) (by kernel_rfl) (by kernel_rfl) (fun _ _ _ h => h) (Or.inl ⟨by rfl, ?_⟩) (by assumption) ?_
  rotate_left
  · intro w hSw; (try dsimp only at hSw); go_simp; (try with_reducible rfl)
  simp only [Act.put, List.setIfInBounds_toArray, List.set_cons_zero, List.set_cons_succ]
  refine wpAnyH_ready (rs := [21]) (by kernel_rfl) (by simp) ?_
  refine AllReadyH.cons (o := { dst := none, op := Go.Op.store 35 (Go.Operand.tmp 2) (Go.Operand.tmp 23), type := 0, pos := "coppiceref.go:532", after := #[{ on := 20, ground := Go.Ground.data }, { on := 19, ground := Go.Ground.chain }, { on := 0, ground := Go.Ground.phase }, { on := 1, ground := Go.Ground.phase }, { on := 2, ground := Go.Ground.phase }, { on := 3, ground := Go.Ground.phase }, { on := 4, ground := Go.Ground.phase }, { on := 5, ground := Go.Ground.phase }, { on := 6, ground := Go.Ground.phase }, { on := 7, ground := Go.Ground.phase }, { on := 8, ground := Go.Ground.phase }, { on := 9, ground := Go.Ground.phase }, { on := 10, ground := Go.Ground.phase }, { on := 11, ground := Go.Ground.phase }, { on := 12, ground := Go.Ground.phase }, { on := 13, ground := Go.Ground.phase }, { on := 14, ground := Go.Ground.phase }, { on := 15, ground := Go.Ground.phase }, { on := 16, ground := Go.Ground.phase }, { on := 17, ground := Go.Ground.phase }, { on := 18, ground := Go.Ground.phase }, { on := 19, ground := Go.Ground.phase }, { on := 20, ground := Go.Ground.phase }], guard := none }) rfl (fun K2 hK2 => ?_) AllReadyH.nil
  go_simp
  refine hK2.out _ _ (⟨YY.out.2.cell T5.out.1 hBU2, YY.out.2.cell T5.out.2.1 hBU2, YY.out.2.cell T5.out.2.2.1 hBU2, YY.out.2.cell T5.out.2.2.2.1 hBU2, YY.out.2.cell T5.out.2.2.2.2.1 hBU2, YY.out.2.cell T5.out.2.2.2.2.2.1 hBU2, YY.out.2.cell T5.out.2.2.2.2.2.2.1 hBU2, YY.out.2.cell T5.out.2.2.2.2.2.2.2 hBU2⟩) (fun hHeld => ?_)
  clear hK2 K2
  try simp only [Act.put, List.setIfInBounds_toArray, List.set_cons_zero, List.set_cons_succ]
  refine wpAnyH_done (by kernel_rfl) ?_ _
  · have y1 := YY.out.1
    have y2 := YY.out.2
    have hu := HU.out
    have hb := HB.out
    have e2 : w1.heap.size ≤ w2.heap.size := G3.out.size
    have e3 : w1.heap.size ≤ w3.heap.size := G4.out.size
    have e4 : w1.heap.size ≤ w4.heap.size := G5.out.size
    have hU1 : U < w1.heap.size := (Array.getElem?_eq_some_iff.1 XU.out).1
    have o2 := (own_keptD (own_keptD (own_keptD O2.out P3.out) P4.out) P5.out).kept y2 (.inr (by simp only [Value.ownBlock, ne_eq, Option.some.injEq]; simp; omega))
    have o3 := (own_keptD (own_keptD O3.out P4.out) P5.out).kept y2 (.inr (by simp only [Value.ownBlock, ne_eq, Option.some.injEq]; omega))
    have o4 := (own_keptD O4.out P5.out).kept y2 (.inr (by simp only [Value.ownBlock, ne_eq, Option.some.injEq]; omega))
    have o5 := OpI.own O5.out XU5.out (by decide) y2
    have gf := grown_new (grown_trans G2.out G6.out) y2 (by omega)
    have bt := R2.out
    have hk := HKN.out
    have hv := HVN.out
    have hh := HHN.out
    have hf := HFN.out
    go_wp2
    refine bodyPost_ret (results_op1 rfl _ _ U _ _ _ _ _ _ _ _ rfl y1) rfl ?_
    subst hk hv hh hf
    exact ⟨_, _, _, _, _, _, _, _, rfl, gf, own_low o2 (by simp; omega), own_low o3 (by omega), own_low o4 (by omega), own_low o5 (by omega), bt.bk, bt.bv, bt.bh⟩
end Go.Proofs.YtcjgmiilfjjbcaaGreatDoor
