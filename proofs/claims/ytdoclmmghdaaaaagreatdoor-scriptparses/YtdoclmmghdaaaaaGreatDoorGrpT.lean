import Derived.Test.YtdoclmmghdaaaaaGreatDoorSf1
import Derived.Test.YtdoclmmghdaaaaaGreatDoorGrpU
import Derived.Deep.RegionHeld3
namespace Go.Proofs.YtdoclmmghdaaaaaGreatDoor
open Go.RowKit

/-- The last kind below k whose word it is. -/
def kfw (T : List UInt8) : Nat → Nat
  | 0 => 0
  | k + 1 => if 1 ≤ k ∧ wrd (k : Nat) = T then k else kfw T k
theorem kfw_none {T : List UInt8} : ∀ n : Nat, (∀ k, 1 ≤ k → k < n → wrd (k : Nat) ≠ T) → kfw T n = 0
  | 0, _ => rfl
  | k + 1, h => by
    rw [kfw, if_neg (fun ⟨h1, h2⟩ => h k h1 (by omega) h2)]
    exact kfw_none k fun j h1 h2 => h j h1 (by omega)
theorem kfw_kdw (T : List UInt8) : kfw T 23 = kdw T := by
  by_cases h : ∃ i : Fin 23, i.val ≠ 0 ∧ (stT.getD i.val ([], [])).1 = T
  · obtain ⟨i, h0, rfl⟩ := h
    have : ∀ i : Fin 23, i.val ≠ 0 → kfw (stT.getD i.val ([], [])).1 23 = kdw (stT.getD i.val ([], [])).1 := by decide
    exact this i h0
  · have hk : kdw T = 0 := by
      rcases kix_lt T stT 0 with q | ⟨_, q2, q3⟩
      · exact q
      · by_cases h0 : kdw T = 0
        · exact h0
        · exact absurd ⟨⟨kdw T, by rw [stT_len] at q2; unfold kdw; omega⟩, h0, by simpa [kdw] using q3⟩ h
    rw [hk]
    refine kfw_none 23 fun k h1 h2 e => h ⟨⟨k, h2⟩, by simp only; omega, ?_⟩
    unfold wrd at e
    rw [if_pos (by omega), Int.toNat_natCast] at e
    exact e
theorem info_fateT : (Tryz.prog.info? 51).map (fun i => (i.zero, i.size, i.bytes)) = some (some (.agg #[.int .i64 0, .int .i64 0]), 2, 16) := by kernel_rfl
theorem str_eqb (a b : List UInt8) : ((tstr a).toList == (tstr b).toList) = decide (a = b) := by
  rw [tstr_toList, tstr_toList, Bool.eq_iff_iff, beq_iff_eq, decide_eq_true_iff]
theorem cell_ltS {w : World} {b i : Nat} {v : Value} (h : w.cell? ⟨b, i, none⟩ = some v) : b < w.heap.size := by
  by_cases hb : b < w.heap.size
  · exact hb
  · exfalso
    unfold World.cell? at h
    simp [Array.getElem?_eq_none (Nat.not_lt.1 hb)] at h
theorem opI_at {w : World} {B O : Nat} {o : Opq} {kv vv hv fv : Value} (hb : w.heap[O]? = some (.cells #[.int .i64 o.k, .int .i64 o.a, .int .i64 o.b, .int .i64 o.c, kv, vv, hv, fv] 49 (0, 0))) (h : OpV w B o kv vv hv fv) : OpI w B O o kv vv hv fv := ⟨hb, h.key, h.val, h.hi, h.f, h.bk, h.bv, h.bh⟩
/-- What the document's step answers. -/
def SpP (w : World) (r : Except Int Opq) (en : Ending) (w' : World) : Prop := w.grownBy w' none ∧ ((∃ o ka kc va vc ha hc fa fc, r = .ok o ∧ en = .returned (.tuple #[.agg #[.int .i64 o.k, .int .i64 o.a, .int .i64 o.b, .int .i64 o.c, .slice ka o.key.length kc, .slice va o.val.length vc, .slice ha o.hi.length hc, .slice fa o.f.length fc], .int .i64 0]) ∧ OpV w' w.heap.size o (.slice ka o.key.length kc) (.slice va o.val.length vc) (.slice ha o.hi.length hc) (.slice fa o.f.length fc)) ∨ ∃ o : Opq, ∃ ka kc va vc ha hc fa fc e, r = .error e ∧ e ≠ 0 ∧ en = .returned (.tuple #[.agg #[.int .i64 o.k, .int .i64 o.a, .int .i64 o.b, .int .i64 o.c, .slice ka o.key.length kc, .slice va o.val.length vc, .slice ha o.hi.length hc, .slice fa o.f.length fc], .int .i64 e]))
theorem FlP.split {w w' : World} {B : Nat} {o : Opq} {ka : Option Addr} {kc : Nat} {va : Option Addr} {vc : Nat} {ha : Option Addr} {hc : Nat} {fa : Option Addr} {fc : Nat} {r : Except Int Opq} {en : Ending} (h : FlP w B o (.slice ka o.key.length kc) (.slice va o.val.length vc) (.slice ha o.hi.length hc) (.slice fa o.f.length fc) r en w') :
    ∃ (o7 : Opq), ∃ ka7 kc7 va7 vc7 ha7 hc7 fa7 fc7 er, en = .returned (.tuple #[.agg #[.int .i64 o7.k, .int .i64 o7.a, .int .i64 o7.b, .int .i64 o7.c, .slice ka7 o7.key.length kc7, .slice va7 o7.val.length vc7, .slice ha7 o7.hi.length hc7, .slice fa7 o7.f.length fc7], .int .i64 er]) ∧ w.grownBy w' none ∧ ((er = 0 ∧ r = .ok o7 ∧ OpV w' B o7 (.slice ka7 o7.key.length kc7) (.slice va7 o7.val.length vc7) (.slice ha7 o7.hi.length hc7) (.slice fa7 o7.f.length fc7)) ∨ (er ≠ 0 ∧ r = .error er)) := by
  obtain ⟨hg, h⟩ := h
  rcases h with ⟨o7, kv, vv, hv, fv, r1, rfl, hV⟩ | ⟨e, r1, r2, rfl⟩
  · obtain ⟨ka7, kc7, rfl⟩ := own_shape20 hV.key
    obtain ⟨va7, vc7, rfl⟩ := own_shape20 hV.val
    obtain ⟨ha7, hc7, rfl⟩ := own_shape20 hV.hi
    obtain ⟨fa7, fc7, rfl⟩ := own_shape20 hV.f
    exact ⟨o7, _, _, _, _, _, _, _, _, 0, rfl, hg, .inl ⟨rfl, r1, hV⟩⟩
  · exact ⟨o, _, _, _, _, _, _, _, _, e, rfl, hg, .inr ⟨r2, r1⟩⟩
end Go.Proofs.YtdoclmmghdaaaaaGreatDoor

namespace Go.Proofs.YtdoclmmghdaaaaaGreatDoor
open Go.RowKit

/-- What region 25 of step leaves. -/
def R25 (w : World) (B U : Nat) (r : Except Int Opq) (e10 : Value) (wx : World) : Prop := ∃ o7 : Opq, ∃ ka7 kc7 va7 vc7 ha7 hc7 fa7 fc7 er, e10 = .int .i64 er ∧ wx.heap[U + 1]? = some (.cells #[.int .i64 o7.k, .int .i64 o7.a, .int .i64 o7.b, .int .i64 o7.c, .slice ka7 o7.key.length kc7, .slice va7 o7.val.length vc7, .slice ha7 o7.hi.length hc7, .slice fa7 o7.f.length fc7] 49 (0, 0)) ∧ wx.heap[U]? = some (.cells #[.int .i64 0, .int .i64 0, .int .i64 0, .int .i64 0, .slice none 0 0, .slice none 0 0, .slice none 0 0, .slice none 0 0] 49 (0, 0)) ∧ w.grownBy wx none ∧ ((er = 0 ∧ r = .ok o7 ∧ OpV wx B o7 (.slice ka7 o7.key.length kc7) (.slice va7 o7.val.length vc7) (.slice ha7 o7.hi.length hc7) (.slice fa7 o7.f.length fc7)) ∨ (er ≠ 0 ∧ r = .error er))
set_option maxHeartbeats 16000000 in
set_option maxRecDepth 100000 in
theorem step_r25 {y1 y3 y5 y6 y7 y8 y10 y12 y13 y14 y15 y16 y17 y18 y19 y20 y21 y22 y23 y24 y25 y26 y27 y28 y29 y30 y31 y32 y33 y34 y35 y36 y37 y38 y39 y40 y41 y42 y43 y44 y45 y46 y47 y48 y49 y50 y51 y52 y53 y54 y55 y56 y57 y58 y59 y60 y61 y62 y63 y64 y65 y66 y67 y68 y69 y70 y71 y72 y73 y74 y75 y76 y77 y78 y79 y80 y81 y82 y83 y84 y85 y86 y87 y88 y89 y90 : Value} {g m c U i B : Nat} {s sp : ByteArray} {ch : UInt8} {o : Opq} {ka : Option Addr} {kc : Nat} {va : Option Addr} {vc : Nat} {ha : Option Addr} {hc : Nat} {fa : Option Addr} {fc : Nat} {w wr : World} {r : Except Int Opq} {K : Act → World → Prop} {Q' : Exit → Act → World → Prop}
    (hO : wr.heap[U + 1]? = some (.cells #[.int .i64 o.k, .int .i64 o.a, .int .i64 o.b, .int .i64 o.c, .slice ka o.key.length kc, .slice va o.val.length vc, .slice ha o.hi.length hc, .slice fa o.f.length fc] 49 (0, 0))) (hU : wr.heap[U]? = some (.cells #[.int .i64 0, .int .i64 0, .int .i64 0, .int .i64 0, .slice none 0 0, .slice none 0 0, .slice none 0 0, .slice none 0 0] 49 (0, 0))) (hG : w.grownBy wr none) (hOW : w.heap.size ≤ U + 1) (cw : wr.cell? ⟨g, i + 1, none⟩ = some (.string sp)) (hgU : g ≠ U + 1) (hps : i < s.size) (hch : s[i]'hps = ch) (him : i < m) (hm : m ≤ 2000000)
    (hF : ∀ W, wr.grownBy W none → Calls Tryz.prog 41 #[.agg #[.int .i64 o.k, .int .i64 o.a, .int .i64 o.b, .int .i64 o.c, .slice ka o.key.length kc, .slice va o.val.length vc, .slice ha o.hi.length hc, .slice fa o.f.length fc], .int .u8 (ch.toNat : Nat), .string sp] W fun en w' => FlP W B o (.slice ka o.key.length kc) (.slice va o.val.length vc) (.slice ha o.hi.length hc) (.slice fa o.f.length fc) r en w')
    (hK : ∀ (v10 v73 v74 v75 v76 v77 v78 v79 v80 v81 v82 v83 v84 v85 : Value) (wx : World), R25 w B U r v10 wx → K ⟨List.toArray ((.slice (some ⟨g, 0, none⟩) (m + 1) c) :: y1 :: (.pointer (some ⟨U, 0, none⟩)) :: y3 :: (.pointer (some ⟨U + 1, 0, none⟩)) :: y5 :: y6 :: y7 :: y8 :: (.string s) :: v10 :: (.int .i64 (i : Nat)) :: y12 :: y13 :: y14 :: y15 :: y16 :: y17 :: y18 :: y19 :: y20 :: y21 :: y22 :: y23 :: y24 :: y25 :: y26 :: y27 :: y28 :: y29 :: y30 :: y31 :: y32 :: y33 :: y34 :: y35 :: y36 :: y37 :: y38 :: y39 :: y40 :: y41 :: y42 :: y43 :: y44 :: y45 :: y46 :: y47 :: y48 :: y49 :: y50 :: y51 :: y52 :: y53 :: y54 :: y55 :: y56 :: y57 :: y58 :: y59 :: y60 :: y61 :: y62 :: y63 :: y64 :: y65 :: y66 :: y67 :: y68 :: y69 :: y70 :: y71 :: y72 :: v73 :: v74 :: v75 :: v76 :: v77 :: v78 :: v79 :: v80 :: v81 :: v82 :: v83 :: v84 :: v85 :: y86 :: y87 :: y88 :: y89 :: y90 :: []), []⟩ wx) :
    Code.wp Tryz.prog (Go.Code.region 25 #[{ dst := some 74, op := Go.Op.load 49 (Go.Operand.tmp 4), type := 49, pos := "script.go:148", after := #[], guard := none }, { dst := some 75, op := Go.Op.move (Go.Operand.tmp 9), type := 9, pos := "script.go:148", after := #[], guard := none }, { dst := some 76, op := Go.Op.move (Go.Operand.tmp 11), type := 3, pos := "script.go:148", after := #[], guard := none }, { dst := some 77, op := Go.Op.index 9 (Go.Operand.tmp 75) (Go.Operand.tmp 76), type := 5, pos := "script.go:148", after := #[{ on := 1, ground := Go.Ground.data }, { on := 2, ground := Go.Ground.data }], guard := none }, { dst := some 78, op := Go.Op.move (Go.Operand.tmp 0), type := 40, pos := "script.go:148", after := #[], guard := none }, { dst := some 79, op := Go.Op.move (Go.Operand.tmp 11), type := 3, pos := "script.go:148", after := #[], guard := none }, { dst := some 80, op := Go.Op.binOp Go.BinOp.add 3 (Go.Operand.tmp 79) (Go.Operand.const (Go.Value.int Go.IntKind.i64 1)) 3, type := 3, pos := "script.go:148", after := #[{ on := 5, ground := Go.Ground.data }], guard := none }, { dst := some 81, op := Go.Op.indexAddr 40 (Go.Operand.tmp 78) (Go.Operand.tmp 80), type := 0, pos := "script.go:148", after := #[{ on := 4, ground := Go.Ground.data }, { on := 6, ground := Go.Ground.data }], guard := none }, { dst := some 82, op := Go.Op.load 9 (Go.Operand.tmp 81), type := 9, pos := "script.go:148", after := #[{ on := 7, ground := Go.Ground.data }], guard := none }, { dst := some 83, op := Go.Op.call { callee := Go.Callee.value (Go.Operand.func 41), args := #[Go.Operand.tmp 74, Go.Operand.tmp 77, Go.Operand.tmp 82], argTypes := #[49, 5, 9] }, type := 63, pos := "script.go:148", after := #[{ on := 0, ground := Go.Ground.data }, { on := 3, ground := Go.Ground.data }, { on := 8, ground := Go.Ground.data }], guard := none }, { dst := some 73, op := Go.Op.move (Go.Operand.tmp 83), type := 63, pos := "script.go:148", after := #[{ on := 9, ground := Go.Ground.data }], guard := none }, { dst := some 84, op := Go.Op.extract (Go.Operand.tmp 73) 0, type := 49, pos := "script.go:148", after := #[{ on := 10, ground := Go.Ground.data }], guard := none }, { dst := some 85, op := Go.Op.extract (Go.Operand.tmp 73) 1, type := 3, pos := "script.go:148", after := #[{ on := 10, ground := Go.Ground.data }, { on := 13, ground := Go.Ground.gcOnly Go.Departure.lateStores }], guard := none }, { dst := none, op := Go.Op.store 49 (Go.Operand.tmp 4) (Go.Operand.tmp 84), type := 0, pos := "script.go:148", after := #[{ on := 11, ground := Go.Ground.data }, { on := 9, ground := Go.Ground.chain }, { on := 0, ground := Go.Ground.phase }, { on := 1, ground := Go.Ground.phase }, { on := 2, ground := Go.Ground.phase }, { on := 3, ground := Go.Ground.phase }, { on := 4, ground := Go.Ground.phase }, { on := 5, ground := Go.Ground.phase }, { on := 6, ground := Go.Ground.phase }, { on := 7, ground := Go.Ground.phase }, { on := 8, ground := Go.Ground.phase }, { on := 9, ground := Go.Ground.phase }, { on := 10, ground := Go.Ground.phase }, { on := 11, ground := Go.Ground.phase }, { on := 12, ground := Go.Ground.textOnly Go.Departure.lateStores }], guard := none }, { dst := some 10, op := Go.Op.assign (Go.Operand.tmp 85), type := 3, pos := "script.go:148", after := #[{ on := 12, ground := Go.Ground.data }, { on := 13, ground := Go.Ground.chain }, { on := 0, ground := Go.Ground.phase }, { on := 1, ground := Go.Ground.phase }, { on := 2, ground := Go.Ground.phase }, { on := 3, ground := Go.Ground.phase }, { on := 4, ground := Go.Ground.phase }, { on := 5, ground := Go.Ground.phase }, { on := 6, ground := Go.Ground.phase }, { on := 7, ground := Go.Ground.phase }, { on := 8, ground := Go.Ground.phase }, { on := 9, ground := Go.Ground.phase }, { on := 10, ground := Go.Ground.phase }, { on := 11, ground := Go.Ground.phase }, { on := 12, ground := Go.Ground.phase }, { on := 13, ground := Go.Ground.phase }], guard := none }] true) (Exit.then K Q') ⟨List.toArray ((.slice (some ⟨g, 0, none⟩) (m + 1) c) :: y1 :: (.pointer (some ⟨U, 0, none⟩)) :: y3 :: (.pointer (some ⟨U + 1, 0, none⟩)) :: y5 :: y6 :: y7 :: y8 :: (.string s) :: y10 :: (.int .i64 (i : Nat)) :: y12 :: y13 :: y14 :: y15 :: y16 :: y17 :: y18 :: y19 :: y20 :: y21 :: y22 :: y23 :: y24 :: y25 :: y26 :: y27 :: y28 :: y29 :: y30 :: y31 :: y32 :: y33 :: y34 :: y35 :: y36 :: y37 :: y38 :: y39 :: y40 :: y41 :: y42 :: y43 :: y44 :: y45 :: y46 :: y47 :: y48 :: y49 :: y50 :: y51 :: y52 :: y53 :: y54 :: y55 :: y56 :: y57 :: y58 :: y59 :: y60 :: y61 :: y62 :: y63 :: y64 :: y65 :: y66 :: y67 :: y68 :: y69 :: y70 :: y71 :: y72 :: y73 :: y74 :: y75 :: y76 :: y77 :: y78 :: y79 :: y80 :: y81 :: y82 :: y83 :: y84 :: y85 :: y86 :: y87 :: y88 :: y89 :: y90 :: []), []⟩ wr := by
  have HK := hid_intro hK
  have HO := hid_intro hO
  have HU := hid_intro hU
  have HG := hid_intro hG
  have HFL := hid_intro hF
  clear hK hO hU hG hF
  have e1 : (i : Int) < (s.size : Int) := by omega
  have e2 : (0 : Int) ≤ (i : Int) := by omega
  have e3 : (i : Int) + 1 < (m : Int) + 1 := by omega
  have e4 : (0 : Int) ≤ (i : Int) + 1 := by omega
  have wi : IntKind.i64.wrap ((i : Int) + 1) = (i : Int) + 1 := wrap_small _ (by omega) (by omega)
  have t1 : ((i : Int) + 1).toNat = i + 1 := by omega
  try dsimp only
  have d0 := cell_heapS (i := 0) HO.out rfl
  have d1 := cell_heapS (i := 1) HO.out rfl
  have d2 := cell_heapS (i := 2) HO.out rfl
  have d3 := cell_heapS (i := 3) HO.out rfl
  have d4 := cell_heapS (i := 4) HO.out rfl
  have d5 := cell_heapS (i := 5) HO.out rfl
  have d6 := cell_heapS (i := 6) HO.out rfl
  have d7 := cell_heapS (i := 7) HO.out rfl
  refine wp_region_noPanic ?_
  refine wp_region_held_drew (S := (fun w' => w'.cell? ⟨g, i + 1, none⟩ = some (.string sp))) (by kernel_rfl) ?_ (fun hHeld => ?_)
  · exact cw
  refine wpAnyH_take (i := 1) (oi := { dst := some 75, op := Go.Op.move (Go.Operand.tmp 9), type := 9, pos := "script.go:148", after := #[], guard := none }) (v := ?_) rfl (by kernel_rfl) (by kernel_rfl) (by kernel_rfl) (fun _ _ _ h => h) (Or.inl ⟨by rfl, ?_⟩) (by assumption) ?_
  rotate_left
  · intro w hSw; (try dsimp only at hSw); go_simp; (try with_reducible rfl)
  simp only [Act.put, List.setIfInBounds_toArray, List.set_cons_zero, List.set_cons_succ]
  refine wpAnyH_take (i := 2) (oi := { dst := some 76, op := Go.Op.move (Go.Operand.tmp 11), type := 3, pos := "script.go:148", after := #[], guard := none }) (v := ?_) rfl (by kernel_rfl) (by kernel_rfl) (by kernel_rfl) (fun _ _ _ h => h) (Or.inl ⟨by rfl, ?_⟩) (by assumption) ?_
  rotate_left
  · intro w hSw; (try dsimp only at hSw); go_simp; (try with_reducible rfl)
  simp only [Act.put, List.setIfInBounds_toArray, List.set_cons_zero, List.set_cons_succ]
  refine wpAnyH_take (i := 3) (oi := { dst := some 77, op := Go.Op.index 9 (Go.Operand.tmp 75) (Go.Operand.tmp 76), type := 5, pos := "script.go:148", after := #[{ on := 1, ground := Go.Ground.data }, { on := 2, ground := Go.Ground.data }], guard := none }) (v := ?_) rfl (by kernel_rfl) (by kernel_rfl) (by kernel_rfl) (fun _ _ _ h => h) (Or.inl ⟨by rfl, ?_⟩) (by assumption) ?_
  rotate_left
  · intro w hSw; (try dsimp only at hSw); go_simp; (try with_reducible rfl)
  simp only [Act.put, List.setIfInBounds_toArray, List.set_cons_zero, List.set_cons_succ]
  refine wpAnyH_take (i := 4) (oi := { dst := some 78, op := Go.Op.move (Go.Operand.tmp 0), type := 40, pos := "script.go:148", after := #[], guard := none }) (v := ?_) rfl (by kernel_rfl) (by kernel_rfl) (by kernel_rfl) (fun _ _ _ h => h) (Or.inl ⟨by rfl, ?_⟩) (by assumption) ?_
  rotate_left
  · intro w hSw; (try dsimp only at hSw); go_simp; (try with_reducible rfl)
  simp only [Act.put, List.setIfInBounds_toArray, List.set_cons_zero, List.set_cons_succ]
  refine wpAnyH_take (i := 5) (oi := { dst := some 79, op := Go.Op.move (Go.Operand.tmp 11), type := 3, pos := "script.go:148", after := #[], guard := none }) (v := ?_) rfl (by kernel_rfl) (by kernel_rfl) (by kernel_rfl) (fun _ _ _ h => h) (Or.inl ⟨by rfl, ?_⟩) (by assumption) ?_
  rotate_left
  · intro w hSw; (try dsimp only at hSw); go_simp; (try with_reducible rfl)
  simp only [Act.put, List.setIfInBounds_toArray, List.set_cons_zero, List.set_cons_succ]
  refine wpAnyH_take (i := 6) (oi := { dst := some 80, op := Go.Op.binOp Go.BinOp.add 3 (Go.Operand.tmp 79) (Go.Operand.const (Go.Value.int Go.IntKind.i64 1)) 3, type := 3, pos := "script.go:148", after := #[{ on := 5, ground := Go.Ground.data }], guard := none }) (v := ?_) rfl (by kernel_rfl) (by kernel_rfl) (by kernel_rfl) (fun _ _ _ h => h) (Or.inl ⟨by rfl, ?_⟩) (by assumption) ?_
  rotate_left
  · intro w hSw; (try dsimp only at hSw); go_simp; (try with_reducible rfl)
  simp only [Act.put, List.setIfInBounds_toArray, List.set_cons_zero, List.set_cons_succ]
  refine wpAnyH_take (i := 7) (oi := { dst := some 81, op := Go.Op.indexAddr 40 (Go.Operand.tmp 78) (Go.Operand.tmp 80), type := 0, pos := "script.go:148", after := #[{ on := 4, ground := Go.Ground.data }, { on := 6, ground := Go.Ground.data }], guard := none }) (v := ?_) rfl (by kernel_rfl) (by kernel_rfl) (by kernel_rfl) (fun _ _ _ h => h) (Or.inl ⟨by rfl, ?_⟩) (by assumption) ?_
  rotate_left
  · intro w hSw; (try dsimp only at hSw); go_simp; (try with_reducible rfl)
  simp only [Act.put, List.setIfInBounds_toArray, List.set_cons_zero, List.set_cons_succ]
  refine wpAnyH_take (i := 8) (oi := { dst := some 82, op := Go.Op.load 9 (Go.Operand.tmp 81), type := 9, pos := "script.go:148", after := #[{ on := 7, ground := Go.Ground.data }], guard := none }) (v := ?_) rfl (by kernel_rfl) (by kernel_rfl) (by kernel_rfl) (fun _ _ _ h => h) (Or.inl ⟨by rfl, ?_⟩) (by assumption) ?_
  rotate_left
  · intro w hSw; (try dsimp only at hSw); go_simp; (try with_reducible rfl)
  simp only [Act.put, List.setIfInBounds_toArray, List.set_cons_zero, List.set_cons_succ]
  refine wpAnyH_ready (rs := [0]) (by kernel_rfl) (by simp) ?_
  refine AllReadyH.cons (o := { dst := some 74, op := Go.Op.load 49 (Go.Operand.tmp 4), type := 49, pos := "script.go:148", after := #[], guard := none }) rfl (fun K2 hK2 => ?_) AllReadyH.nil
  go_simp
  refine hK2.out _ _ (hHeld) (fun hHeld => ?_)
  clear hK2 K2
  try simp only [Act.put, List.setIfInBounds_toArray, List.set_cons_zero, List.set_cons_succ]
  refine wpAnyH_ready (rs := [9]) (by kernel_rfl) (by simp) ?_
  refine AllReadyH.cons (o := { dst := some 83, op := Go.Op.call { callee := Go.Callee.value (Go.Operand.func 41), args := #[Go.Operand.tmp 74, Go.Operand.tmp 77, Go.Operand.tmp 82], argTypes := #[49, 5, 9] }, type := 63, pos := "script.go:148", after := #[{ on := 0, ground := Go.Ground.data }, { on := 3, ground := Go.Ground.data }, { on := 8, ground := Go.Ground.data }], guard := none }) rfl (fun K2 hK2 => ?_) AllReadyH.nil
  go_simp
  go_at_call 41
  refine (HFL.out wr.drew ((Qt.refl wr).drew.grown none)).mono ?_
  intro en w7 hf7
  obtain ⟨o7, ka7, kc7, va7, vc7, ha7, hc7, fa7, fc7, er, rfl, hg7, hr7⟩ := FlP.split hf7
  have HR7 := hid_intro hr7
  have G7 := hid_intro (grown_undrew hg7)
  have O7 := hid_intro (heap_keptS HO.out G7.out)
  have U7 := hid_intro (heap_keptS HU.out G7.out)
  have cw7 := cell_keptS cw G7.out
  have p0 := cell_heapS (i := 0) O7.out rfl
  have zp0 := frozen_of_row w7 (U + 1) 0 _ _ O7.out
  have p1 := cell_heapS (i := 1) O7.out rfl
  have zp1 := frozen_of_row w7 (U + 1) 1 _ _ O7.out
  have p2 := cell_heapS (i := 2) O7.out rfl
  have zp2 := frozen_of_row w7 (U + 1) 2 _ _ O7.out
  have p3 := cell_heapS (i := 3) O7.out rfl
  have zp3 := frozen_of_row w7 (U + 1) 3 _ _ O7.out
  have p4 := cell_heapS (i := 4) O7.out rfl
  have zp4 := frozen_of_row w7 (U + 1) 4 _ _ O7.out
  have p5 := cell_heapS (i := 5) O7.out rfl
  have zp5 := frozen_of_row w7 (U + 1) 5 _ _ O7.out
  have p6 := cell_heapS (i := 6) O7.out rfl
  have zp6 := frozen_of_row w7 (U + 1) 6 _ _ O7.out
  have p7 := cell_heapS (i := 7) O7.out rfl
  have zp7 := frozen_of_row w7 (U + 1) 7 _ _ O7.out
  clear hf7 hg7 hr7
  refine hK2.out _ _ (cw7) (fun hHeld => ?_)
  clear hK2 K2
  try simp only [Act.put, List.setIfInBounds_toArray, List.set_cons_zero, List.set_cons_succ]
  refine wpAnyH_take (i := 10) (oi := { dst := some 73, op := Go.Op.move (Go.Operand.tmp 83), type := 63, pos := "script.go:148", after := #[{ on := 9, ground := Go.Ground.data }], guard := none }) (v := ?_) rfl (by kernel_rfl) (by kernel_rfl) (by kernel_rfl) (fun _ _ _ h => h) (Or.inl ⟨by rfl, ?_⟩) (by assumption) ?_
  rotate_left
  · intro w hSw; (try dsimp only at hSw); go_simp; (try with_reducible rfl)
  simp only [Act.put, List.setIfInBounds_toArray, List.set_cons_zero, List.set_cons_succ]
  refine wpAnyH_take (i := 11) (oi := { dst := some 84, op := Go.Op.extract (Go.Operand.tmp 73) 0, type := 49, pos := "script.go:148", after := #[{ on := 10, ground := Go.Ground.data }], guard := none }) (v := ?_) rfl (by kernel_rfl) (by kernel_rfl) (by kernel_rfl) (fun _ _ _ h => h) (Or.inl ⟨by rfl, ?_⟩) (by assumption) ?_
  rotate_left
  · intro w hSw; (try dsimp only at hSw); go_simp; (try with_reducible rfl)
  simp only [Act.put, List.setIfInBounds_toArray, List.set_cons_zero, List.set_cons_succ]
  refine wpAnyH_take (i := 12) (oi := { dst := some 85, op := Go.Op.extract (Go.Operand.tmp 73) 1, type := 3, pos := "script.go:148", after := #[{ on := 10, ground := Go.Ground.data }, { on := 13, ground := Go.Ground.gcOnly Go.Departure.lateStores }], guard := none }) (v := ?_) rfl (by kernel_rfl) (by kernel_rfl) (by kernel_rfl) (fun _ _ _ h => h) (Or.inl ⟨by rfl, ?_⟩) (by assumption) ?_
  rotate_left
  · intro w hSw; (try dsimp only at hSw); go_simp; (try with_reducible rfl)
  simp only [Act.put, List.setIfInBounds_toArray, List.set_cons_zero, List.set_cons_succ]
  refine wpAnyH_ready (rs := [13]) (by kernel_rfl) (by simp) ?_
  refine AllReadyH.cons (o := { dst := none, op := Go.Op.store 49 (Go.Operand.tmp 4) (Go.Operand.tmp 84), type := 0, pos := "script.go:148", after := #[{ on := 11, ground := Go.Ground.data }, { on := 9, ground := Go.Ground.chain }, { on := 0, ground := Go.Ground.phase }, { on := 1, ground := Go.Ground.phase }, { on := 2, ground := Go.Ground.phase }, { on := 3, ground := Go.Ground.phase }, { on := 4, ground := Go.Ground.phase }, { on := 5, ground := Go.Ground.phase }, { on := 6, ground := Go.Ground.phase }, { on := 7, ground := Go.Ground.phase }, { on := 8, ground := Go.Ground.phase }, { on := 9, ground := Go.Ground.phase }, { on := 10, ground := Go.Ground.phase }, { on := 11, ground := Go.Ground.phase }, { on := 12, ground := Go.Ground.textOnly Go.Departure.lateStores }], guard := none }) rfl (fun K2 hK2 => ?_) AllReadyH.nil
  obtain ⟨y1, y2⟩ := box8_put O7.out (.int .i64 o7.k) (.int .i64 o7.a) (.int .i64 o7.b) (.int .i64 o7.c) (.slice ka7 o7.key.length kc7) (.slice va7 o7.val.length vc7) (.slice ha7 o7.hi.length hc7) (.slice fa7 o7.f.length fc7)
  go_simp
  refine hK2.out _ _ (y2.cell cw7 (by simp [hgU])) (fun hHeld => ?_)
  clear hK2 K2
  try simp only [Act.put, List.setIfInBounds_toArray, List.set_cons_zero, List.set_cons_succ]
  refine wpAnyH_take (i := 14) (oi := { dst := some 10, op := Go.Op.assign (Go.Operand.tmp 85), type := 3, pos := "script.go:148", after := #[{ on := 12, ground := Go.Ground.data }, { on := 13, ground := Go.Ground.chain }, { on := 0, ground := Go.Ground.phase }, { on := 1, ground := Go.Ground.phase }, { on := 2, ground := Go.Ground.phase }, { on := 3, ground := Go.Ground.phase }, { on := 4, ground := Go.Ground.phase }, { on := 5, ground := Go.Ground.phase }, { on := 6, ground := Go.Ground.phase }, { on := 7, ground := Go.Ground.phase }, { on := 8, ground := Go.Ground.phase }, { on := 9, ground := Go.Ground.phase }, { on := 10, ground := Go.Ground.phase }, { on := 11, ground := Go.Ground.phase }, { on := 12, ground := Go.Ground.phase }, { on := 13, ground := Go.Ground.phase }], guard := none }) (v := ?_) rfl (by kernel_rfl) (by kernel_rfl) (by kernel_rfl) (fun _ _ _ h => h) (Or.inl ⟨by rfl, ?_⟩) (by assumption) ?_
  rotate_left
  · intro w hSw; (try dsimp only at hSw); go_simp; (try with_reducible rfl)
  simp only [Act.put, List.setIfInBounds_toArray, List.set_cons_zero, List.set_cons_succ]
  refine wpAnyH_done (by kernel_rfl) ?_ _
  have U9 : ((((((((w7.setCell ⟨U + 1, 0, none⟩ (.int .i64 o7.k)).setCell ⟨U + 1, 1, none⟩ (.int .i64 o7.a)).setCell ⟨U + 1, 2, none⟩ (.int .i64 o7.b)).setCell ⟨U + 1, 3, none⟩ (.int .i64 o7.c)).setCell ⟨U + 1, 4, none⟩ (.slice ka7 o7.key.length kc7)).setCell ⟨U + 1, 5, none⟩ (.slice va7 o7.val.length vc7)).setCell ⟨U + 1, 6, none⟩ (.slice ha7 o7.hi.length hc7)).setCell ⟨U + 1, 7, none⟩ (.slice fa7 o7.f.length fc7)).heap[U]? = some (.cells #[.int .i64 0, .int .i64 0, .int .i64 0, .int .i64 0, .slice none 0 0, .slice none 0 0, .slice none 0 0, .slice none 0 0] 49 (0, 0)) := by
    rw [y2.block U (Array.getElem?_eq_some_iff.1 U7.out).1 (by simp)]
    exact U7.out
  have G9 := grown_new (grown_trans HG.out G7.out) y2 hOW
  refine NoPanic.normal ?_
  refine HK.out _ _ _ _ _ _ _ _ _ _ _ _ _ _ _ ⟨o7, ka7, kc7, va7, vc7, ha7, hc7, fa7, fc7, er, rfl, y1, U9, G9, ?_⟩
  rcases HR7.out with ⟨q1, q2, q3⟩ | q
  · exact .inl ⟨q1, q2, q3.one O7.out (by decide) (by decide) y2⟩
  · exact .inr q
end Go.Proofs.YtdoclmmghdaaaaaGreatDoor
