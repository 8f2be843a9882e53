import Derived.Test.YtcjgmiilfjjbcaaGreatDoorSp5
namespace Go.Proofs.YtcjgmiilfjjbcaaGreatDoor
open Go.RowKit

/-- What a round's store of the fates leaves. -/
structure LfP (wr wx : World) (M p : Nat) (cur : Array Value) (fs : List (Int × Int)) (n G c : Nat) : Prop where
  row : wx.heap[M]? = some (.cells (cur.setIfInBounds p (.slice (some ⟨G, 0, none⟩) n c)) 35 (0, 0))
  gr : wr.grownBy wx (some M)
  ow : wx.ownsRow wr.heap.size 43 2 (.slice (some ⟨G, 0, none⟩) (n + 1) c) (n + 1) (fcl fs ++ [.int .i64 201, .int .i64 0])
set_option maxHeartbeats 16000000 in
set_option maxRecDepth 100000 in
theorem lent_r8 {y1 y2 y5 y6 y7 y8 y9 y10 y11 y12 y13 y14 y15 y16 y17 y18 y19 y20 y21 y22 y23 y24 y25 y26 y27 y28 y29 y30 y31 y32 y33 y34 y35 y36 y37 y38 y39 y40 y41 y42 y43 y44 y45 y46 y47 y48 y49 y50 y51 y52 y53 y54 y55 y56 y57 y58 y59 y60 y61 y62 y63 y64 y65 y66 y67 y68 y69 y70 y71 y72 y73 y74 y75 y76 y77 y78 y79 y80 y81 y82 y83 y84 y85 y86 y87 y88 y89 y90 y91 y92 y93 y94 y95 y96 : Value} {g off n cap M mc i : Nat} {ka : Option Addr} {kn kc : Nat} {fs : List (Int × Int)} {cur : Array Value} {wr : World} {K : Exit → Act → World → Prop}
    (cw : wr.cell? ⟨g, off + i * 8 + 7, none⟩ = some (.slice ka kn kc)) (hB : FtR wr ka fs) (hl : fs.length = kn) (hkn : kn ≤ 1048576) (hX : wr.heap[M]? = some (.cells cur 35 (0, 0))) (hcM : ∃ u, cur[i * 8 + 7]? = some u) (hMg : g ≠ M) (hin : i < n)
    (hK : ∀ (v73 v74 v75 v76 v77 v78 v79 v80 v81 v82 v83 v84 v85 v86 v87 v88 v89 v90 v91 v92 : Value) (wx : World) (G c : Nat), LfP wr wx M (i * 8 + 7) cur fs kn G c → K .normal ⟨List.toArray ((.slice (some ⟨g, off, none⟩) n cap) :: y1 :: y2 :: (.slice (some ⟨M, 0, none⟩) (n + 1) mc) :: (.int .i64 (i : Nat)) :: y5 :: y6 :: y7 :: y8 :: y9 :: y10 :: y11 :: y12 :: y13 :: y14 :: y15 :: y16 :: y17 :: y18 :: y19 :: y20 :: y21 :: y22 :: y23 :: y24 :: y25 :: y26 :: y27 :: y28 :: y29 :: y30 :: y31 :: y32 :: y33 :: y34 :: y35 :: y36 :: y37 :: y38 :: y39 :: y40 :: y41 :: y42 :: y43 :: y44 :: y45 :: y46 :: y47 :: y48 :: y49 :: y50 :: y51 :: y52 :: y53 :: y54 :: y55 :: y56 :: y57 :: y58 :: y59 :: y60 :: y61 :: y62 :: y63 :: y64 :: y65 :: y66 :: y67 :: y68 :: y69 :: y70 :: y71 :: y72 :: v73 :: v74 :: v75 :: v76 :: v77 :: v78 :: v79 :: v80 :: v81 :: v82 :: v83 :: v84 :: v85 :: v86 :: v87 :: v88 :: v89 :: v90 :: v91 :: v92 :: y93 :: y94 :: y95 :: y96 :: []), []⟩ wx) :
    Code.wp Tryz.prog (Go.Code.region 8 #[{ dst := some 73, op := Go.Op.move (Go.Operand.tmp 3), type := 22, pos := "law.go:68", after := #[], guard := none }, { dst := some 74, op := Go.Op.move (Go.Operand.tmp 4), type := 3, pos := "law.go:68", after := #[], guard := none }, { dst := some 75, op := Go.Op.move (Go.Operand.tmp 0), type := 22, pos := "law.go:68", after := #[], guard := none }, { dst := some 76, op := Go.Op.move (Go.Operand.tmp 4), type := 3, pos := "law.go:68", after := #[], guard := none }, { dst := some 77, op := Go.Op.indexAddr 22 (Go.Operand.tmp 75) (Go.Operand.tmp 76), type := 0, pos := "law.go:68", after := #[{ on := 2, ground := Go.Ground.data }, { on := 3, ground := Go.Ground.data }], guard := none }, { dst := some 78, op := Go.Op.fieldAddr 35 (Go.Operand.tmp 77) 7, type := 0, pos := "law.go:68", after := #[{ on := 4, ground := Go.Ground.data }], guard := none }, { dst := some 79, op := Go.Op.load 33 (Go.Operand.tmp 78), type := 33, pos := "law.go:68", after := #[{ on := 5, ground := Go.Ground.data }], guard := none }, { dst := some 80, op := Go.Op.call { callee := Go.Callee.value (Go.Operand.func 17), args := #[Go.Operand.tmp 79], argTypes := #[33] }, type := 33, pos := "law.go:68", after := #[{ on := 6, ground := Go.Ground.data }], guard := none }, { dst := some 81, op := Go.Op.build 43 #[(0, Go.Operand.const (Go.Value.int Go.IntKind.i64 201))], type := 43, pos := "law.go:68", after := #[], guard := none }, { dst := some 82, op := Go.Op.buildSlice 33 1 #[(0, Go.Operand.tmp 81)], type := 33, pos := "law.go:68", after := #[{ on := 8, ground := Go.Ground.data }], guard := none }, { dst := some 83, op := Go.Op.call { callee := Go.Callee.builtin Go.Builtin.append, args := #[Go.Operand.tmp 80, Go.Operand.tmp 82], argTypes := #[33, 33] }, type := 33, pos := "law.go:68", after := #[{ on := 7, ground := Go.Ground.data }, { on := 9, ground := Go.Ground.data }, { on := 7, ground := Go.Ground.chain }], guard := none }, { dst := some 84, op := Go.Op.move (Go.Operand.tmp 0), type := 22, pos := "law.go:68", after := #[], guard := none }, { dst := some 85, op := Go.Op.move (Go.Operand.tmp 4), type := 3, pos := "law.go:68", after := #[], guard := none }, { dst := some 86, op := Go.Op.indexAddr 22 (Go.Operand.tmp 84) (Go.Operand.tmp 85), type := 0, pos := "law.go:68", after := #[{ on := 11, ground := Go.Ground.data }, { on := 12, ground := Go.Ground.data }], guard := none }, { dst := some 87, op := Go.Op.fieldAddr 35 (Go.Operand.tmp 86) 7, type := 0, pos := "law.go:68", after := #[{ on := 13, ground := Go.Ground.data }], guard := none }, { dst := some 88, op := Go.Op.load 33 (Go.Operand.tmp 87), type := 33, pos := "law.go:68", after := #[{ on := 14, ground := Go.Ground.data }], guard := none }, { dst := some 89, op := Go.Op.call { callee := Go.Callee.builtin Go.Builtin.len, args := #[Go.Operand.tmp 88], argTypes := #[33] }, type := 3, pos := "law.go:68", after := #[{ on := 15, ground := Go.Ground.data }], guard := none }, { dst := some 90, op := Go.Op.slice 33 (Go.Operand.tmp 83) none (some (Go.Operand.tmp 89)) none, type := 33, pos := "law.go:68", after := #[{ on := 10, ground := Go.Ground.data }, { on := 16, ground := Go.Ground.data }], guard := none }, { dst := some 91, op := Go.Op.indexAddr 22 (Go.Operand.tmp 73) (Go.Operand.tmp 74), type := 0, pos := "law.go:68", after := #[{ on := 0, ground := Go.Ground.data }, { on := 1, ground := Go.Ground.data }, { on := 0, ground := Go.Ground.phase }, { on := 1, ground := Go.Ground.phase }, { on := 2, ground := Go.Ground.phase }, { on := 3, ground := Go.Ground.phase }, { on := 4, ground := Go.Ground.phase }, { on := 5, ground := Go.Ground.phase }, { on := 6, ground := Go.Ground.phase }, { on := 7, ground := Go.Ground.phase }, { on := 8, ground := Go.Ground.phase }, { on := 9, ground := Go.Ground.phase }, { on := 10, ground := Go.Ground.phase }, { on := 11, ground := Go.Ground.phase }, { on := 12, ground := Go.Ground.phase }, { on := 13, ground := Go.Ground.phase }, { on := 14, ground := Go.Ground.phase }, { on := 15, ground := Go.Ground.phase }, { on := 16, ground := Go.Ground.phase }, { on := 17, ground := Go.Ground.phase }], guard := none }, { dst := some 92, op := Go.Op.fieldAddr 35 (Go.Operand.tmp 91) 7, type := 0, pos := "law.go:68", after := #[{ on := 18, ground := Go.Ground.data }, { on := 0, ground := Go.Ground.phase }, { on := 1, ground := Go.Ground.phase }, { on := 2, ground := Go.Ground.phase }, { on := 3, ground := Go.Ground.phase }, { on := 4, ground := Go.Ground.phase }, { on := 5, ground := Go.Ground.phase }, { on := 6, ground := Go.Ground.phase }, { on := 7, ground := Go.Ground.phase }, { on := 8, ground := Go.Ground.phase }, { on := 9, ground := Go.Ground.phase }, { on := 10, ground := Go.Ground.phase }, { on := 11, ground := Go.Ground.phase }, { on := 12, ground := Go.Ground.phase }, { on := 13, ground := Go.Ground.phase }, { on := 14, ground := Go.Ground.phase }, { on := 15, ground := Go.Ground.phase }, { on := 16, ground := Go.Ground.phase }, { on := 17, ground := Go.Ground.phase }], guard := none }, { dst := none, op := Go.Op.store 33 (Go.Operand.tmp 92) (Go.Operand.tmp 90), type := 0, pos := "law.go:68", after := #[{ on := 19, ground := Go.Ground.data }, { on := 17, ground := Go.Ground.data }, { on := 10, ground := Go.Ground.chain }, { on := 0, ground := Go.Ground.phase }, { on := 1, ground := Go.Ground.phase }, { on := 2, ground := Go.Ground.phase }, { on := 3, ground := Go.Ground.phase }, { on := 4, ground := Go.Ground.phase }, { on := 5, ground := Go.Ground.phase }, { on := 6, ground := Go.Ground.phase }, { on := 7, ground := Go.Ground.phase }, { on := 8, ground := Go.Ground.phase }, { on := 9, ground := Go.Ground.phase }, { on := 10, ground := Go.Ground.phase }, { on := 11, ground := Go.Ground.phase }, { on := 12, ground := Go.Ground.phase }, { on := 13, ground := Go.Ground.phase }, { on := 14, ground := Go.Ground.phase }, { on := 15, ground := Go.Ground.phase }, { on := 16, ground := Go.Ground.phase }, { on := 17, ground := Go.Ground.phase }], guard := none }] true) K ⟨List.toArray ((.slice (some ⟨g, off, none⟩) n cap) :: y1 :: y2 :: (.slice (some ⟨M, 0, none⟩) (n + 1) mc) :: (.int .i64 (i : Nat)) :: y5 :: y6 :: y7 :: y8 :: y9 :: y10 :: y11 :: y12 :: y13 :: y14 :: y15 :: y16 :: y17 :: y18 :: y19 :: y20 :: y21 :: y22 :: y23 :: y24 :: y25 :: y26 :: y27 :: y28 :: y29 :: y30 :: y31 :: y32 :: y33 :: y34 :: y35 :: y36 :: y37 :: y38 :: y39 :: y40 :: y41 :: y42 :: y43 :: y44 :: y45 :: y46 :: y47 :: y48 :: y49 :: y50 :: y51 :: y52 :: y53 :: y54 :: y55 :: y56 :: y57 :: y58 :: y59 :: y60 :: y61 :: y62 :: y63 :: y64 :: y65 :: y66 :: y67 :: y68 :: y69 :: y70 :: y71 :: y72 :: y73 :: y74 :: y75 :: y76 :: y77 :: y78 :: y79 :: y80 :: y81 :: y82 :: y83 :: y84 :: y85 :: y86 :: y87 :: y88 :: y89 :: y90 :: y91 :: y92 :: y93 :: y94 :: y95 :: y96 :: []), []⟩ wr := by
  have HK := hid_intro hK
  have HB := hid_intro hB
  have XM := hid_intro hX
  have HL := hid_intro hl
  clear hK hB hX hl
  obtain ⟨u0, hcM⟩ := hcM
  have e1 : (i : Int) < (n : Int) := by omega
  have e2 : (0 : Int) ≤ (i : Int) := by omega
  have e3 : (i : Int) < (n : Int) + 1 := by omega
  have e4 : (0 : Int) ≤ (kn : Int) := by omega
  have hgl : g < wr.heap.size := cell_lt23 cw
  have hMl : M < wr.heap.size := (Array.getElem?_eq_some_iff.1 XM.out).1
  try dsimp only
  refine wp_region_noPanic ?_
  refine wp_region_held_drew (S := (fun w' => w'.cell? ⟨g, off + i * 8 + 7, none⟩ = some (.slice ka kn kc))) (by kernel_rfl) ?_ (fun hHeld => ?_)
  · exact cw
  refine wpAnyH_take (i := 0) (oi := { dst := some 73, op := Go.Op.move (Go.Operand.tmp 3), type := 22, pos := "law.go:68", after := #[], guard := none }) (v := ?_) rfl (by kernel_rfl) (by kernel_rfl) (by kernel_rfl) (fun _ _ _ h => h) (Or.inl ⟨by rfl, ?_⟩) (by assumption) ?_
  rotate_left
  · intro w hSw; (try dsimp only at hSw); go_simp; (try with_reducible rfl)
  simp only [Act.put, List.setIfInBounds_toArray, List.set_cons_zero, List.set_cons_succ]
  refine wpAnyH_take (i := 1) (oi := { dst := some 74, op := Go.Op.move (Go.Operand.tmp 4), type := 3, pos := "law.go:68", after := #[], guard := none }) (v := ?_) rfl (by kernel_rfl) (by kernel_rfl) (by kernel_rfl) (fun _ _ _ h => h) (Or.inl ⟨by rfl, ?_⟩) (by assumption) ?_
  rotate_left
  · intro w hSw; (try dsimp only at hSw); go_simp; (try with_reducible rfl)
  simp only [Act.put, List.setIfInBounds_toArray, List.set_cons_zero, List.set_cons_succ]
  refine wpAnyH_take (i := 2) (oi := { dst := some 75, op := Go.Op.move (Go.Operand.tmp 0), type := 22, pos := "law.go:68", after := #[], guard := none }) (v := ?_) rfl (by kernel_rfl) (by kernel_rfl) (by kernel_rfl) (fun _ _ _ h => h) (Or.inl ⟨by rfl, ?_⟩) (by assumption) ?_
  rotate_left
  · intro w hSw; (try dsimp only at hSw); go_simp; (try with_reducible rfl)
  simp only [Act.put, List.setIfInBounds_toArray, List.set_cons_zero, List.set_cons_succ]
  refine wpAnyH_take (i := 3) (oi := { dst := some 76, op := Go.Op.move (Go.Operand.tmp 4), type := 3, pos := "law.go:68", after := #[], guard := none }) (v := ?_) rfl (by kernel_rfl) (by kernel_rfl) (by kernel_rfl) (fun _ _ _ h => h) (Or.inl ⟨by rfl, ?_⟩) (by assumption) ?_
  rotate_left
  · intro w hSw; (try dsimp only at hSw); go_simp; (try with_reducible rfl)
  simp only [Act.put, List.setIfInBounds_toArray, List.set_cons_zero, List.set_cons_succ]
  refine wpAnyH_take (i := 4) (oi := { dst := some 77, op := Go.Op.indexAddr 22 (Go.Operand.tmp 75) (Go.Operand.tmp 76), type := 0, pos := "law.go:68", after := #[{ on := 2, ground := Go.Ground.data }, { on := 3, ground := Go.Ground.data }], guard := none }) (v := ?_) rfl (by kernel_rfl) (by kernel_rfl) (by kernel_rfl) (fun _ _ _ h => h) (Or.inl ⟨by rfl, ?_⟩) (by assumption) ?_
  rotate_left
  · intro w hSw; (try dsimp only at hSw); go_simp; (try with_reducible rfl)
  simp only [Act.put, List.setIfInBounds_toArray, List.set_cons_zero, List.set_cons_succ]
  refine wpAnyH_take (i := 5) (oi := { dst := some 78, op := Go.Op.fieldAddr 35 (Go.Operand.tmp 77) 7, type := 0, pos := "law.go:68", after := #[{ on := 4, ground := Go.Ground.data }], guard := none }) (v := ?_) rfl (by kernel_rfl) (by kernel_rfl) (by kernel_rfl) (fun _ _ _ h => h) (Or.inl ⟨by rfl, ?_⟩) (by assumption) ?_
  rotate_left
  · intro w hSw; (try dsimp only at hSw); go_simp; (try with_reducible rfl)
  simp only [Act.put, List.setIfInBounds_toArray, List.set_cons_zero, List.set_cons_succ]
  refine wpAnyH_take (i := 6) (oi := { dst := some 79, op := Go.Op.load 33 (Go.Operand.tmp 78), type := 33, pos := "law.go:68", after := #[{ on := 5, ground := Go.Ground.data }], guard := none }) (v := ?_) rfl (by kernel_rfl) (by kernel_rfl) (by kernel_rfl) (fun _ _ _ h => h) (Or.inl ⟨by rfl, ?_⟩) (by assumption) ?_
  rotate_left
  · intro w hSw; (try dsimp only at hSw); go_simp; (try with_reducible rfl)
  simp only [Act.put, List.setIfInBounds_toArray, List.set_cons_zero, List.set_cons_succ]
  refine wpAnyH_take (i := 8) (oi := { dst := some 81, op := Go.Op.build 43 #[(0, Go.Operand.const (Go.Value.int Go.IntKind.i64 201))], type := 43, pos := "law.go:68", after := #[], guard := none }) (v := ?_) rfl (by kernel_rfl) (by kernel_rfl) (by kernel_rfl) (fun _ _ _ h => h) (Or.inl ⟨by rfl, ?_⟩) (by assumption) ?_
  rotate_left
  · intro w hSw; (try dsimp only at hSw); go_simp; (try with_reducible rfl)
  simp only [Act.put, List.setIfInBounds_toArray, List.set_cons_zero, List.set_cons_succ]
  refine wpAnyH_take (i := 11) (oi := { dst := some 84, op := Go.Op.move (Go.Operand.tmp 0), type := 22, pos := "law.go:68", after := #[], guard := none }) (v := ?_) rfl (by kernel_rfl) (by kernel_rfl) (by kernel_rfl) (fun _ _ _ h => h) (Or.inl ⟨by rfl, ?_⟩) (by assumption) ?_
  rotate_left
  · intro w hSw; (try dsimp only at hSw); go_simp; (try with_reducible rfl)
  simp only [Act.put, List.setIfInBounds_toArray, List.set_cons_zero, List.set_cons_succ]
  refine wpAnyH_take (i := 12) (oi := { dst := some 85, op := Go.Op.move (Go.Operand.tmp 4), type := 3, pos := "law.go:68", after := #[], guard := none }) (v := ?_) rfl (by kernel_rfl) (by kernel_rfl) (by kernel_rfl) (fun _ _ _ h => h) (Or.inl ⟨by rfl, ?_⟩) (by assumption) ?_
  rotate_left
  · intro w hSw; (try dsimp only at hSw); go_simp; (try with_reducible rfl)
  simp only [Act.put, List.setIfInBounds_toArray, List.set_cons_zero, List.set_cons_succ]
  refine wpAnyH_take (i := 13) (oi := { dst := some 86, op := Go.Op.indexAddr 22 (Go.Operand.tmp 84) (Go.Operand.tmp 85), type := 0, pos := "law.go:68", after := #[{ on := 11, ground := Go.Ground.data }, { on := 12, ground := Go.Ground.data }], guard := none }) (v := ?_) rfl (by kernel_rfl) (by kernel_rfl) (by kernel_rfl) (fun _ _ _ h => h) (Or.inl ⟨by rfl, ?_⟩) (by assumption) ?_
  rotate_left
  · intro w hSw; (try dsimp only at hSw); go_simp; (try with_reducible rfl)
  simp only [Act.put, List.setIfInBounds_toArray, List.set_cons_zero, List.set_cons_succ]
  refine wpAnyH_take (i := 14) (oi := { dst := some 87, op := Go.Op.fieldAddr 35 (Go.Operand.tmp 86) 7, type := 0, pos := "law.go:68", after := #[{ on := 13, ground := Go.Ground.data }], guard := none }) (v := ?_) rfl (by kernel_rfl) (by kernel_rfl) (by kernel_rfl) (fun _ _ _ h => h) (Or.inl ⟨by rfl, ?_⟩) (by assumption) ?_
  rotate_left
  · intro w hSw; (try dsimp only at hSw); go_simp; (try with_reducible rfl)
  simp only [Act.put, List.setIfInBounds_toArray, List.set_cons_zero, List.set_cons_succ]
  refine wpAnyH_take (i := 15) (oi := { dst := some 88, op := Go.Op.load 33 (Go.Operand.tmp 87), type := 33, pos := "law.go:68", after := #[{ on := 14, ground := Go.Ground.data }], guard := none }) (v := ?_) rfl (by kernel_rfl) (by kernel_rfl) (by kernel_rfl) (fun _ _ _ h => h) (Or.inl ⟨by rfl, ?_⟩) (by assumption) ?_
  rotate_left
  · intro w hSw; (try dsimp only at hSw); go_simp; (try with_reducible rfl)
  simp only [Act.put, List.setIfInBounds_toArray, List.set_cons_zero, List.set_cons_succ]
  refine wpAnyH_take (i := 16) (oi := { dst := some 89, op := Go.Op.call { callee := Go.Callee.builtin Go.Builtin.len, args := #[Go.Operand.tmp 88], argTypes := #[33] }, type := 3, pos := "law.go:68", after := #[{ on := 15, ground := Go.Ground.data }], guard := none }) (v := ?_) rfl (by kernel_rfl) (by kernel_rfl) (by kernel_rfl) (fun _ _ _ h => h) (Or.inl ⟨by rfl, ?_⟩) (by assumption) ?_
  rotate_left
  · intro w hSw; (try dsimp only at hSw); go_simp; (try with_reducible rfl)
  simp only [Act.put, List.setIfInBounds_toArray, List.set_cons_zero, List.set_cons_succ]
  refine wpAnyH_ready (rs := [7, 9]) (by kernel_rfl) (by simp) ?_
  refine AllReadyH.cons (o := { dst := some 80, op := Go.Op.call { callee := Go.Callee.value (Go.Operand.func 17), args := #[Go.Operand.tmp 79], argTypes := #[33] }, type := 33, pos := "law.go:68", after := #[{ on := 6, ground := Go.Ground.data }], guard := none }) rfl (fun K2 hK2 => ?_) ?_
  · go_simp
    go_at_call 17
    refine (refFates23 ka kn kc fs wr.drew (HB.out.keptN ((Qt.refl wr).drew.grown none)) HL.out (by omega)).mono ?_
    rintro en w2 ⟨a2, c2, rfl, hown2, hg2⟩
    have hs2 := hg2.size
    have O2 := hid_intro hown2
    have G2 := hid_intro (grown_undrew hg2)
    have cw2 := cell_keptS cw G2.out
    clear hown2 hg2
    refine hK2.out _ _ (cw2) (fun hHeld => ?_)
    clear hK2 K2
    try simp only [Act.put, List.setIfInBounds_toArray, List.set_cons_zero, List.set_cons_succ]
    refine wpAnyH_ready (rs := [9]) (by kernel_rfl) (by simp) ?_
    refine AllReadyH.cons (o := { dst := some 82, op := Go.Op.buildSlice 33 1 #[(0, Go.Operand.tmp 81)], type := 33, pos := "law.go:68", after := #[{ on := 8, ground := Go.Ground.data }], guard := none }) rfl (fun K2 hK2 => ?_) AllReadyH.nil
    go_simp
    refine hK2.out _ _ (cell_keptS cw2 (World.grownBy_alloc w2 (.cells #[.int .i64 201, .int .i64 0] 43) none)) (fun hHeld => ?_)
    clear hK2 K2
    try simp only [Act.put, List.setIfInBounds_toArray, List.set_cons_zero, List.set_cons_succ]
    have O3 := hid_intro (O2.out.alloc (.cells #[.int .i64 201, .int .i64 0] 43))
    have G3 := hid_intro (grown_trans G2.out (World.grownBy_alloc w2 (.cells #[.int .i64 201, .int .i64 0] 43) none))
    have C3 := hid_intro (cell_two_new w2 43 (.int .i64 201) (.int .i64 0))
    have s3 := size_allocD w2 (.cells #[.int .i64 201, .int .i64 0] 43)
    generalize w2.alloc (.cells #[.int .i64 201, .int .i64 0] 43) = w3 at *
    rw [show wr.drew.heap.size = wr.heap.size from rfl] at O3
    obtain ⟨B2, hB2⟩ : ∃ B, wr.heap.size = B := ⟨_, rfl⟩
    rw [hB2] at O3
    obtain ⟨D, hD⟩ : ∃ D, w2.heap.size = D := ⟨_, rfl⟩
    rw [hD] at C3 ⊢
    have hdr : wr.drew.heap.size = wr.heap.size := rfl
    refine wpAnyH_ready (rs := [10]) (by kernel_rfl) (by simp) ?_
    refine AllReadyH.cons (o := { dst := some 83, op := Go.Op.call { callee := Go.Callee.builtin Go.Builtin.append, args := #[Go.Operand.tmp 80, Go.Operand.tmp 82], argTypes := #[33, 33] }, type := 33, pos := "law.go:68", after := #[{ on := 7, ground := Go.Ground.data }, { on := 9, ground := Go.Ground.data }, { on := 7, ground := Go.Ground.chain }], guard := none }) rfl (fun K2 hK2 => ?_) AllReadyH.nil
    obtain ⟨i0, hi, hz0, hz1, hz2⟩ := info_parts info_fateS
    refine step_append_own23 rfl (.tmp 80) (.tmp 82) 33 (by rfl) _ 43 i0 (.agg #[.int .i64 0, .int .i64 0]) 2 16 Tryz.underlying33 hi hz0 hz1 hz2 rfl (by decide) _ kn (fcl fs) (by rfl) O3.out ⟨D, 0, none⟩ 1 1 [.int .i64 201, .int .i64 0] (by rfl) (by rfl) C3.out (by intro u hu; simp at hu; rcases hu with rfl | rfl <;> rfl) (by unfold maxLen; omega) (by omega) (by omega) ?_
    intro v4 w4 ho4 hg4
    have G4 := hid_intro (grown_own23 G3.out O3.out (by omega) hg4)
    obtain ⟨G, c4, rfl, hGb, hGc⟩ := own_some23 ho4 (by omega)
    have OW4 := hid_intro ho4
    have XM4 := hid_intro (heap_keptS XM.out G4.out)
    have cw4 := cell_keptS cw G4.out
    clear ho4 hg4
    have q4 : (kn : Int) ≤ (c4 : Int) := by omega
    refine hK2.out _ _ (cw4) (fun hHeld => ?_)
    clear hK2 K2
    try simp only [Act.put, List.setIfInBounds_toArray, List.set_cons_zero, List.set_cons_succ]
    refine wpAnyH_take (i := 17) (oi := { dst := some 90, op := Go.Op.slice 33 (Go.Operand.tmp 83) none (some (Go.Operand.tmp 89)) none, type := 33, pos := "law.go:68", after := #[{ on := 10, ground := Go.Ground.data }, { on := 16, ground := Go.Ground.data }], guard := none }) (v := ?_) rfl (by kernel_rfl) (by kernel_rfl) (by kernel_rfl) (fun _ _ _ h => h) (Or.inl ⟨by rfl, ?_⟩) (by assumption) ?_
    rotate_left
    · intro w hSw; (try dsimp only at hSw); go_simp; (try with_reducible rfl)
    simp only [Act.put, List.setIfInBounds_toArray, List.set_cons_zero, List.set_cons_succ]
    refine wpAnyH_take (i := 18) (oi := { dst := some 91, op := Go.Op.indexAddr 22 (Go.Operand.tmp 73) (Go.Operand.tmp 74), type := 0, pos := "law.go:68", after := #[{ on := 0, ground := Go.Ground.data }, { on := 1, ground := Go.Ground.data }, { on := 0, ground := Go.Ground.phase }, { on := 1, ground := Go.Ground.phase }, { on := 2, ground := Go.Ground.phase }, { on := 3, ground := Go.Ground.phase }, { on := 4, ground := Go.Ground.phase }, { on := 5, ground := Go.Ground.phase }, { on := 6, ground := Go.Ground.phase }, { on := 7, ground := Go.Ground.phase }, { on := 8, ground := Go.Ground.phase }, { on := 9, ground := Go.Ground.phase }, { on := 10, ground := Go.Ground.phase }, { on := 11, ground := Go.Ground.phase }, { on := 12, ground := Go.Ground.phase }, { on := 13, ground := Go.Ground.phase }, { on := 14, ground := Go.Ground.phase }, { on := 15, ground := Go.Ground.phase }, { on := 16, ground := Go.Ground.phase }, { on := 17, ground := Go.Ground.phase }], guard := none }) (v := ?_) rfl (by kernel_rfl) (by kernel_rfl) (by kernel_rfl) (fun _ _ _ h => h) (Or.inl ⟨by rfl, ?_⟩) (by assumption) ?_
    rotate_left
    · intro w hSw; (try dsimp only at hSw); go_simp; (try with_reducible rfl)
    simp only [Act.put, List.setIfInBounds_toArray, List.set_cons_zero, List.set_cons_succ]
    refine wpAnyH_take (i := 19) (oi := { dst := some 92, op := Go.Op.fieldAddr 35 (Go.Operand.tmp 91) 7, type := 0, pos := "law.go:68", after := #[{ on := 18, ground := Go.Ground.data }, { on := 0, ground := Go.Ground.phase }, { on := 1, ground := Go.Ground.phase }, { on := 2, ground := Go.Ground.phase }, { on := 3, ground := Go.Ground.phase }, { on := 4, ground := Go.Ground.phase }, { on := 5, ground := Go.Ground.phase }, { on := 6, ground := Go.Ground.phase }, { on := 7, ground := Go.Ground.phase }, { on := 8, ground := Go.Ground.phase }, { on := 9, ground := Go.Ground.phase }, { on := 10, ground := Go.Ground.phase }, { on := 11, ground := Go.Ground.phase }, { on := 12, ground := Go.Ground.phase }, { on := 13, ground := Go.Ground.phase }, { on := 14, ground := Go.Ground.phase }, { on := 15, ground := Go.Ground.phase }, { on := 16, ground := Go.Ground.phase }, { on := 17, ground := Go.Ground.phase }], guard := none }) (v := ?_) rfl (by kernel_rfl) (by kernel_rfl) (by kernel_rfl) (fun _ _ _ h => h) (Or.inl ⟨by rfl, ?_⟩) (by assumption) ?_
    rotate_left
    · intro w hSw; (try dsimp only at hSw); go_simp; (try with_reducible rfl)
    simp only [Act.put, List.setIfInBounds_toArray, List.set_cons_zero, List.set_cons_succ]
    refine wpAnyH_ready (rs := [20]) (by kernel_rfl) (by simp) ?_
    refine AllReadyH.cons (o := { dst := none, op := Go.Op.store 33 (Go.Operand.tmp 92) (Go.Operand.tmp 90), type := 0, pos := "law.go:68", after := #[{ on := 19, ground := Go.Ground.data }, { on := 17, ground := Go.Ground.data }, { on := 10, ground := Go.Ground.chain }, { on := 0, ground := Go.Ground.phase }, { on := 1, ground := Go.Ground.phase }, { on := 2, ground := Go.Ground.phase }, { on := 3, ground := Go.Ground.phase }, { on := 4, ground := Go.Ground.phase }, { on := 5, ground := Go.Ground.phase }, { on := 6, ground := Go.Ground.phase }, { on := 7, ground := Go.Ground.phase }, { on := 8, ground := Go.Ground.phase }, { on := 9, ground := Go.Ground.phase }, { on := 10, ground := Go.Ground.phase }, { on := 11, ground := Go.Ground.phase }, { on := 12, ground := Go.Ground.phase }, { on := 13, ground := Go.Ground.phase }, { on := 14, ground := Go.Ground.phase }, { on := 15, ground := Go.Ground.phase }, { on := 16, ground := Go.Ground.phase }, { on := 17, ground := Go.Ground.phase }], guard := none }) rfl (fun K2 hK2 => ?_) AllReadyH.nil
    have fM := frozen_of_row w4 M (i * 8 + 7) _ _ XM4.out
    have cM := cell_heapS (i := i * 8 + 7) XM4.out hcM
    have hgc := grown_cell w4 M (i * 8 + 7) (.slice (some ⟨G, 0, none⟩) kn c4)
    go_simp
    refine hK2.out _ _ (hgc.cell cw4 (by simp [hMg])) (fun hHeld => ?_)
    clear hK2 K2
    try simp only [Act.put, List.setIfInBounds_toArray, List.set_cons_zero, List.set_cons_succ]
    refine wpAnyH_done (by kernel_rfl) ?_ _
    refine NoPanic.normal ?_
    refine HK.out _ _ _ _ _ _ _ _ _ _ _ _ _ _ _ _ _ _ _ _ _ G c4 ⟨heap_setCell_same w4 M (i * 8 + 7) _ _ _ XM4.out, grown_row23 G4.out hgc, own_low (OW4.out.kept hgc (.inr (fun e => by have hGM : G = M := Option.some.inj e; omega))) (by omega)⟩
  · refine AllReadyH.cons (o := { dst := some 82, op := Go.Op.buildSlice 33 1 #[(0, Go.Operand.tmp 81)], type := 33, pos := "law.go:68", after := #[{ on := 8, ground := Go.Ground.data }], guard := none }) rfl (fun K2 hK2 => ?_) AllReadyH.nil
    go_simp
    refine hK2.out _ _ (cell_keptS cw (grown_trans (World.grownBy_alloc wr (.cells #[.int .i64 201, .int .i64 0] 43) none) ((Qt.refl _).drew.grown none))) (fun hHeld => ?_)
    clear hK2 K2
    try simp only [Act.put, List.setIfInBounds_toArray, List.set_cons_zero, List.set_cons_succ]
    have G1 := hid_intro (grown_trans (World.grownBy_alloc wr (.cells #[.int .i64 201, .int .i64 0] 43) none) ((Qt.refl _).drew.grown none))
    have C1 : Hid (∀ j u, [Value.int .i64 201, .int .i64 0][j]? = some u → (wr.alloc (.cells #[.int .i64 201, .int .i64 0] 43)).drew.cell? ((⟨wr.heap.size, 0, none⟩ : Addr).add j) = some u) := cell_two_new wr 43 (.int .i64 201) (.int .i64 0)
    have s1 : (wr.alloc (.cells #[.int .i64 201, .int .i64 0] 43)).drew.heap.size = wr.heap.size + 1 := size_allocD wr (.cells #[.int .i64 201, .int .i64 0] 43)
    generalize (wr.alloc (.cells #[.int .i64 201, .int .i64 0] 43)).drew = w1 at *
    refine wpAnyH_ready (rs := [7]) (by kernel_rfl) (by simp) ?_
    refine AllReadyH.cons (o := { dst := some 80, op := Go.Op.call { callee := Go.Callee.value (Go.Operand.func 17), args := #[Go.Operand.tmp 79], argTypes := #[33] }, type := 33, pos := "law.go:68", after := #[{ on := 6, ground := Go.Ground.data }], guard := none }) rfl (fun K2 hK2 => ?_) AllReadyH.nil
    go_simp
    go_at_call 17
    refine (refFates23 ka kn kc fs w1 (HB.out.keptN G1.out) HL.out (by omega)).mono ?_
    rintro en w3 ⟨a2, c2, rfl, hown2, hg2⟩
    have hs2 := hg2.size
    have O3 := hid_intro hown2
    have G3 := hid_intro (grown_trans G1.out hg2)
    have C3 : Hid (∀ j u, [Value.int .i64 201, .int .i64 0][j]? = some u → w3.cell? ((⟨wr.heap.size, 0, none⟩ : Addr).add j) = some u) := fun j u hu => hg2.cell (C1.out j u hu) (by simp)
    have cw2 := cell_keptS cw G3.out
    clear hown2 hg2
    refine hK2.out _ _ (cw2) (fun hHeld => ?_)
    clear hK2 K2
    try simp only [Act.put, List.setIfInBounds_toArray, List.set_cons_zero, List.set_cons_succ]
    obtain ⟨B2, hB2⟩ : ∃ B, w1.heap.size = B := ⟨_, rfl⟩
    rw [hB2] at O3
    obtain ⟨D, hD⟩ : ∃ D, wr.heap.size = D := ⟨_, rfl⟩
    rw [hD] at C3 ⊢
    have hdr : wr.drew.heap.size = wr.heap.size := rfl
    refine wpAnyH_ready (rs := [10]) (by kernel_rfl) (by simp) ?_
    refine AllReadyH.cons (o := { dst := some 83, op := Go.Op.call { callee := Go.Callee.builtin Go.Builtin.append, args := #[Go.Operand.tmp 80, Go.Operand.tmp 82], argTypes := #[33, 33] }, type := 33, pos := "law.go:68", after := #[{ on := 7, ground := Go.Ground.data }, { on := 9, ground := Go.Ground.data }, { on := 7, ground := Go.Ground.chain }], guard := none }) rfl (fun K2 hK2 => ?_) AllReadyH.nil
    obtain ⟨i0, hi, hz0, hz1, hz2⟩ := info_parts info_fateS
    refine step_append_own23 rfl (.tmp 80) (.tmp 82) 33 (by rfl) _ 43 i0 (.agg #[.int .i64 0, .int .i64 0]) 2 16 Tryz.underlying33 hi hz0 hz1 hz2 rfl (by decide) _ kn (fcl fs) (by rfl) O3.out ⟨D, 0, none⟩ 1 1 [.int .i64 201, .int .i64 0] (by rfl) (by rfl) C3.out (by intro u hu; simp at hu; rcases hu with rfl | rfl <;> rfl) (by unfold maxLen; omega) (by omega) (by omega) ?_
    intro v4 w4 ho4 hg4
    have G4 := hid_intro (grown_own23 G3.out O3.out (by omega) hg4)
    obtain ⟨G, c4, rfl, hGb, hGc⟩ := own_some23 ho4 (by omega)
    have OW4 := hid_intro ho4
    have XM4 := hid_intro (heap_keptS XM.out G4.out)
    have cw4 := cell_keptS cw G4.out
    clear ho4 hg4
    have q4 : (kn : Int) ≤ (c4 : Int) := by omega
    refine hK2.out _ _ (cw4) (fun hHeld => ?_)
    clear hK2 K2
    try simp only [Act.put, List.setIfInBounds_toArray, List.set_cons_zero, List.set_cons_succ]
    refine wpAnyH_take (i := 17) (oi := { dst := some 90, op := Go.Op.slice 33 (Go.Operand.tmp 83) none (some (Go.Operand.tmp 89)) none, type := 33, pos := "law.go:68", after := #[{ on := 10, ground := Go.Ground.data }, { on := 16, ground := Go.Ground.data }], guard := none }) (v := ?_) rfl (by kernel_rfl) (by kernel_rfl) (by kernel_rfl) (fun _ _ _ h => h) (Or.inl ⟨by rfl, ?_⟩) (by assumption) ?_
    rotate_left
    · intro w hSw; (try dsimp only at hSw); go_simp; (try with_reducible rfl)
    simp only [Act.put, List.setIfInBounds_toArray, List.set_cons_zero, List.set_cons_succ]
    refine wpAnyH_take (i := 18) (oi := { dst := some 91, op := Go.Op.indexAddr 22 (Go.Operand.tmp 73) (Go.Operand.tmp 74), type := 0, pos := "law.go:68", after := #[{ on := 0, ground := Go.Ground.data }, { on := 1, ground := Go.Ground.data }, { on := 0, ground := Go.Ground.phase }, { on := 1, ground := Go.Ground.phase }, { on := 2, ground := Go.Ground.phase }, { on := 3, ground := Go.Ground.phase }, { on := 4, ground := Go.Ground.phase }, { on := 5, ground := Go.Ground.phase }, { on := 6, ground := Go.Ground.phase }, { on := 7, ground := Go.Ground.phase }, { on := 8, ground := Go.Ground.phase }, { on := 9, ground := Go.Ground.phase }, { on := 10, ground := Go.Ground.phase }, { on := 11, ground := Go.Ground.phase }, { on := 12, ground := Go.Ground.phase }, { on := 13, ground := Go.Ground.phase }, { on := 14, ground := Go.Ground.phase }, { on := 15, ground := Go.Ground.phase }, { on := 16, ground := Go.Ground.phase }, { on := 17, ground := Go.Ground.phase }], guard := none }) (v := ?_) rfl (by kernel_rfl) (by kernel_rfl) (by kernel_rfl) (fun _ _ _ h => h) (Or.inl ⟨by rfl, ?_⟩) (by assumption) ?_
    rotate_left
    · intro w hSw; (try dsimp only at hSw); go_simp; (try with_reducible rfl)
    simp only [Act.put, List.setIfInBounds_toArray, List.set_cons_zero, List.set_cons_succ]
    refine wpAnyH_take (i := 19) (oi := { dst := some 92, op := Go.Op.fieldAddr 35 (Go.Operand.tmp 91) 7, type := 0, pos := "law.go:68", after := #[{ on := 18, ground := Go.Ground.data }, { on := 0, ground := Go.Ground.phase }, { on := 1, ground := Go.Ground.phase }, { on := 2, ground := Go.Ground.phase }, { on := 3, ground := Go.Ground.phase }, { on := 4, ground := Go.Ground.phase }, { on := 5, ground := Go.Ground.phase }, { on := 6, ground := Go.Ground.phase }, { on := 7, ground := Go.Ground.phase }, { on := 8, ground := Go.Ground.phase }, { on := 9, ground := Go.Ground.phase }, { on := 10, ground := Go.Ground.phase }, { on := 11, ground := Go.Ground.phase }, { on := 12, ground := Go.Ground.phase }, { on := 13, ground := Go.Ground.phase }, { on := 14, ground := Go.Ground.phase }, { on := 15, ground := Go.Ground.phase }, { on := 16, ground := Go.Ground.phase }, { on := 17, ground := Go.Ground.phase }], guard := none }) (v := ?_) rfl (by kernel_rfl) (by kernel_rfl) (by kernel_rfl) (fun _ _ _ h => h) (Or.inl ⟨by rfl, ?_⟩) (by assumption) ?_
    rotate_left
    · intro w hSw; (try dsimp only at hSw); go_simp; (try with_reducible rfl)
    simp only [Act.put, List.setIfInBounds_toArray, List.set_cons_zero, List.set_cons_succ]
    refine wpAnyH_ready (rs := [20]) (by kernel_rfl) (by simp) ?_
    refine AllReadyH.cons (o := { dst := none, op := Go.Op.store 33 (Go.Operand.tmp 92) (Go.Operand.tmp 90), type := 0, pos := "law.go:68", after := #[{ on := 19, ground := Go.Ground.data }, { on := 17, ground := Go.Ground.data }, { on := 10, ground := Go.Ground.chain }, { on := 0, ground := Go.Ground.phase }, { on := 1, ground := Go.Ground.phase }, { on := 2, ground := Go.Ground.phase }, { on := 3, ground := Go.Ground.phase }, { on := 4, ground := Go.Ground.phase }, { on := 5, ground := Go.Ground.phase }, { on := 6, ground := Go.Ground.phase }, { on := 7, ground := Go.Ground.phase }, { on := 8, ground := Go.Ground.phase }, { on := 9, ground := Go.Ground.phase }, { on := 10, ground := Go.Ground.phase }, { on := 11, ground := Go.Ground.phase }, { on := 12, ground := Go.Ground.phase }, { on := 13, ground := Go.Ground.phase }, { on := 14, ground := Go.Ground.phase }, { on := 15, ground := Go.Ground.phase }, { on := 16, ground := Go.Ground.phase }, { on := 17, ground := Go.Ground.phase }], guard := none }) rfl (fun K2 hK2 => ?_) AllReadyH.nil
    have fM := frozen_of_row w4 M (i * 8 + 7) _ _ XM4.out
    have cM := cell_heapS (i := i * 8 + 7) XM4.out hcM
    have hgc := grown_cell w4 M (i * 8 + 7) (.slice (some ⟨G, 0, none⟩) kn c4)
    go_simp
    refine hK2.out _ _ (hgc.cell cw4 (by simp [hMg])) (fun hHeld => ?_)
    clear hK2 K2
    try simp only [Act.put, List.setIfInBounds_toArray, List.set_cons_zero, List.set_cons_succ]
    refine wpAnyH_done (by kernel_rfl) ?_ _
    refine NoPanic.normal ?_
    refine HK.out _ _ _ _ _ _ _ _ _ _ _ _ _ _ _ _ _ _ _ _ _ G c4 ⟨heap_setCell_same w4 M (i * 8 + 7) _ _ _ XM4.out, grown_row23 G4.out hgc, own_low (OW4.out.kept hgc (.inr (fun e => by have hGM : G = M := Option.some.inj e; omega))) (by omega)⟩
end Go.Proofs.YtcjgmiilfjjbcaaGreatDoor
