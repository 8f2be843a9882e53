import Derived.Test.YtcjgmiilfjjbcaaGreatDoorSp4
import Derived.Test.YtcjgmiilfjjbcaaGreatDoorLeafO
import Derived.Deep.RegionHeld3
namespace Go.Proofs.YtcjgmiilfjjbcaaGreatDoor
open Go.RowKit

theorem step_append_own23 {ops : Array Oper} {o : Oper} {a : Act} {w : World} {K : Act → World → Prop} {Q : Exit → Act → World → Prop} {E : Prop} (hgd : o.guard = none) (s x : Operand) (t : TypeId)
    (ho : o.op = .call { callee := .builtin .append, args := #[s, x], argTypes := #[t, t] })
    (base : Nat) (e : TypeId) (i : TypeInfo) (z : Value) (size bytes : Nat) (ht : Tryz.prog.underlying t = some (.slice e)) (hi : Tryz.prog.info? e = some i) (hz : i.zero = some z) (hsize : i.size = size) (hby : i.bytes = bytes) (hzs : z.cells.size = size) (hsz : 0 < size)
    (v : Value) (n : Nat) (xs : List Value) (hs : a.eval s = v) (hown : w.ownsRow base e size v n xs)
    (ad : Addr) (m c : Nat) (news : List Value) (hx : a.eval x = .slice (some ad) m c) (hl : news.length = m * size) (hnews : ∀ j u, news[j]? = some u → w.cell? (ad.add j) = some u) (h1 : ∀ u ∈ news, u.oneCell' = true)
    (h63 : n + m ≤ maxLen) (hbytes : (n + m) * bytes ≤ 140737488355328) (hbase : base ≤ w.heap.size)
    (h : ∀ v' w', w'.ownsRow base e size v' (n + m) (xs ++ news) → w.grownBy w' v.ownBlock → K (a.put o.dst v') w') :
    if Region.wanted o (yielded ops a.tmps) = true then Oper.wp Tryz.prog o a w K Q else E := by
  have hw : Region.wanted o (yielded ops a.tmps) = true := by simp [Region.wanted, hgd]
  rw [if_pos hw]
  obtain ⟨v', w', hrun, r1, r2, _⟩ := run_append_own (P := Tryz.prog) w base t o.type e i z size bytes ht hi hz hsize hby hzs hsz v n xs hown ad m c news hl hnews h1 h63 hbytes hbase
  unfold Oper.wp
  simp [execOp, ho, resolve, invoke, builtin, hs, hx, hrun, Result.andThen]
  exact h v' w' r1 r2
theorem grown_row23 {a b c : World} {row : Option Nat} (h : a.grownBy b none) (k : b.grownBy c row) : a.grownBy c row :=
  ⟨k.os.trans h.os, k.tape.trans h.tape, k.output.trans h.output, Nat.le_trans h.size k.size, fun g hg hr => (k.block g (Nat.lt_of_lt_of_le hg h.size) hr).trans (h.block g hg (by simp))⟩
theorem grown_own23 {a b c : World} {base e sz n : Nat} {v : Value} {xs : List Value} (h : a.grownBy b none) (ho : b.ownsRow base e sz v n xs) (hb : a.heap.size ≤ base) (k : b.grownBy c v.ownBlock) : a.grownBy c none :=
  ⟨k.os.trans h.os, k.tape.trans h.tape, k.output.trans h.output, Nat.le_trans h.size k.size, fun g hg _ => (k.block g (Nat.lt_of_lt_of_le hg h.size) (fun e => by have := (ho.lt g e.symm).1; omega)).trans (h.block g hg (by simp))⟩
theorem own_some23 {w : World} {base e sz n : Nat} {v : Value} {xs : List Value} (h : w.ownsRow base e sz v n xs) (hn : 0 < n) : ∃ G c, v = .slice (some ⟨G, 0, none⟩) n c ∧ base ≤ G ∧ n ≤ c := by
  rcases h.2 with ⟨_, h0⟩ | ⟨g, cap, cur, hv, hb, _, hc, _⟩
  · omega
  · exact ⟨g, cap, hv, hb, hc⟩
theorem cell_lt23 {w : World} {g i : Nat} {v : Value} (h : w.cell? ⟨g, i, none⟩ = some v) : g < w.heap.size := by
  refine Nat.lt_of_not_le fun hle => ?_
  simp [World.cell?, Array.getElem?_eq_none hle] at h
/-- What a round's store of a list leaves: row M with the list in its cell, the list in a block of its own with the mark behind it. -/
structure LsP (wr wx : World) (M p : Nat) (cur : Array Value) (zs : List Int) (n G c : Nat) : Prop where
  row : wx.heap[M]? = some (.cells (cur.setIfInBounds p (.slice (some ⟨G, 0, none⟩) n c)) 35 (0, 0))
  gr : wr.grownBy wx (some M)
  new : wr.heap.size ≤ G
  ow : Ow wx G c (zs ++ [201])
set_option maxHeartbeats 16000000 in
set_option maxRecDepth 100000 in
theorem lent_r5 {y1 y2 y5 y6 y7 y8 y9 y10 y11 y12 y13 y14 y15 y16 y17 y18 y19 y20 y21 y22 y23 y24 y25 y26 y27 y28 y29 y30 y31 y32 y33 y34 y35 y36 y37 y38 y39 y40 y41 y42 y43 y44 y45 y46 y47 y48 y49 y50 y51 y52 y53 y54 y55 y56 y57 y58 y59 y60 y61 y62 y63 y64 y65 y66 y67 y68 y69 y70 y71 y72 y73 y74 y75 y76 y77 y78 y79 y80 y81 y82 y83 y84 y85 y86 y87 y88 y89 y90 y91 y92 y93 y94 y95 y96 : Value} {g off n cap M mc i : Nat} {ka : Option Addr} {kn kc : Nat} {zs : List Int} {cur : Array Value} {wr : World} {K : Act → World → Prop} {Q' : Exit → Act → World → Prop}
    (cw : wr.cell? ⟨g, off + i * 8 + 4, none⟩ = some (.slice ka kn kc)) (hB : Byt wr ka kn kc zs) (hkn : kn ≤ 2097152) (hX : wr.heap[M]? = some (.cells cur 35 (0, 0))) (hcM : ∃ u, cur[i * 8 + 4]? = some u) (hMg : g ≠ M) (hin : i < n)
    (hK : ∀ (v16 v17 v18 v19 v20 v21 v22 v23 v24 v25 v26 v27 v28 v29 v30 v31 v32 v33 v34 : Value) (wx : World) (G c : Nat), LsP wr wx M (i * 8 + 4) cur zs kn G c → K ⟨List.toArray ((.slice (some ⟨g, off, none⟩) n cap) :: y1 :: y2 :: (.slice (some ⟨M, 0, none⟩) (n + 1) mc) :: (.int .i64 (i : Nat)) :: y5 :: y6 :: y7 :: y8 :: y9 :: y10 :: y11 :: y12 :: y13 :: y14 :: y15 :: v16 :: v17 :: v18 :: v19 :: v20 :: v21 :: v22 :: v23 :: v24 :: v25 :: v26 :: v27 :: v28 :: v29 :: v30 :: v31 :: v32 :: v33 :: v34 :: y35 :: y36 :: y37 :: y38 :: y39 :: y40 :: y41 :: y42 :: y43 :: y44 :: y45 :: y46 :: y47 :: y48 :: y49 :: y50 :: y51 :: y52 :: y53 :: y54 :: y55 :: y56 :: y57 :: y58 :: y59 :: y60 :: y61 :: y62 :: y63 :: y64 :: y65 :: y66 :: y67 :: y68 :: y69 :: y70 :: y71 :: y72 :: y73 :: y74 :: y75 :: y76 :: y77 :: y78 :: y79 :: y80 :: y81 :: y82 :: y83 :: y84 :: y85 :: y86 :: y87 :: y88 :: y89 :: y90 :: y91 :: y92 :: y93 :: y94 :: y95 :: y96 :: []), []⟩ wx) :
    Code.wp Tryz.prog (Go.Code.region 5 #[{ dst := some 16, op := Go.Op.move (Go.Operand.tmp 3), type := 22, pos := "law.go:65", after := #[], guard := none }, { dst := some 17, op := Go.Op.move (Go.Operand.tmp 4), type := 3, pos := "law.go:65", after := #[], guard := none }, { dst := some 18, op := Go.Op.move (Go.Operand.tmp 0), type := 22, pos := "law.go:65", after := #[], guard := none }, { dst := some 19, op := Go.Op.move (Go.Operand.tmp 4), type := 3, pos := "law.go:65", after := #[], guard := none }, { dst := some 20, op := Go.Op.indexAddr 22 (Go.Operand.tmp 18) (Go.Operand.tmp 19), type := 0, pos := "law.go:65", after := #[{ on := 2, ground := Go.Ground.data }, { on := 3, ground := Go.Ground.data }], guard := none }, { dst := some 21, op := Go.Op.fieldAddr 35 (Go.Operand.tmp 20) 4, type := 0, pos := "law.go:65", after := #[{ on := 4, ground := Go.Ground.data }], guard := none }, { dst := some 22, op := Go.Op.load 32 (Go.Operand.tmp 21), type := 32, pos := "law.go:65", after := #[{ on := 5, ground := Go.Ground.data }], guard := none }, { dst := some 23, op := Go.Op.call { callee := Go.Callee.value (Go.Operand.func 16), args := #[Go.Operand.tmp 22], argTypes := #[32] }, type := 32, pos := "law.go:65", after := #[{ on := 6, ground := Go.Ground.data }], guard := none }, { dst := some 24, op := Go.Op.buildSlice 32 1 #[(0, Go.Operand.const (Go.Value.int Go.IntKind.u8 201))], type := 32, pos := "law.go:65", after := #[], guard := none }, { dst := some 25, op := Go.Op.call { callee := Go.Callee.builtin Go.Builtin.append, args := #[Go.Operand.tmp 23, Go.Operand.tmp 24], argTypes := #[32, 32] }, type := 32, pos := "law.go:65", after := #[{ on := 7, ground := Go.Ground.data }, { on := 8, ground := Go.Ground.data }, { on := 7, ground := Go.Ground.chain }], guard := none }, { dst := some 26, op := Go.Op.move (Go.Operand.tmp 0), type := 22, pos := "law.go:65", after := #[], guard := none }, { dst := some 27, op := Go.Op.move (Go.Operand.tmp 4), type := 3, pos := "law.go:65", after := #[], guard := none }, { dst := some 28, op := Go.Op.indexAddr 22 (Go.Operand.tmp 26) (Go.Operand.tmp 27), type := 0, pos := "law.go:65", after := #[{ on := 10, ground := Go.Ground.data }, { on := 11, ground := Go.Ground.data }], guard := none }, { dst := some 29, op := Go.Op.fieldAddr 35 (Go.Operand.tmp 28) 4, type := 0, pos := "law.go:65", after := #[{ on := 12, ground := Go.Ground.data }], guard := none }, { dst := some 30, op := Go.Op.load 32 (Go.Operand.tmp 29), type := 32, pos := "law.go:65", after := #[{ on := 13, ground := Go.Ground.data }], guard := none }, { dst := some 31, op := Go.Op.call { callee := Go.Callee.builtin Go.Builtin.len, args := #[Go.Operand.tmp 30], argTypes := #[32] }, type := 3, pos := "law.go:65", after := #[{ on := 14, ground := Go.Ground.data }], guard := none }, { dst := some 32, op := Go.Op.slice 32 (Go.Operand.tmp 25) none (some (Go.Operand.tmp 31)) none, type := 32, pos := "law.go:65", after := #[{ on := 9, ground := Go.Ground.data }, { on := 15, ground := Go.Ground.data }], guard := none }, { dst := some 33, op := Go.Op.indexAddr 22 (Go.Operand.tmp 16) (Go.Operand.tmp 17), type := 0, pos := "law.go:65", after := #[{ on := 0, ground := Go.Ground.data }, { on := 1, ground := Go.Ground.data }, { on := 0, ground := Go.Ground.phase }, { on := 1, ground := Go.Ground.phase }, { on := 2, ground := Go.Ground.phase }, { on := 3, ground := Go.Ground.phase }, { on := 4, ground := Go.Ground.phase }, { on := 5, ground := Go.Ground.phase }, { on := 6, ground := Go.Ground.phase }, { on := 7, ground := Go.Ground.phase }, { on := 8, ground := Go.Ground.phase }, { on := 9, ground := Go.Ground.phase }, { on := 10, ground := Go.Ground.phase }, { on := 11, ground := Go.Ground.phase }, { on := 12, ground := Go.Ground.phase }, { on := 13, ground := Go.Ground.phase }, { on := 14, ground := Go.Ground.phase }, { on := 15, ground := Go.Ground.phase }, { on := 16, ground := Go.Ground.phase }], guard := none }, { dst := some 34, op := Go.Op.fieldAddr 35 (Go.Operand.tmp 33) 4, type := 0, pos := "law.go:65", after := #[{ on := 17, ground := Go.Ground.data }, { on := 0, ground := Go.Ground.phase }, { on := 1, ground := Go.Ground.phase }, { on := 2, ground := Go.Ground.phase }, { on := 3, ground := Go.Ground.phase }, { on := 4, ground := Go.Ground.phase }, { on := 5, ground := Go.Ground.phase }, { on := 6, ground := Go.Ground.phase }, { on := 7, ground := Go.Ground.phase }, { on := 8, ground := Go.Ground.phase }, { on := 9, ground := Go.Ground.phase }, { on := 10, ground := Go.Ground.phase }, { on := 11, ground := Go.Ground.phase }, { on := 12, ground := Go.Ground.phase }, { on := 13, ground := Go.Ground.phase }, { on := 14, ground := Go.Ground.phase }, { on := 15, ground := Go.Ground.phase }, { on := 16, ground := Go.Ground.phase }], guard := none }, { dst := none, op := Go.Op.store 32 (Go.Operand.tmp 34) (Go.Operand.tmp 32), type := 0, pos := "law.go:65", after := #[{ on := 18, ground := Go.Ground.data }, { on := 16, ground := Go.Ground.data }, { on := 9, ground := Go.Ground.chain }, { on := 0, ground := Go.Ground.phase }, { on := 1, ground := Go.Ground.phase }, { on := 2, ground := Go.Ground.phase }, { on := 3, ground := Go.Ground.phase }, { on := 4, ground := Go.Ground.phase }, { on := 5, ground := Go.Ground.phase }, { on := 6, ground := Go.Ground.phase }, { on := 7, ground := Go.Ground.phase }, { on := 8, ground := Go.Ground.phase }, { on := 9, ground := Go.Ground.phase }, { on := 10, ground := Go.Ground.phase }, { on := 11, ground := Go.Ground.phase }, { on := 12, ground := Go.Ground.phase }, { on := 13, ground := Go.Ground.phase }, { on := 14, ground := Go.Ground.phase }, { on := 15, ground := Go.Ground.phase }, { on := 16, ground := Go.Ground.phase }], guard := none }] true) (Exit.then K Q') ⟨List.toArray ((.slice (some ⟨g, off, none⟩) n cap) :: y1 :: y2 :: (.slice (some ⟨M, 0, none⟩) (n + 1) mc) :: (.int .i64 (i : Nat)) :: y5 :: y6 :: y7 :: y8 :: y9 :: y10 :: y11 :: y12 :: y13 :: y14 :: y15 :: y16 :: y17 :: y18 :: y19 :: y20 :: y21 :: y22 :: y23 :: y24 :: y25 :: y26 :: y27 :: y28 :: y29 :: y30 :: y31 :: y32 :: y33 :: y34 :: y35 :: y36 :: y37 :: y38 :: y39 :: y40 :: y41 :: y42 :: y43 :: y44 :: y45 :: y46 :: y47 :: y48 :: y49 :: y50 :: y51 :: y52 :: y53 :: y54 :: y55 :: y56 :: y57 :: y58 :: y59 :: y60 :: y61 :: y62 :: y63 :: y64 :: y65 :: y66 :: y67 :: y68 :: y69 :: y70 :: y71 :: y72 :: y73 :: y74 :: y75 :: y76 :: y77 :: y78 :: y79 :: y80 :: y81 :: y82 :: y83 :: y84 :: y85 :: y86 :: y87 :: y88 :: y89 :: y90 :: y91 :: y92 :: y93 :: y94 :: y95 :: y96 :: []), []⟩ wr := by
  have HK := hid_intro hK
  have HB := hid_intro hB
  have XM := hid_intro hX
  clear hK hB hX
  obtain ⟨u0, hcM⟩ := hcM
  have e1 : (i : Int) < (n : Int) := by omega
  have e2 : (0 : Int) ≤ (i : Int) := by omega
  have e3 : (i : Int) < (n : Int) + 1 := by omega
  have e4 : (0 : Int) ≤ (kn : Int) := by omega
  have hgl : g < wr.heap.size := cell_lt23 cw
  have hMl : M < wr.heap.size := (Array.getElem?_eq_some_iff.1 XM.out).1
  try dsimp only
  refine wp_region_noPanic ?_
  refine wp_region_held_drew (S := (fun w' => w'.cell? ⟨g, off + i * 8 + 4, none⟩ = some (.slice ka kn kc))) (by kernel_rfl) ?_ (fun hHeld => ?_)
  · exact cw
  refine wpAnyH_take (i := 0) (oi := { dst := some 16, op := Go.Op.move (Go.Operand.tmp 3), type := 22, pos := "law.go:65", after := #[], guard := none }) (v := ?_) rfl (by kernel_rfl) (by kernel_rfl) (by kernel_rfl) (fun _ _ _ h => h) (Or.inl ⟨by rfl, ?_⟩) (by assumption) ?_
  rotate_left
  · intro w hSw; (try dsimp only at hSw); go_simp; (try with_reducible rfl)
  simp only [Act.put, List.setIfInBounds_toArray, List.set_cons_zero, List.set_cons_succ]
  refine wpAnyH_take (i := 1) (oi := { dst := some 17, op := Go.Op.move (Go.Operand.tmp 4), type := 3, pos := "law.go:65", after := #[], guard := none }) (v := ?_) rfl (by kernel_rfl) (by kernel_rfl) (by kernel_rfl) (fun _ _ _ h => h) (Or.inl ⟨by rfl, ?_⟩) (by assumption) ?_
  rotate_left
  · intro w hSw; (try dsimp only at hSw); go_simp; (try with_reducible rfl)
  simp only [Act.put, List.setIfInBounds_toArray, List.set_cons_zero, List.set_cons_succ]
  refine wpAnyH_take (i := 2) (oi := { dst := some 18, op := Go.Op.move (Go.Operand.tmp 0), type := 22, pos := "law.go:65", after := #[], guard := none }) (v := ?_) rfl (by kernel_rfl) (by kernel_rfl) (by kernel_rfl) (fun _ _ _ h => h) (Or.inl ⟨by rfl, ?_⟩) (by assumption) ?_
  rotate_left
  · intro w hSw; (try dsimp only at hSw); go_simp; (try with_reducible rfl)
  simp only [Act.put, List.setIfInBounds_toArray, List.set_cons_zero, List.set_cons_succ]
  refine wpAnyH_take (i := 3) (oi := { dst := some 19, op := Go.Op.move (Go.Operand.tmp 4), type := 3, pos := "law.go:65", after := #[], guard := none }) (v := ?_) rfl (by kernel_rfl) (by kernel_rfl) (by kernel_rfl) (fun _ _ _ h => h) (Or.inl ⟨by rfl, ?_⟩) (by assumption) ?_
  rotate_left
  · intro w hSw; (try dsimp only at hSw); go_simp; (try with_reducible rfl)
  simp only [Act.put, List.setIfInBounds_toArray, List.set_cons_zero, List.set_cons_succ]
  refine wpAnyH_take (i := 4) (oi := { dst := some 20, op := Go.Op.indexAddr 22 (Go.Operand.tmp 18) (Go.Operand.tmp 19), type := 0, pos := "law.go:65", after := #[{ on := 2, ground := Go.Ground.data }, { on := 3, ground := Go.Ground.data }], guard := none }) (v := ?_) rfl (by kernel_rfl) (by kernel_rfl) (by kernel_rfl) (fun _ _ _ h => h) (Or.inl ⟨by rfl, ?_⟩) (by assumption) ?_
  rotate_left
  · intro w hSw; (try dsimp only at hSw); go_simp; (try with_reducible rfl)
  simp only [Act.put, List.setIfInBounds_toArray, List.set_cons_zero, List.set_cons_succ]
  refine wpAnyH_take (i := 5) (oi := { dst := some 21, op := Go.Op.fieldAddr 35 (Go.Operand.tmp 20) 4, type := 0, pos := "law.go:65", after := #[{ on := 4, ground := Go.Ground.data }], guard := none }) (v := ?_) rfl (by kernel_rfl) (by kernel_rfl) (by kernel_rfl) (fun _ _ _ h => h) (Or.inl ⟨by rfl, ?_⟩) (by assumption) ?_
  rotate_left
  · intro w hSw; (try dsimp only at hSw); go_simp; (try with_reducible rfl)
  simp only [Act.put, List.setIfInBounds_toArray, List.set_cons_zero, List.set_cons_succ]
  refine wpAnyH_take (i := 6) (oi := { dst := some 22, op := Go.Op.load 32 (Go.Operand.tmp 21), type := 32, pos := "law.go:65", after := #[{ on := 5, ground := Go.Ground.data }], guard := none }) (v := ?_) rfl (by kernel_rfl) (by kernel_rfl) (by kernel_rfl) (fun _ _ _ h => h) (Or.inl ⟨by rfl, ?_⟩) (by assumption) ?_
  rotate_left
  · intro w hSw; (try dsimp only at hSw); go_simp; (try with_reducible rfl)
  simp only [Act.put, List.setIfInBounds_toArray, List.set_cons_zero, List.set_cons_succ]
  refine wpAnyH_take (i := 10) (oi := { dst := some 26, op := Go.Op.move (Go.Operand.tmp 0), type := 22, pos := "law.go:65", after := #[], guard := none }) (v := ?_) rfl (by kernel_rfl) (by kernel_rfl) (by kernel_rfl) (fun _ _ _ h => h) (Or.inl ⟨by rfl, ?_⟩) (by assumption) ?_
  rotate_left
  · intro w hSw; (try dsimp only at hSw); go_simp; (try with_reducible rfl)
  simp only [Act.put, List.setIfInBounds_toArray, List.set_cons_zero, List.set_cons_succ]
  refine wpAnyH_take (i := 11) (oi := { dst := some 27, op := Go.Op.move (Go.Operand.tmp 4), type := 3, pos := "law.go:65", after := #[], guard := none }) (v := ?_) rfl (by kernel_rfl) (by kernel_rfl) (by kernel_rfl) (fun _ _ _ h => h) (Or.inl ⟨by rfl, ?_⟩) (by assumption) ?_
  rotate_left
  · intro w hSw; (try dsimp only at hSw); go_simp; (try with_reducible rfl)
  simp only [Act.put, List.setIfInBounds_toArray, List.set_cons_zero, List.set_cons_succ]
  refine wpAnyH_take (i := 12) (oi := { dst := some 28, op := Go.Op.indexAddr 22 (Go.Operand.tmp 26) (Go.Operand.tmp 27), type := 0, pos := "law.go:65", after := #[{ on := 10, ground := Go.Ground.data }, { on := 11, ground := Go.Ground.data }], guard := none }) (v := ?_) rfl (by kernel_rfl) (by kernel_rfl) (by kernel_rfl) (fun _ _ _ h => h) (Or.inl ⟨by rfl, ?_⟩) (by assumption) ?_
  rotate_left
  · intro w hSw; (try dsimp only at hSw); go_simp; (try with_reducible rfl)
  simp only [Act.put, List.setIfInBounds_toArray, List.set_cons_zero, List.set_cons_succ]
  refine wpAnyH_take (i := 13) (oi := { dst := some 29, op := Go.Op.fieldAddr 35 (Go.Operand.tmp 28) 4, type := 0, pos := "law.go:65", after := #[{ on := 12, ground := Go.Ground.data }], guard := none }) (v := ?_) rfl (by kernel_rfl) (by kernel_rfl) (by kernel_rfl) (fun _ _ _ h => h) (Or.inl ⟨by rfl, ?_⟩) (by assumption) ?_
  rotate_left
  · intro w hSw; (try dsimp only at hSw); go_simp; (try with_reducible rfl)
  simp only [Act.put, List.setIfInBounds_toArray, List.set_cons_zero, List.set_cons_succ]
  refine wpAnyH_take (i := 14) (oi := { dst := some 30, op := Go.Op.load 32 (Go.Operand.tmp 29), type := 32, pos := "law.go:65", after := #[{ on := 13, ground := Go.Ground.data }], guard := none }) (v := ?_) rfl (by kernel_rfl) (by kernel_rfl) (by kernel_rfl) (fun _ _ _ h => h) (Or.inl ⟨by rfl, ?_⟩) (by assumption) ?_
  rotate_left
  · intro w hSw; (try dsimp only at hSw); go_simp; (try with_reducible rfl)
  simp only [Act.put, List.setIfInBounds_toArray, List.set_cons_zero, List.set_cons_succ]
  refine wpAnyH_take (i := 15) (oi := { dst := some 31, op := Go.Op.call { callee := Go.Callee.builtin Go.Builtin.len, args := #[Go.Operand.tmp 30], argTypes := #[32] }, type := 3, pos := "law.go:65", after := #[{ on := 14, ground := Go.Ground.data }], guard := none }) (v := ?_) rfl (by kernel_rfl) (by kernel_rfl) (by kernel_rfl) (fun _ _ _ h => h) (Or.inl ⟨by rfl, ?_⟩) (by assumption) ?_
  rotate_left
  · intro w hSw; (try dsimp only at hSw); go_simp; (try with_reducible rfl)
  simp only [Act.put, List.setIfInBounds_toArray, List.set_cons_zero, List.set_cons_succ]
  refine wpAnyH_ready (rs := [7, 8]) (by kernel_rfl) (by simp) ?_
  refine AllReadyH.cons (o := { dst := some 23, op := Go.Op.call { callee := Go.Callee.value (Go.Operand.func 16), args := #[Go.Operand.tmp 22], argTypes := #[32] }, type := 32, pos := "law.go:65", after := #[{ on := 6, ground := Go.Ground.data }], guard := none }) rfl (fun K2 hK2 => ?_) ?_
  · go_simp
    go_at_call 16
    refine (refBytes_any ka kn kc zs wr.drew (HB.out.heap rfl) (by omega)).mono ?_
    rintro en w2 ⟨rfl, hown2, hg2, hs2⟩
    have O2 := hid_intro hown2
    have G2 := hid_intro (grown_undrew hg2)
    have cw2 := cell_keptS cw G2.out
    clear hown2 hg2
    refine hK2.out _ _ (cw2) (fun hHeld => ?_)
    clear hK2 K2
    try simp only [Act.put, List.setIfInBounds_toArray, List.set_cons_zero, List.set_cons_succ]
    refine wpAnyH_ready (rs := [8]) (by kernel_rfl) (by simp) ?_
    refine AllReadyH.cons (o := { dst := some 24, op := Go.Op.buildSlice 32 1 #[(0, Go.Operand.const (Go.Value.int Go.IntKind.u8 201))], type := 32, pos := "law.go:65", after := #[], guard := none }) rfl (fun K2 hK2 => ?_) AllReadyH.nil
    go_simp
    refine hK2.out _ _ (cell_keptS cw2 (World.grownBy_alloc w2 (.cells #[.int .u8 201] 5) none)) (fun hHeld => ?_)
    clear hK2 K2
    try simp only [Act.put, List.setIfInBounds_toArray, List.set_cons_zero, List.set_cons_succ]
    have O3 := hid_intro (O2.out.alloc (.cells #[.int .u8 201] 5))
    have G3 := hid_intro (grown_trans G2.out (World.grownBy_alloc w2 (.cells #[.int .u8 201] 5) none))
    have C3 := hid_intro (cell_one_new w2 (.int .u8 201) 5)
    have s3 := size_allocD w2 (.cells #[.int .u8 201] 5)
    generalize w2.alloc (.cells #[.int .u8 201] 5) = w3 at *
    rw [show wr.drew.heap.size = wr.heap.size from rfl] at O3
    obtain ⟨B2, hB2⟩ : ∃ B, wr.heap.size = B := ⟨_, rfl⟩
    rw [hB2] at O3 ⊢
    obtain ⟨D, hD⟩ : ∃ D, w2.heap.size = D := ⟨_, rfl⟩
    rw [hD] at C3 ⊢
    have hdr : wr.drew.heap.size = wr.heap.size := rfl
    refine wpAnyH_ready (rs := [9]) (by kernel_rfl) (by simp) ?_
    refine AllReadyH.cons (o := { dst := some 25, op := Go.Op.call { callee := Go.Callee.builtin Go.Builtin.append, args := #[Go.Operand.tmp 23, Go.Operand.tmp 24], argTypes := #[32, 32] }, type := 32, pos := "law.go:65", after := #[{ on := 7, ground := Go.Ground.data }, { on := 8, ground := Go.Ground.data }, { on := 7, ground := Go.Ground.chain }], guard := none }) rfl (fun K2 hK2 => ?_) AllReadyH.nil
    obtain ⟨i0, hi, hz0, hz1, hz2⟩ := info_parts info_u8
    refine step_append_own23 rfl (.tmp 23) (.tmp 24) 32 (by rfl) _ 5 i0 (.int .u8 0) 1 1 Tryz.underlying32 hi hz0 hz1 hz2 rfl (by decide) _ kn (zs.map (Value.int .u8)) (by rfl) O3.out ⟨D, 0, none⟩ 1 1 [.int .u8 201] (by rfl) (by rfl) C3.out (by intro u hu; simp at hu; subst hu; rfl) (by unfold maxLen; omega) (by omega) (by omega) ?_
    intro v4 w4 ho4 hg4
    have ho4' : w4.ownsRow B2 5 1 v4 (kn + 1) ((zs ++ [201]).map (Value.int .u8)) := by rw [List.map_append]; exact ho4
    obtain ⟨G, c4, rfl, hGb, hGl, hGc⟩ := owns_shape ho4' (by omega)
    have OW4 := hid_intro (Ow.of_owns ho4').1
    have G4 := hid_intro (grown_new (R := B2) G3.out hg4 (by omega))
    have XM4 := hid_intro (heap_keptS XM.out G4.out)
    have cw4 := cell_keptS cw G4.out
    clear ho4 hg4 ho4'
    have q4 : (kn : Int) ≤ (c4 : Int) := by omega
    refine hK2.out _ _ (cw4) (fun hHeld => ?_)
    clear hK2 K2
    try simp only [Act.put, List.setIfInBounds_toArray, List.set_cons_zero, List.set_cons_succ]
    refine wpAnyH_take (i := 16) (oi := { dst := some 32, op := Go.Op.slice 32 (Go.Operand.tmp 25) none (some (Go.Operand.tmp 31)) none, type := 32, pos := "law.go:65", after := #[{ on := 9, ground := Go.Ground.data }, { on := 15, ground := Go.Ground.data }], guard := none }) (v := ?_) rfl (by kernel_rfl) (by kernel_rfl) (by kernel_rfl) (fun _ _ _ h => h) (Or.inl ⟨by rfl, ?_⟩) (by assumption) ?_
    rotate_left
    · intro w hSw; (try dsimp only at hSw); go_simp; (try with_reducible rfl)
    simp only [Act.put, List.setIfInBounds_toArray, List.set_cons_zero, List.set_cons_succ]
    refine wpAnyH_take (i := 17) (oi := { dst := some 33, op := Go.Op.indexAddr 22 (Go.Operand.tmp 16) (Go.Operand.tmp 17), type := 0, pos := "law.go:65", after := #[{ on := 0, ground := Go.Ground.data }, { on := 1, ground := Go.Ground.data }, { on := 0, ground := Go.Ground.phase }, { on := 1, ground := Go.Ground.phase }, { on := 2, ground := Go.Ground.phase }, { on := 3, ground := Go.Ground.phase }, { on := 4, ground := Go.Ground.phase }, { on := 5, ground := Go.Ground.phase }, { on := 6, ground := Go.Ground.phase }, { on := 7, ground := Go.Ground.phase }, { on := 8, ground := Go.Ground.phase }, { on := 9, ground := Go.Ground.phase }, { on := 10, ground := Go.Ground.phase }, { on := 11, ground := Go.Ground.phase }, { on := 12, ground := Go.Ground.phase }, { on := 13, ground := Go.Ground.phase }, { on := 14, ground := Go.Ground.phase }, { on := 15, ground := Go.Ground.phase }, { on := 16, ground := Go.Ground.phase }], guard := none }) (v := ?_) rfl (by kernel_rfl) (by kernel_rfl) (by kernel_rfl) (fun _ _ _ h => h) (Or.inl ⟨by rfl, ?_⟩) (by assumption) ?_
    rotate_left
    · intro w hSw; (try dsimp only at hSw); go_simp; (try with_reducible rfl)
    simp only [Act.put, List.setIfInBounds_toArray, List.set_cons_zero, List.set_cons_succ]
    refine wpAnyH_take (i := 18) (oi := { dst := some 34, op := Go.Op.fieldAddr 35 (Go.Operand.tmp 33) 4, type := 0, pos := "law.go:65", after := #[{ on := 17, ground := Go.Ground.data }, { on := 0, ground := Go.Ground.phase }, { on := 1, ground := Go.Ground.phase }, { on := 2, ground := Go.Ground.phase }, { on := 3, ground := Go.Ground.phase }, { on := 4, ground := Go.Ground.phase }, { on := 5, ground := Go.Ground.phase }, { on := 6, ground := Go.Ground.phase }, { on := 7, ground := Go.Ground.phase }, { on := 8, ground := Go.Ground.phase }, { on := 9, ground := Go.Ground.phase }, { on := 10, ground := Go.Ground.phase }, { on := 11, ground := Go.Ground.phase }, { on := 12, ground := Go.Ground.phase }, { on := 13, ground := Go.Ground.phase }, { on := 14, ground := Go.Ground.phase }, { on := 15, ground := Go.Ground.phase }, { on := 16, ground := Go.Ground.phase }], guard := none }) (v := ?_) rfl (by kernel_rfl) (by kernel_rfl) (by kernel_rfl) (fun _ _ _ h => h) (Or.inl ⟨by rfl, ?_⟩) (by assumption) ?_
    rotate_left
    · intro w hSw; (try dsimp only at hSw); go_simp; (try with_reducible rfl)
    simp only [Act.put, List.setIfInBounds_toArray, List.set_cons_zero, List.set_cons_succ]
    refine wpAnyH_ready (rs := [19]) (by kernel_rfl) (by simp) ?_
    refine AllReadyH.cons (o := { dst := none, op := Go.Op.store 32 (Go.Operand.tmp 34) (Go.Operand.tmp 32), type := 0, pos := "law.go:65", after := #[{ on := 18, ground := Go.Ground.data }, { on := 16, ground := Go.Ground.data }, { on := 9, ground := Go.Ground.chain }, { on := 0, ground := Go.Ground.phase }, { on := 1, ground := Go.Ground.phase }, { on := 2, ground := Go.Ground.phase }, { on := 3, ground := Go.Ground.phase }, { on := 4, ground := Go.Ground.phase }, { on := 5, ground := Go.Ground.phase }, { on := 6, ground := Go.Ground.phase }, { on := 7, ground := Go.Ground.phase }, { on := 8, ground := Go.Ground.phase }, { on := 9, ground := Go.Ground.phase }, { on := 10, ground := Go.Ground.phase }, { on := 11, ground := Go.Ground.phase }, { on := 12, ground := Go.Ground.phase }, { on := 13, ground := Go.Ground.phase }, { on := 14, ground := Go.Ground.phase }, { on := 15, ground := Go.Ground.phase }, { on := 16, ground := Go.Ground.phase }], guard := none }) rfl (fun K2 hK2 => ?_) AllReadyH.nil
    have fM := frozen_of_row w4 M (i * 8 + 4) _ _ XM4.out
    have cM := cell_heapS (i := i * 8 + 4) XM4.out hcM
    have hgc := grown_cell w4 M (i * 8 + 4) (.slice (some ⟨G, 0, none⟩) kn c4)
    go_simp
    refine hK2.out _ _ (hgc.cell cw4 (by simp [hMg])) (fun hHeld => ?_)
    clear hK2 K2
    try simp only [Act.put, List.setIfInBounds_toArray, List.set_cons_zero, List.set_cons_succ]
    refine wpAnyH_done (by kernel_rfl) ?_ _
    refine NoPanic.normal ?_
    refine HK.out _ _ _ _ _ _ _ _ _ _ _ _ _ _ _ _ _ _ _ _ G c4 ⟨heap_setCell_same w4 M (i * 8 + 4) _ _ _ XM4.out, grown_row23 G4.out hgc, by omega, OW4.out.kept hgc (fun e => by have := Option.some.inj e; omega)⟩
  · refine AllReadyH.cons (o := { dst := some 24, op := Go.Op.buildSlice 32 1 #[(0, Go.Operand.const (Go.Value.int Go.IntKind.u8 201))], type := 32, pos := "law.go:65", after := #[], guard := none }) rfl (fun K2 hK2 => ?_) AllReadyH.nil
    go_simp
    refine hK2.out _ _ (cell_keptS cw (grown_trans (World.grownBy_alloc wr (.cells #[.int .u8 201] 5) none) ((Qt.refl _).drew.grown none))) (fun hHeld => ?_)
    clear hK2 K2
    try simp only [Act.put, List.setIfInBounds_toArray, List.set_cons_zero, List.set_cons_succ]
    have G1 := hid_intro (grown_trans (World.grownBy_alloc wr (.cells #[.int .u8 201] 5) none) ((Qt.refl _).drew.grown none))
    have C1 : Hid (∀ j u, [Value.int .u8 201][j]? = some u → (wr.alloc (.cells #[.int .u8 201] 5)).drew.cell? ((⟨wr.heap.size, 0, none⟩ : Addr).add j) = some u) := cell_one_new wr (.int .u8 201) 5
    have s1 : (wr.alloc (.cells #[.int .u8 201] 5)).drew.heap.size = wr.heap.size + 1 := size_allocD wr (.cells #[.int .u8 201] 5)
    generalize (wr.alloc (.cells #[.int .u8 201] 5)).drew = w1 at *
    refine wpAnyH_ready (rs := [7]) (by kernel_rfl) (by simp) ?_
    refine AllReadyH.cons (o := { dst := some 23, op := Go.Op.call { callee := Go.Callee.value (Go.Operand.func 16), args := #[Go.Operand.tmp 22], argTypes := #[32] }, type := 32, pos := "law.go:65", after := #[{ on := 6, ground := Go.Ground.data }], guard := none }) rfl (fun K2 hK2 => ?_) AllReadyH.nil
    go_simp
    go_at_call 16
    refine (refBytes_any ka kn kc zs w1 (HB.out.keptN G1.out) (by omega)).mono ?_
    rintro en w3 ⟨rfl, hown2, hg2, hs2⟩
    have O3 := hid_intro hown2
    have G3 := hid_intro (grown_trans G1.out hg2)
    have C3 : Hid (∀ j u, [Value.int .u8 201][j]? = some u → w3.cell? ((⟨wr.heap.size, 0, none⟩ : Addr).add j) = some u) := fun j u hu => hg2.cell (C1.out j u hu) (by simp)
    have cw2 := cell_keptS cw G3.out
    clear hown2 hg2
    refine hK2.out _ _ (cw2) (fun hHeld => ?_)
    clear hK2 K2
    try simp only [Act.put, List.setIfInBounds_toArray, List.set_cons_zero, List.set_cons_succ]
    obtain ⟨B2, hB2⟩ : ∃ B, w1.heap.size = B := ⟨_, rfl⟩
    rw [hB2] at O3 ⊢
    obtain ⟨D, hD⟩ : ∃ D, wr.heap.size = D := ⟨_, rfl⟩
    rw [hD] at C3 ⊢
    have hdr : wr.drew.heap.size = wr.heap.size := rfl
    refine wpAnyH_ready (rs := [9]) (by kernel_rfl) (by simp) ?_
    refine AllReadyH.cons (o := { dst := some 25, op := Go.Op.call { callee := Go.Callee.builtin Go.Builtin.append, args := #[Go.Operand.tmp 23, Go.Operand.tmp 24], argTypes := #[32, 32] }, type := 32, pos := "law.go:65", after := #[{ on := 7, ground := Go.Ground.data }, { on := 8, ground := Go.Ground.data }, { on := 7, ground := Go.Ground.chain }], guard := none }) rfl (fun K2 hK2 => ?_) AllReadyH.nil
    obtain ⟨i0, hi, hz0, hz1, hz2⟩ := info_parts info_u8
    refine step_append_own23 rfl (.tmp 23) (.tmp 24) 32 (by rfl) _ 5 i0 (.int .u8 0) 1 1 Tryz.underlying32 hi hz0 hz1 hz2 rfl (by decide) _ kn (zs.map (Value.int .u8)) (by rfl) O3.out ⟨D, 0, none⟩ 1 1 [.int .u8 201] (by rfl) (by rfl) C3.out (by intro u hu; simp at hu; subst hu; rfl) (by unfold maxLen; omega) (by omega) (by omega) ?_
    intro v4 w4 ho4 hg4
    have ho4' : w4.ownsRow B2 5 1 v4 (kn + 1) ((zs ++ [201]).map (Value.int .u8)) := by rw [List.map_append]; exact ho4
    obtain ⟨G, c4, rfl, hGb, hGl, hGc⟩ := owns_shape ho4' (by omega)
    have OW4 := hid_intro (Ow.of_owns ho4').1
    have G4 := hid_intro (grown_new (R := B2) G3.out hg4 (by omega))
    have XM4 := hid_intro (heap_keptS XM.out G4.out)
    have cw4 := cell_keptS cw G4.out
    clear ho4 hg4 ho4'
    have q4 : (kn : Int) ≤ (c4 : Int) := by omega
    refine hK2.out _ _ (cw4) (fun hHeld => ?_)
    clear hK2 K2
    try simp only [Act.put, List.setIfInBounds_toArray, List.set_cons_zero, List.set_cons_succ]
    refine wpAnyH_take (i := 16) (oi := { dst := some 32, op := Go.Op.slice 32 (Go.Operand.tmp 25) none (some (Go.Operand.tmp 31)) none, type := 32, pos := "law.go:65", after := #[{ on := 9, ground := Go.Ground.data }, { on := 15, ground := Go.Ground.data }], guard := none }) (v := ?_) rfl (by kernel_rfl) (by kernel_rfl) (by kernel_rfl) (fun _ _ _ h => h) (Or.inl ⟨by rfl, ?_⟩) (by assumption) ?_
    rotate_left
    · intro w hSw; (try dsimp only at hSw); go_simp; (try with_reducible rfl)
    simp only [Act.put, List.setIfInBounds_toArray, List.set_cons_zero, List.set_cons_succ]
    refine wpAnyH_take (i := 17) (oi := { dst := some 33, op := Go.Op.indexAddr 22 (Go.Operand.tmp 16) (Go.Operand.tmp 17), type := 0, pos := "law.go:65", after := #[{ on := 0, ground := Go.Ground.data }, { on := 1, ground := Go.Ground.data }, { on := 0, ground := Go.Ground.phase }, { on := 1, ground := Go.Ground.phase }, { on := 2, ground := Go.Ground.phase }, { on := 3, ground := Go.Ground.phase }, { on := 4, ground := Go.Ground.phase }, { on := 5, ground := Go.Ground.phase }, { on := 6, ground := Go.Ground.phase }, { on := 7, ground := Go.Ground.phase }, { on := 8, ground := Go.Ground.phase }, { on := 9, ground := Go.Ground.phase }, { on := 10, ground := Go.Ground.phase }, { on := 11, ground := Go.Ground.phase }, { on := 12, ground := Go.Ground.phase }, { on := 13, ground := Go.Ground.phase }, { on := 14, ground := Go.Ground.phase }, { on := 15, ground := Go.Ground.phase }, { on := 16, ground := Go.Ground.phase }], guard := none }) (v := ?_) rfl (by kernel_rfl) (by kernel_rfl) (by kernel_rfl) (fun _ _ _ h => h) (Or.inl ⟨by rfl, ?_⟩) (by assumption) ?_
    rotate_left
    · intro w hSw; (try dsimp only at hSw); go_simp; (try with_reducible rfl)
    simp only [Act.put, List.setIfInBounds_toArray, List.set_cons_zero, List.set_cons_succ]
    refine wpAnyH_take (i := 18) (oi := { dst := some 34, op := Go.Op.fieldAddr 35 (Go.Operand.tmp 33) 4, type := 0, pos := "law.go:65", after := #[{ on := 17, ground := Go.Ground.data }, { on := 0, ground := Go.Ground.phase }, { on := 1, ground := Go.Ground.phase }, { on := 2, ground := Go.Ground.phase }, { on := 3, ground := Go.Ground.phase }, { on := 4, ground := Go.Ground.phase }, { on := 5, ground := Go.Ground.phase }, { on := 6, ground := Go.Ground.phase }, { on := 7, ground := Go.Ground.phase }, { on := 8, ground := Go.Ground.phase }, { on := 9, ground := Go.Ground.phase }, { on := 10, ground := Go.Ground.phase }, { on := 11, ground := Go.Ground.phase }, { on := 12, ground := Go.Ground.phase }, { on := 13, ground := Go.Ground.phase }, { on := 14, ground := Go.Ground.phase }, { on := 15, ground := Go.Ground.phase }, { on := 16, ground := Go.Ground.phase }], guard := none }) (v := ?_) rfl (by kernel_rfl) (by kernel_rfl) (by kernel_rfl) (fun _ _ _ h => h) (Or.inl ⟨by rfl, ?_⟩) (by assumption) ?_
    rotate_left
    · intro w hSw; (try dsimp only at hSw); go_simp; (try with_reducible rfl)
    simp only [Act.put, List.setIfInBounds_toArray, List.set_cons_zero, List.set_cons_succ]
    refine wpAnyH_ready (rs := [19]) (by kernel_rfl) (by simp) ?_
    refine AllReadyH.cons (o := { dst := none, op := Go.Op.store 32 (Go.Operand.tmp 34) (Go.Operand.tmp 32), type := 0, pos := "law.go:65", after := #[{ on := 18, ground := Go.Ground.data }, { on := 16, ground := Go.Ground.data }, { on := 9, ground := Go.Ground.chain }, { on := 0, ground := Go.Ground.phase }, { on := 1, ground := Go.Ground.phase }, { on := 2, ground := Go.Ground.phase }, { on := 3, ground := Go.Ground.phase }, { on := 4, ground := Go.Ground.phase }, { on := 5, ground := Go.Ground.phase }, { on := 6, ground := Go.Ground.phase }, { on := 7, ground := Go.Ground.phase }, { on := 8, ground := Go.Ground.phase }, { on := 9, ground := Go.Ground.phase }, { on := 10, ground := Go.Ground.phase }, { on := 11, ground := Go.Ground.phase }, { on := 12, ground := Go.Ground.phase }, { on := 13, ground := Go.Ground.phase }, { on := 14, ground := Go.Ground.phase }, { on := 15, ground := Go.Ground.phase }, { on := 16, ground := Go.Ground.phase }], guard := none }) rfl (fun K2 hK2 => ?_) AllReadyH.nil
    have fM := frozen_of_row w4 M (i * 8 + 4) _ _ XM4.out
    have cM := cell_heapS (i := i * 8 + 4) XM4.out hcM
    have hgc := grown_cell w4 M (i * 8 + 4) (.slice (some ⟨G, 0, none⟩) kn c4)
    go_simp
    refine hK2.out _ _ (hgc.cell cw4 (by simp [hMg])) (fun hHeld => ?_)
    clear hK2 K2
    try simp only [Act.put, List.setIfInBounds_toArray, List.set_cons_zero, List.set_cons_succ]
    refine wpAnyH_done (by kernel_rfl) ?_ _
    refine NoPanic.normal ?_
    refine HK.out _ _ _ _ _ _ _ _ _ _ _ _ _ _ _ _ _ _ _ _ G c4 ⟨heap_setCell_same w4 M (i * 8 + 4) _ _ _ XM4.out, grown_row23 G4.out hgc, by omega, OW4.out.kept hgc (fun e => by have := Option.some.inj e; omega)⟩
set_option maxHeartbeats 16000000 in
set_option maxRecDepth 100000 in
theorem lent_r6 {y1 y2 y5 y6 y7 y8 y9 y10 y11 y12 y13 y14 y15 y16 y17 y18 y19 y20 y21 y22 y23 y24 y25 y26 y27 y28 y29 y30 y31 y32 y33 y34 y35 y36 y37 y38 y39 y40 y41 y42 y43 y44 y45 y46 y47 y48 y49 y50 y51 y52 y53 y54 y55 y56 y57 y58 y59 y60 y61 y62 y63 y64 y65 y66 y67 y68 y69 y70 y71 y72 y73 y74 y75 y76 y77 y78 y79 y80 y81 y82 y83 y84 y85 y86 y87 y88 y89 y90 y91 y92 y93 y94 y95 y96 : Value} {g off n cap M mc i : Nat} {ka : Option Addr} {kn kc : Nat} {zs : List Int} {cur : Array Value} {wr : World} {K : Act → World → Prop} {Q' : Exit → Act → World → Prop}
    (cw : wr.cell? ⟨g, off + i * 8 + 5, none⟩ = some (.slice ka kn kc)) (hB : Byt wr ka kn kc zs) (hkn : kn ≤ 2097152) (hX : wr.heap[M]? = some (.cells cur 35 (0, 0))) (hcM : ∃ u, cur[i * 8 + 5]? = some u) (hMg : g ≠ M) (hin : i < n)
    (hK : ∀ (v35 v36 v37 v38 v39 v40 v41 v42 v43 v44 v45 v46 v47 v48 v49 v50 v51 v52 v53 : Value) (wx : World) (G c : Nat), LsP wr wx M (i * 8 + 5) cur zs kn G c → K ⟨List.toArray ((.slice (some ⟨g, off, none⟩) n cap) :: y1 :: y2 :: (.slice (some ⟨M, 0, none⟩) (n + 1) mc) :: (.int .i64 (i : Nat)) :: y5 :: y6 :: y7 :: y8 :: y9 :: y10 :: y11 :: y12 :: y13 :: y14 :: y15 :: y16 :: y17 :: y18 :: y19 :: y20 :: y21 :: y22 :: y23 :: y24 :: y25 :: y26 :: y27 :: y28 :: y29 :: y30 :: y31 :: y32 :: y33 :: y34 :: v35 :: v36 :: v37 :: v38 :: v39 :: v40 :: v41 :: v42 :: v43 :: v44 :: v45 :: v46 :: v47 :: v48 :: v49 :: v50 :: v51 :: v52 :: v53 :: y54 :: y55 :: y56 :: y57 :: y58 :: y59 :: y60 :: y61 :: y62 :: y63 :: y64 :: y65 :: y66 :: y67 :: y68 :: y69 :: y70 :: y71 :: y72 :: y73 :: y74 :: y75 :: y76 :: y77 :: y78 :: y79 :: y80 :: y81 :: y82 :: y83 :: y84 :: y85 :: y86 :: y87 :: y88 :: y89 :: y90 :: y91 :: y92 :: y93 :: y94 :: y95 :: y96 :: []), []⟩ wx) :
    Code.wp Tryz.prog (Go.Code.region 6 #[{ dst := some 35, op := Go.Op.move (Go.Operand.tmp 3), type := 22, pos := "law.go:66", after := #[], guard := none }, { dst := some 36, op := Go.Op.move (Go.Operand.tmp 4), type := 3, pos := "law.go:66", after := #[], guard := none }, { dst := some 37, op := Go.Op.move (Go.Operand.tmp 0), type := 22, pos := "law.go:66", after := #[], guard := none }, { dst := some 38, op := Go.Op.move (Go.Operand.tmp 4), type := 3, pos := "law.go:66", after := #[], guard := none }, { dst := some 39, op := Go.Op.indexAddr 22 (Go.Operand.tmp 37) (Go.Operand.tmp 38), type := 0, pos := "law.go:66", after := #[{ on := 2, ground := Go.Ground.data }, { on := 3, ground := Go.Ground.data }], guard := none }, { dst := some 40, op := Go.Op.fieldAddr 35 (Go.Operand.tmp 39) 5, type := 0, pos := "law.go:66", after := #[{ on := 4, ground := Go.Ground.data }], guard := none }, { dst := some 41, op := Go.Op.load 32 (Go.Operand.tmp 40), type := 32, pos := "law.go:66", after := #[{ on := 5, ground := Go.Ground.data }], guard := none }, { dst := some 42, op := Go.Op.call { callee := Go.Callee.value (Go.Operand.func 16), args := #[Go.Operand.tmp 41], argTypes := #[32] }, type := 32, pos := "law.go:66", after := #[{ on := 6, ground := Go.Ground.data }], guard := none }, { dst := some 43, op := Go.Op.buildSlice 32 1 #[(0, Go.Operand.const (Go.Value.int Go.IntKind.u8 201))], type := 32, pos := "law.go:66", after := #[], guard := none }, { dst := some 44, op := Go.Op.call { callee := Go.Callee.builtin Go.Builtin.append, args := #[Go.Operand.tmp 42, Go.Operand.tmp 43], argTypes := #[32, 32] }, type := 32, pos := "law.go:66", after := #[{ on := 7, ground := Go.Ground.data }, { on := 8, ground := Go.Ground.data }, { on := 7, ground := Go.Ground.chain }], guard := none }, { dst := some 45, op := Go.Op.move (Go.Operand.tmp 0), type := 22, pos := "law.go:66", after := #[], guard := none }, { dst := some 46, op := Go.Op.move (Go.Operand.tmp 4), type := 3, pos := "law.go:66", after := #[], guard := none }, { dst := some 47, op := Go.Op.indexAddr 22 (Go.Operand.tmp 45) (Go.Operand.tmp 46), type := 0, pos := "law.go:66", after := #[{ on := 10, ground := Go.Ground.data }, { on := 11, ground := Go.Ground.data }], guard := none }, { dst := some 48, op := Go.Op.fieldAddr 35 (Go.Operand.tmp 47) 5, type := 0, pos := "law.go:66", after := #[{ on := 12, ground := Go.Ground.data }], guard := none }, { dst := some 49, op := Go.Op.load 32 (Go.Operand.tmp 48), type := 32, pos := "law.go:66", after := #[{ on := 13, ground := Go.Ground.data }], guard := none }, { dst := some 50, op := Go.Op.call { callee := Go.Callee.builtin Go.Builtin.len, args := #[Go.Operand.tmp 49], argTypes := #[32] }, type := 3, pos := "law.go:66", after := #[{ on := 14, ground := Go.Ground.data }], guard := none }, { dst := some 51, op := Go.Op.slice 32 (Go.Operand.tmp 44) none (some (Go.Operand.tmp 50)) none, type := 32, pos := "law.go:66", after := #[{ on := 9, ground := Go.Ground.data }, { on := 15, ground := Go.Ground.data }], guard := none }, { dst := some 52, op := Go.Op.indexAddr 22 (Go.Operand.tmp 35) (Go.Operand.tmp 36), type := 0, pos := "law.go:66", after := #[{ on := 0, ground := Go.Ground.data }, { on := 1, ground := Go.Ground.data }, { on := 0, ground := Go.Ground.phase }, { on := 1, ground := Go.Ground.phase }, { on := 2, ground := Go.Ground.phase }, { on := 3, ground := Go.Ground.phase }, { on := 4, ground := Go.Ground.phase }, { on := 5, ground := Go.Ground.phase }, { on := 6, ground := Go.Ground.phase }, { on := 7, ground := Go.Ground.phase }, { on := 8, ground := Go.Ground.phase }, { on := 9, ground := Go.Ground.phase }, { on := 10, ground := Go.Ground.phase }, { on := 11, ground := Go.Ground.phase }, { on := 12, ground := Go.Ground.phase }, { on := 13, ground := Go.Ground.phase }, { on := 14, ground := Go.Ground.phase }, { on := 15, ground := Go.Ground.phase }, { on := 16, ground := Go.Ground.phase }], guard := none }, { dst := some 53, op := Go.Op.fieldAddr 35 (Go.Operand.tmp 52) 5, type := 0, pos := "law.go:66", after := #[{ on := 17, ground := Go.Ground.data }, { on := 0, ground := Go.Ground.phase }, { on := 1, ground := Go.Ground.phase }, { on := 2, ground := Go.Ground.phase }, { on := 3, ground := Go.Ground.phase }, { on := 4, ground := Go.Ground.phase }, { on := 5, ground := Go.Ground.phase }, { on := 6, ground := Go.Ground.phase }, { on := 7, ground := Go.Ground.phase }, { on := 8, ground := Go.Ground.phase }, { on := 9, ground := Go.Ground.phase }, { on := 10, ground := Go.Ground.phase }, { on := 11, ground := Go.Ground.phase }, { on := 12, ground := Go.Ground.phase }, { on := 13, ground := Go.Ground.phase }, { on := 14, ground := Go.Ground.phase }, { on := 15, ground := Go.Ground.phase }, { on := 16, ground := Go.Ground.phase }], guard := none }, { dst := none, op := Go.Op.store 32 (Go.Operand.tmp 53) (Go.Operand.tmp 51), type := 0, pos := "law.go:66", after := #[{ on := 18, ground := Go.Ground.data }, { on := 16, ground := Go.Ground.data }, { on := 9, ground := Go.Ground.chain }, { on := 0, ground := Go.Ground.phase }, { on := 1, ground := Go.Ground.phase }, { on := 2, ground := Go.Ground.phase }, { on := 3, ground := Go.Ground.phase }, { on := 4, ground := Go.Ground.phase }, { on := 5, ground := Go.Ground.phase }, { on := 6, ground := Go.Ground.phase }, { on := 7, ground := Go.Ground.phase }, { on := 8, ground := Go.Ground.phase }, { on := 9, ground := Go.Ground.phase }, { on := 10, ground := Go.Ground.phase }, { on := 11, ground := Go.Ground.phase }, { on := 12, ground := Go.Ground.phase }, { on := 13, ground := Go.Ground.phase }, { on := 14, ground := Go.Ground.phase }, { on := 15, ground := Go.Ground.phase }, { on := 16, ground := Go.Ground.phase }], guard := none }] true) (Exit.then K Q') ⟨List.toArray ((.slice (some ⟨g, off, none⟩) n cap) :: y1 :: y2 :: (.slice (some ⟨M, 0, none⟩) (n + 1) mc) :: (.int .i64 (i : Nat)) :: y5 :: y6 :: y7 :: y8 :: y9 :: y10 :: y11 :: y12 :: y13 :: y14 :: y15 :: y16 :: y17 :: y18 :: y19 :: y20 :: y21 :: y22 :: y23 :: y24 :: y25 :: y26 :: y27 :: y28 :: y29 :: y30 :: y31 :: y32 :: y33 :: y34 :: y35 :: y36 :: y37 :: y38 :: y39 :: y40 :: y41 :: y42 :: y43 :: y44 :: y45 :: y46 :: y47 :: y48 :: y49 :: y50 :: y51 :: y52 :: y53 :: y54 :: y55 :: y56 :: y57 :: y58 :: y59 :: y60 :: y61 :: y62 :: y63 :: y64 :: y65 :: y66 :: y67 :: y68 :: y69 :: y70 :: y71 :: y72 :: y73 :: y74 :: y75 :: y76 :: y77 :: y78 :: y79 :: y80 :: y81 :: y82 :: y83 :: y84 :: y85 :: y86 :: y87 :: y88 :: y89 :: y90 :: y91 :: y92 :: y93 :: y94 :: y95 :: y96 :: []), []⟩ wr := by
  have HK := hid_intro hK
  have HB := hid_intro hB
  have XM := hid_intro hX
  clear hK hB hX
  obtain ⟨u0, hcM⟩ := hcM
  have e1 : (i : Int) < (n : Int) := by omega
  have e2 : (0 : Int) ≤ (i : Int) := by omega
  have e3 : (i : Int) < (n : Int) + 1 := by omega
  have e4 : (0 : Int) ≤ (kn : Int) := by omega
  have hgl : g < wr.heap.size := cell_lt23 cw
  have hMl : M < wr.heap.size := (Array.getElem?_eq_some_iff.1 XM.out).1
  try dsimp only
  refine wp_region_noPanic ?_
  refine wp_region_held_drew (S := (fun w' => w'.cell? ⟨g, off + i * 8 + 5, none⟩ = some (.slice ka kn kc))) (by kernel_rfl) ?_ (fun hHeld => ?_)
  · exact cw
  refine wpAnyH_take (i := 0) (oi := { dst := some 35, op := Go.Op.move (Go.Operand.tmp 3), type := 22, pos := "law.go:66", after := #[], guard := none }) (v := ?_) rfl (by kernel_rfl) (by kernel_rfl) (by kernel_rfl) (fun _ _ _ h => h) (Or.inl ⟨by rfl, ?_⟩) (by assumption) ?_
  rotate_left
  · intro w hSw; (try dsimp only at hSw); go_simp; (try with_reducible rfl)
  simp only [Act.put, List.setIfInBounds_toArray, List.set_cons_zero, List.set_cons_succ]
  refine wpAnyH_take (i := 1) (oi := { dst := some 36, op := Go.Op.move (Go.Operand.tmp 4), type := 3, pos := "law.go:66", after := #[], guard := none }) (v := ?_) rfl (by kernel_rfl) (by kernel_rfl) (by kernel_rfl) (fun _ _ _ h => h) (Or.inl ⟨by rfl, ?_⟩) (by assumption) ?_
  rotate_left
  · intro w hSw; (try dsimp only at hSw); go_simp; (try with_reducible rfl)
  simp only [Act.put, List.setIfInBounds_toArray, List.set_cons_zero, List.set_cons_succ]
  refine wpAnyH_take (i := 2) (oi := { dst := some 37, op := Go.Op.move (Go.Operand.tmp 0), type := 22, pos := "law.go:66", after := #[], guard := none }) (v := ?_) rfl (by kernel_rfl) (by kernel_rfl) (by kernel_rfl) (fun _ _ _ h => h) (Or.inl ⟨by rfl, ?_⟩) (by assumption) ?_
  rotate_left
  · intro w hSw; (try dsimp only at hSw); go_simp; (try with_reducible rfl)
  simp only [Act.put, List.setIfInBounds_toArray, List.set_cons_zero, List.set_cons_succ]
  refine wpAnyH_take (i := 3) (oi := { dst := some 38, op := Go.Op.move (Go.Operand.tmp 4), type := 3, pos := "law.go:66", after := #[], guard := none }) (v := ?_) rfl (by kernel_rfl) (by kernel_rfl) (by kernel_rfl) (fun _ _ _ h => h) (Or.inl ⟨by rfl, ?_⟩) (by assumption) ?_
  rotate_left
  · intro w hSw; (try dsimp only at hSw); go_simp; (try with_reducible rfl)
  simp only [Act.put, List.setIfInBounds_toArray, List.set_cons_zero, List.set_cons_succ]
  refine wpAnyH_take (i := 4) (oi := { dst := some 39, op := Go.Op.indexAddr 22 (Go.Operand.tmp 37) (Go.Operand.tmp 38), type := 0, pos := "law.go:66", after := #[{ on := 2, ground := Go.Ground.data }, { on := 3, ground := Go.Ground.data }], guard := none }) (v := ?_) rfl (by kernel_rfl) (by kernel_rfl) (by kernel_rfl) (fun _ _ _ h => h) (Or.inl ⟨by rfl, ?_⟩) (by assumption) ?_
  rotate_left
  · intro w hSw; (try dsimp only at hSw); go_simp; (try with_reducible rfl)
  simp only [Act.put, List.setIfInBounds_toArray, List.set_cons_zero, List.set_cons_succ]
  refine wpAnyH_take (i := 5) (oi := { dst := some 40, op := Go.Op.fieldAddr 35 (Go.Operand.tmp 39) 5, type := 0, pos := "law.go:66", after := #[{ on := 4, ground := Go.Ground.data }], guard := none }) (v := ?_) rfl (by kernel_rfl) (by kernel_rfl) (by kernel_rfl) (fun _ _ _ h => h) (Or.inl ⟨by rfl, ?_⟩) (by assumption) ?_
  rotate_left
  · intro w hSw; (try dsimp only at hSw); go_simp; (try with_reducible rfl)
  simp only [Act.put, List.setIfInBounds_toArray, List.set_cons_zero, List.set_cons_succ]
  refine wpAnyH_take (i := 6) (oi := { dst := some 41, op := Go.Op.load 32 (Go.Operand.tmp 40), type := 32, pos := "law.go:66", after := #[{ on := 5, ground := Go.Ground.data }], guard := none }) (v := ?_) rfl (by kernel_rfl) (by kernel_rfl) (by kernel_rfl) (fun _ _ _ h => h) (Or.inl ⟨by rfl, ?_⟩) (by assumption) ?_
  rotate_left
  · intro w hSw; (try dsimp only at hSw); go_simp; (try with_reducible rfl)
  simp only [Act.put, List.setIfInBounds_toArray, List.set_cons_zero, List.set_cons_succ]
  refine wpAnyH_take (i := 10) (oi := { dst := some 45, op := Go.Op.move (Go.Operand.tmp 0), type := 22, pos := "law.go:66", after := #[], guard := none }) (v := ?_) rfl (by kernel_rfl) (by kernel_rfl) (by kernel_rfl) (fun _ _ _ h => h) (Or.inl ⟨by rfl, ?_⟩) (by assumption) ?_
  rotate_left
  · intro w hSw; (try dsimp only at hSw); go_simp; (try with_reducible rfl)
  simp only [Act.put, List.setIfInBounds_toArray, List.set_cons_zero, List.set_cons_succ]
  refine wpAnyH_take (i := 11) (oi := { dst := some 46, op := Go.Op.move (Go.Operand.tmp 4), type := 3, pos := "law.go:66", after := #[], guard := none }) (v := ?_) rfl (by kernel_rfl) (by kernel_rfl) (by kernel_rfl) (fun _ _ _ h => h) (Or.inl ⟨by rfl, ?_⟩) (by assumption) ?_
  rotate_left
  · intro w hSw; (try dsimp only at hSw); go_simp; (try with_reducible rfl)
  simp only [Act.put, List.setIfInBounds_toArray, List.set_cons_zero, List.set_cons_succ]
  refine wpAnyH_take (i := 12) (oi := { dst := some 47, op := Go.Op.indexAddr 22 (Go.Operand.tmp 45) (Go.Operand.tmp 46), type := 0, pos := "law.go:66", after := #[{ on := 10, ground := Go.Ground.data }, { on := 11, ground := Go.Ground.data }], guard := none }) (v := ?_) rfl (by kernel_rfl) (by kernel_rfl) (by kernel_rfl) (fun _ _ _ h => h) (Or.inl ⟨by rfl, ?_⟩) (by assumption) ?_
  rotate_left
  · intro w hSw; (try dsimp only at hSw); go_simp; (try with_reducible rfl)
  simp only [Act.put, List.setIfInBounds_toArray, List.set_cons_zero, List.set_cons_succ]
  refine wpAnyH_take (i := 13) (oi := { dst := some 48, op := Go.Op.fieldAddr 35 (Go.Operand.tmp 47) 5, type := 0, pos := "law.go:66", after := #[{ on := 12, ground := Go.Ground.data }], guard := none }) (v := ?_) rfl (by kernel_rfl) (by kernel_rfl) (by kernel_rfl) (fun _ _ _ h => h) (Or.inl ⟨by rfl, ?_⟩) (by assumption) ?_
  rotate_left
  · intro w hSw; (try dsimp only at hSw); go_simp; (try with_reducible rfl)
  simp only [Act.put, List.setIfInBounds_toArray, List.set_cons_zero, List.set_cons_succ]
  refine wpAnyH_take (i := 14) (oi := { dst := some 49, op := Go.Op.load 32 (Go.Operand.tmp 48), type := 32, pos := "law.go:66", after := #[{ on := 13, ground := Go.Ground.data }], guard := none }) (v := ?_) rfl (by kernel_rfl) (by kernel_rfl) (by kernel_rfl) (fun _ _ _ h => h) (Or.inl ⟨by rfl, ?_⟩) (by assumption) ?_
  rotate_left
  · intro w hSw; (try dsimp only at hSw); go_simp; (try with_reducible rfl)
  simp only [Act.put, List.setIfInBounds_toArray, List.set_cons_zero, List.set_cons_succ]
  refine wpAnyH_take (i := 15) (oi := { dst := some 50, op := Go.Op.call { callee := Go.Callee.builtin Go.Builtin.len, args := #[Go.Operand.tmp 49], argTypes := #[32] }, type := 3, pos := "law.go:66", after := #[{ on := 14, ground := Go.Ground.data }], guard := none }) (v := ?_) rfl (by kernel_rfl) (by kernel_rfl) (by kernel_rfl) (fun _ _ _ h => h) (Or.inl ⟨by rfl, ?_⟩) (by assumption) ?_
  rotate_left
  · intro w hSw; (try dsimp only at hSw); go_simp; (try with_reducible rfl)
  simp only [Act.put, List.setIfInBounds_toArray, List.set_cons_zero, List.set_cons_succ]
  refine wpAnyH_ready (rs := [7, 8]) (by kernel_rfl) (by simp) ?_
  refine AllReadyH.cons (o := { dst := some 42, op := Go.Op.call { callee := Go.Callee.value (Go.Operand.func 16), args := #[Go.Operand.tmp 41], argTypes := #[32] }, type := 32, pos := "law.go:66", after := #[{ on := 6, ground := Go.Ground.data }], guard := none }) rfl (fun K2 hK2 => ?_) ?_
  · go_simp
    go_at_call 16
    refine (refBytes_any ka kn kc zs wr.drew (HB.out.heap rfl) (by omega)).mono ?_
    rintro en w2 ⟨rfl, hown2, hg2, hs2⟩
    have O2 := hid_intro hown2
    have G2 := hid_intro (grown_undrew hg2)
    have cw2 := cell_keptS cw G2.out
    clear hown2 hg2
    refine hK2.out _ _ (cw2) (fun hHeld => ?_)
    clear hK2 K2
    try simp only [Act.put, List.setIfInBounds_toArray, List.set_cons_zero, List.set_cons_succ]
    refine wpAnyH_ready (rs := [8]) (by kernel_rfl) (by simp) ?_
    refine AllReadyH.cons (o := { dst := some 43, op := Go.Op.buildSlice 32 1 #[(0, Go.Operand.const (Go.Value.int Go.IntKind.u8 201))], type := 32, pos := "law.go:66", after := #[], guard := none }) rfl (fun K2 hK2 => ?_) AllReadyH.nil
    go_simp
    refine hK2.out _ _ (cell_keptS cw2 (World.grownBy_alloc w2 (.cells #[.int .u8 201] 5) none)) (fun hHeld => ?_)
    clear hK2 K2
    try simp only [Act.put, List.setIfInBounds_toArray, List.set_cons_zero, List.set_cons_succ]
    have O3 := hid_intro (O2.out.alloc (.cells #[.int .u8 201] 5))
    have G3 := hid_intro (grown_trans G2.out (World.grownBy_alloc w2 (.cells #[.int .u8 201] 5) none))
    have C3 := hid_intro (cell_one_new w2 (.int .u8 201) 5)
    have s3 := size_allocD w2 (.cells #[.int .u8 201] 5)
    generalize w2.alloc (.cells #[.int .u8 201] 5) = w3 at *
    rw [show wr.drew.heap.size = wr.heap.size from rfl] at O3
    obtain ⟨B2, hB2⟩ : ∃ B, wr.heap.size = B := ⟨_, rfl⟩
    rw [hB2] at O3 ⊢
    obtain ⟨D, hD⟩ : ∃ D, w2.heap.size = D := ⟨_, rfl⟩
    rw [hD] at C3 ⊢
    have hdr : wr.drew.heap.size = wr.heap.size := rfl
    refine wpAnyH_ready (rs := [9]) (by kernel_rfl) (by simp) ?_
    refine AllReadyH.cons (o := { dst := some 44, op := Go.Op.call { callee := Go.Callee.builtin Go.Builtin.append, args := #[Go.Operand.tmp 42, Go.Operand.tmp 43], argTypes := #[32, 32] }, type := 32, pos := "law.go:66", after := #[{ on := 7, ground := Go.Ground.data }, { on := 8, ground := Go.Ground.data }, { on := 7, ground := Go.Ground.chain }], guard := none }) rfl (fun K2 hK2 => ?_) AllReadyH.nil
    obtain ⟨i0, hi, hz0, hz1, hz2⟩ := info_parts info_u8
    refine step_append_own23 rfl (.tmp 42) (.tmp 43) 32 (by rfl) _ 5 i0 (.int .u8 0) 1 1 Tryz.underlying32 hi hz0 hz1 hz2 rfl (by decide) _ kn (zs.map (Value.int .u8)) (by rfl) O3.out ⟨D, 0, none⟩ 1 1 [.int .u8 201] (by rfl) (by rfl) C3.out (by intro u hu; simp at hu; subst hu; rfl) (by unfold maxLen; omega) (by omega) (by omega) ?_
    intro v4 w4 ho4 hg4
    have ho4' : w4.ownsRow B2 5 1 v4 (kn + 1) ((zs ++ [201]).map (Value.int .u8)) := by rw [List.map_append]; exact ho4
    obtain ⟨G, c4, rfl, hGb, hGl, hGc⟩ := owns_shape ho4' (by omega)
    have OW4 := hid_intro (Ow.of_owns ho4').1
    have G4 := hid_intro (grown_new (R := B2) G3.out hg4 (by omega))
    have XM4 := hid_intro (heap_keptS XM.out G4.out)
    have cw4 := cell_keptS cw G4.out
    clear ho4 hg4 ho4'
    have q4 : (kn : Int) ≤ (c4 : Int) := by omega
    refine hK2.out _ _ (cw4) (fun hHeld => ?_)
    clear hK2 K2
    try simp only [Act.put, List.setIfInBounds_toArray, List.set_cons_zero, List.set_cons_succ]
    refine wpAnyH_take (i := 16) (oi := { dst := some 51, op := Go.Op.slice 32 (Go.Operand.tmp 44) none (some (Go.Operand.tmp 50)) none, type := 32, pos := "law.go:66", after := #[{ on := 9, ground := Go.Ground.data }, { on := 15, ground := Go.Ground.data }], guard := none }) (v := ?_) rfl (by kernel_rfl) (by kernel_rfl) (by kernel_rfl) (fun _ _ _ h => h) (Or.inl ⟨by rfl, ?_⟩) (by assumption) ?_
    rotate_left
    · intro w hSw; (try dsimp only at hSw); go_simp; (try with_reducible rfl)
    simp only [Act.put, List.setIfInBounds_toArray, List.set_cons_zero, List.set_cons_succ]
    refine wpAnyH_take (i := 17) (oi := { dst := some 52, op := Go.Op.indexAddr 22 (Go.Operand.tmp 35) (Go.Operand.tmp 36), type := 0, pos := "law.go:66", after := #[{ on := 0, ground := Go.Ground.data }, { on := 1, ground := Go.Ground.data }, { on := 0, ground := Go.Ground.phase }, { on := 1, ground := Go.Ground.phase }, { on := 2, ground := Go.Ground.phase }, { on := 3, ground := Go.Ground.phase }, { on := 4, ground := Go.Ground.phase }, { on := 5, ground := Go.Ground.phase }, { on := 6, ground := Go.Ground.phase }, { on := 7, ground := Go.Ground.phase }, { on := 8, ground := Go.Ground.phase }, { on := 9, ground := Go.Ground.phase }, { on := 10, ground := Go.Ground.phase }, { on := 11, ground := Go.Ground.phase }, { on := 12, ground := Go.Ground.phase }, { on := 13, ground := Go.Ground.phase }, { on := 14, ground := Go.Ground.phase }, { on := 15, ground := Go.Ground.phase }, { on := 16, ground := Go.Ground.phase }], guard := none }) (v := ?_) rfl (by kernel_rfl) (by kernel_rfl) (by kernel_rfl) (fun _ _ _ h => h) (Or.inl ⟨by rfl, ?_⟩) (by assumption) ?_
    rotate_left
    · intro w hSw; (try dsimp only at hSw); go_simp; (try with_reducible rfl)
    simp only [Act.put, List.setIfInBounds_toArray, List.set_cons_zero, List.set_cons_succ]
    refine wpAnyH_take (i := 18) (oi := { dst := some 53, op := Go.Op.fieldAddr 35 (Go.Operand.tmp 52) 5, type := 0, pos := "law.go:66", after := #[{ on := 17, ground := Go.Ground.data }, { on := 0, ground := Go.Ground.phase }, { on := 1, ground := Go.Ground.phase }, { on := 2, ground := Go.Ground.phase }, { on := 3, ground := Go.Ground.phase }, { on := 4, ground := Go.Ground.phase }, { on := 5, ground := Go.Ground.phase }, { on := 6, ground := Go.Ground.phase }, { on := 7, ground := Go.Ground.phase }, { on := 8, ground := Go.Ground.phase }, { on := 9, ground := Go.Ground.phase }, { on := 10, ground := Go.Ground.phase }, { on := 11, ground := Go.Ground.phase }, { on := 12, ground := Go.Ground.phase }, { on := 13, ground := Go.Ground.phase }, { on := 14, ground := Go.Ground.phase }, { on := 15, ground := Go.Ground.phase }, { on := 16, ground := Go.Ground.phase }], guard := none }) (v := ?_) rfl (by kernel_rfl) (by kernel_rfl) (by kernel_rfl) (fun _ _ _ h => h) (Or.inl ⟨by rfl, ?_⟩) (by assumption) ?_
    rotate_left
    · intro w hSw; (try dsimp only at hSw); go_simp; (try with_reducible rfl)
    simp only [Act.put, List.setIfInBounds_toArray, List.set_cons_zero, List.set_cons_succ]
    refine wpAnyH_ready (rs := [19]) (by kernel_rfl) (by simp) ?_
    refine AllReadyH.cons (o := { dst := none, op := Go.Op.store 32 (Go.Operand.tmp 53) (Go.Operand.tmp 51), type := 0, pos := "law.go:66", after := #[{ on := 18, ground := Go.Ground.data }, { on := 16, ground := Go.Ground.data }, { on := 9, ground := Go.Ground.chain }, { on := 0, ground := Go.Ground.phase }, { on := 1, ground := Go.Ground.phase }, { on := 2, ground := Go.Ground.phase }, { on := 3, ground := Go.Ground.phase }, { on := 4, ground := Go.Ground.phase }, { on := 5, ground := Go.Ground.phase }, { on := 6, ground := Go.Ground.phase }, { on := 7, ground := Go.Ground.phase }, { on := 8, ground := Go.Ground.phase }, { on := 9, ground := Go.Ground.phase }, { on := 10, ground := Go.Ground.phase }, { on := 11, ground := Go.Ground.phase }, { on := 12, ground := Go.Ground.phase }, { on := 13, ground := Go.Ground.phase }, { on := 14, ground := Go.Ground.phase }, { on := 15, ground := Go.Ground.phase }, { on := 16, ground := Go.Ground.phase }], guard := none }) rfl (fun K2 hK2 => ?_) AllReadyH.nil
    have fM := frozen_of_row w4 M (i * 8 + 5) _ _ XM4.out
    have cM := cell_heapS (i := i * 8 + 5) XM4.out hcM
    have hgc := grown_cell w4 M (i * 8 + 5) (.slice (some ⟨G, 0, none⟩) kn c4)
    go_simp
    refine hK2.out _ _ (hgc.cell cw4 (by simp [hMg])) (fun hHeld => ?_)
    clear hK2 K2
    try simp only [Act.put, List.setIfInBounds_toArray, List.set_cons_zero, List.set_cons_succ]
    refine wpAnyH_done (by kernel_rfl) ?_ _
    refine NoPanic.normal ?_
    refine HK.out _ _ _ _ _ _ _ _ _ _ _ _ _ _ _ _ _ _ _ _ G c4 ⟨heap_setCell_same w4 M (i * 8 + 5) _ _ _ XM4.out, grown_row23 G4.out hgc, by omega, OW4.out.kept hgc (fun e => by have := Option.some.inj e; omega)⟩
  · refine AllReadyH.cons (o := { dst := some 43, op := Go.Op.buildSlice 32 1 #[(0, Go.Operand.const (Go.Value.int Go.IntKind.u8 201))], type := 32, pos := "law.go:66", after := #[], guard := none }) rfl (fun K2 hK2 => ?_) AllReadyH.nil
    go_simp
    refine hK2.out _ _ (cell_keptS cw (grown_trans (World.grownBy_alloc wr (.cells #[.int .u8 201] 5) none) ((Qt.refl _).drew.grown none))) (fun hHeld => ?_)
    clear hK2 K2
    try simp only [Act.put, List.setIfInBounds_toArray, List.set_cons_zero, List.set_cons_succ]
    have G1 := hid_intro (grown_trans (World.grownBy_alloc wr (.cells #[.int .u8 201] 5) none) ((Qt.refl _).drew.grown none))
    have C1 : Hid (∀ j u, [Value.int .u8 201][j]? = some u → (wr.alloc (.cells #[.int .u8 201] 5)).drew.cell? ((⟨wr.heap.size, 0, none⟩ : Addr).add j) = some u) := cell_one_new wr (.int .u8 201) 5
    have s1 : (wr.alloc (.cells #[.int .u8 201] 5)).drew.heap.size = wr.heap.size + 1 := size_allocD wr (.cells #[.int .u8 201] 5)
    generalize (wr.alloc (.cells #[.int .u8 201] 5)).drew = w1 at *
    refine wpAnyH_ready (rs := [7]) (by kernel_rfl) (by simp) ?_
    refine AllReadyH.cons (o := { dst := some 42, op := Go.Op.call { callee := Go.Callee.value (Go.Operand.func 16), args := #[Go.Operand.tmp 41], argTypes := #[32] }, type := 32, pos := "law.go:66", after := #[{ on := 6, ground := Go.Ground.data }], guard := none }) rfl (fun K2 hK2 => ?_) AllReadyH.nil
    go_simp
    go_at_call 16
    refine (refBytes_any ka kn kc zs w1 (HB.out.keptN G1.out) (by omega)).mono ?_
    rintro en w3 ⟨rfl, hown2, hg2, hs2⟩
    have O3 := hid_intro hown2
    have G3 := hid_intro (grown_trans G1.out hg2)
    have C3 : Hid (∀ j u, [Value.int .u8 201][j]? = some u → w3.cell? ((⟨wr.heap.size, 0, none⟩ : Addr).add j) = some u) := fun j u hu => hg2.cell (C1.out j u hu) (by simp)
    have cw2 := cell_keptS cw G3.out
    clear hown2 hg2
    refine hK2.out _ _ (cw2) (fun hHeld => ?_)
    clear hK2 K2
    try simp only [Act.put, List.setIfInBounds_toArray, List.set_cons_zero, List.set_cons_succ]
    obtain ⟨B2, hB2⟩ : ∃ B, w1.heap.size = B := ⟨_, rfl⟩
    rw [hB2] at O3 ⊢
    obtain ⟨D, hD⟩ : ∃ D, wr.heap.size = D := ⟨_, rfl⟩
    rw [hD] at C3 ⊢
    have hdr : wr.drew.heap.size = wr.heap.size := rfl
    refine wpAnyH_ready (rs := [9]) (by kernel_rfl) (by simp) ?_
    refine AllReadyH.cons (o := { dst := some 44, op := Go.Op.call { callee := Go.Callee.builtin Go.Builtin.append, args := #[Go.Operand.tmp 42, Go.Operand.tmp 43], argTypes := #[32, 32] }, type := 32, pos := "law.go:66", after := #[{ on := 7, ground := Go.Ground.data }, { on := 8, ground := Go.Ground.data }, { on := 7, ground := Go.Ground.chain }], guard := none }) rfl (fun K2 hK2 => ?_) AllReadyH.nil
    obtain ⟨i0, hi, hz0, hz1, hz2⟩ := info_parts info_u8
    refine step_append_own23 rfl (.tmp 42) (.tmp 43) 32 (by rfl) _ 5 i0 (.int .u8 0) 1 1 Tryz.underlying32 hi hz0 hz1 hz2 rfl (by decide) _ kn (zs.map (Value.int .u8)) (by rfl) O3.out ⟨D, 0, none⟩ 1 1 [.int .u8 201] (by rfl) (by rfl) C3.out (by intro u hu; simp at hu; subst hu; rfl) (by unfold maxLen; omega) (by omega) (by omega) ?_
    intro v4 w4 ho4 hg4
    have ho4' : w4.ownsRow B2 5 1 v4 (kn + 1) ((zs ++ [201]).map (Value.int .u8)) := by rw [List.map_append]; exact ho4
    obtain ⟨G, c4, rfl, hGb, hGl, hGc⟩ := owns_shape ho4' (by omega)
    have OW4 := hid_intro (Ow.of_owns ho4').1
    have G4 := hid_intro (grown_new (R := B2) G3.out hg4 (by omega))
    have XM4 := hid_intro (heap_keptS XM.out G4.out)
    have cw4 := cell_keptS cw G4.out
    clear ho4 hg4 ho4'
    have q4 : (kn : Int) ≤ (c4 : Int) := by omega
    refine hK2.out _ _ (cw4) (fun hHeld => ?_)
    clear hK2 K2
    try simp only [Act.put, List.setIfInBounds_toArray, List.set_cons_zero, List.set_cons_succ]
    refine wpAnyH_take (i := 16) (oi := { dst := some 51, op := Go.Op.slice 32 (Go.Operand.tmp 44) none (some (Go.Operand.tmp 50)) none, type := 32, pos := "law.go:66", after := #[{ on := 9, ground := Go.Ground.data }, { on := 15, ground := Go.Ground.data }], guard := none }) (v := ?_) rfl (by kernel_rfl) (by kernel_rfl) (by kernel_rfl) (fun _ _ _ h => h) (Or.inl ⟨by rfl, ?_⟩) (by assumption) ?_
    rotate_left
    · intro w hSw; (try dsimp only at hSw); go_simp; (try with_reducible rfl)
    simp only [Act.put, List.setIfInBounds_toArray, List.set_cons_zero, List.set_cons_succ]
    refine wpAnyH_take (i := 17) (oi := { dst := some 52, op := Go.Op.indexAddr 22 (Go.Operand.tmp 35) (Go.Operand.tmp 36), type := 0, pos := "law.go:66", after := #[{ on := 0, ground := Go.Ground.data }, { on := 1, ground := Go.Ground.data }, { on := 0, ground := Go.Ground.phase }, { on := 1, ground := Go.Ground.phase }, { on := 2, ground := Go.Ground.phase }, { on := 3, ground := Go.Ground.phase }, { on := 4, ground := Go.Ground.phase }, { on := 5, ground := Go.Ground.phase }, { on := 6, ground := Go.Ground.phase }, { on := 7, ground := Go.Ground.phase }, { on := 8, ground := Go.Ground.phase }, { on := 9, ground := Go.Ground.phase }, { on := 10, ground := Go.Ground.phase }, { on := 11, ground := Go.Ground.phase }, { on := 12, ground := Go.Ground.phase }, { on := 13, ground := Go.Ground.phase }, { on := 14, ground := Go.Ground.phase }, { on := 15, ground := Go.Ground.phase }, { on := 16, ground := Go.Ground.phase }], guard := none }) (v := ?_) rfl (by kernel_rfl) (by kernel_rfl) (by kernel_rfl) (fun _ _ _ h => h) (Or.inl ⟨by rfl, ?_⟩) (by assumption) ?_
    rotate_left
    · intro w hSw; (try dsimp only at hSw); go_simp; (try with_reducible rfl)
    simp only [Act.put, List.setIfInBounds_toArray, List.set_cons_zero, List.set_cons_succ]
    refine wpAnyH_take (i := 18) (oi := { dst := some 53, op := Go.Op.fieldAddr 35 (Go.Operand.tmp 52) 5, type := 0, pos := "law.go:66", after := #[{ on := 17, ground := Go.Ground.data }, { on := 0, ground := Go.Ground.phase }, { on := 1, ground := Go.Ground.phase }, { on := 2, ground := Go.Ground.phase }, { on := 3, ground := Go.Ground.phase }, { on := 4, ground := Go.Ground.phase }, { on := 5, ground := Go.Ground.phase }, { on := 6, ground := Go.Ground.phase }, { on := 7, ground := Go.Ground.phase }, { on := 8, ground := Go.Ground.phase }, { on := 9, ground := Go.Ground.phase }, { on := 10, ground := Go.Ground.phase }, { on := 11, ground := Go.Ground.phase }, { on := 12, ground := Go.Ground.phase }, { on := 13, ground := Go.Ground.phase }, { on := 14, ground := Go.Ground.phase }, { on := 15, ground := Go.Ground.phase }, { on := 16, ground := Go.Ground.phase }], guard := none }) (v := ?_) rfl (by kernel_rfl) (by kernel_rfl) (by kernel_rfl) (fun _ _ _ h => h) (Or.inl ⟨by rfl, ?_⟩) (by assumption) ?_
    rotate_left
    · intro w hSw; (try dsimp only at hSw); go_simp; (try with_reducible rfl)
    simp only [Act.put, List.setIfInBounds_toArray, List.set_cons_zero, List.set_cons_succ]
    refine wpAnyH_ready (rs := [19]) (by kernel_rfl) (by simp) ?_
    refine AllReadyH.cons (o := { dst := none, op := Go.Op.store 32 (Go.Operand.tmp 53) (Go.Operand.tmp 51), type := 0, pos := "law.go:66", after := #[{ on := 18, ground := Go.Ground.data }, { on := 16, ground := Go.Ground.data }, { on := 9, ground := Go.Ground.chain }, { on := 0, ground := Go.Ground.phase }, { on := 1, ground := Go.Ground.phase }, { on := 2, ground := Go.Ground.phase }, { on := 3, ground := Go.Ground.phase }, { on := 4, ground := Go.Ground.phase }, { on := 5, ground := Go.Ground.phase }, { on := 6, ground := Go.Ground.phase }, { on := 7, ground := Go.Ground.phase }, { on := 8, ground := Go.Ground.phase }, { on := 9, ground := Go.Ground.phase }, { on := 10, ground := Go.Ground.phase }, { on := 11, ground := Go.Ground.phase }, { on := 12, ground := Go.Ground.phase }, { on := 13, ground := Go.Ground.phase }, { on := 14, ground := Go.Ground.phase }, { on := 15, ground := Go.Ground.phase }, { on := 16, ground := Go.Ground.phase }], guard := none }) rfl (fun K2 hK2 => ?_) AllReadyH.nil
    have fM := frozen_of_row w4 M (i * 8 + 5) _ _ XM4.out
    have cM := cell_heapS (i := i * 8 + 5) XM4.out hcM
    have hgc := grown_cell w4 M (i * 8 + 5) (.slice (some ⟨G, 0, none⟩) kn c4)
    go_simp
    refine hK2.out _ _ (hgc.cell cw4 (by simp [hMg])) (fun hHeld => ?_)
    clear hK2 K2
    try simp only [Act.put, List.setIfInBounds_toArray, List.set_cons_zero, List.set_cons_succ]
    refine wpAnyH_done (by kernel_rfl) ?_ _
    refine NoPanic.normal ?_
    refine HK.out _ _ _ _ _ _ _ _ _ _ _ _ _ _ _ _ _ _ _ _ G c4 ⟨heap_setCell_same w4 M (i * 8 + 5) _ _ _ XM4.out, grown_row23 G4.out hgc, by omega, OW4.out.kept hgc (fun e => by have := Option.some.inj e; omega)⟩
set_option maxHeartbeats 16000000 in
set_option maxRecDepth 100000 in
theorem lent_r7 {y1 y2 y5 y6 y7 y8 y9 y10 y11 y12 y13 y14 y15 y16 y17 y18 y19 y20 y21 y22 y23 y24 y25 y26 y27 y28 y29 y30 y31 y32 y33 y34 y35 y36 y37 y38 y39 y40 y41 y42 y43 y44 y45 y46 y47 y48 y49 y50 y51 y52 y53 y54 y55 y56 y57 y58 y59 y60 y61 y62 y63 y64 y65 y66 y67 y68 y69 y70 y71 y72 y73 y74 y75 y76 y77 y78 y79 y80 y81 y82 y83 y84 y85 y86 y87 y88 y89 y90 y91 y92 y93 y94 y95 y96 : Value} {g off n cap M mc i : Nat} {ka : Option Addr} {kn kc : Nat} {zs : List Int} {cur : Array Value} {wr : World} {K : Act → World → Prop} {Q' : Exit → Act → World → Prop}
    (cw : wr.cell? ⟨g, off + i * 8 + 6, none⟩ = some (.slice ka kn kc)) (hB : Byt wr ka kn kc zs) (hkn : kn ≤ 2097152) (hX : wr.heap[M]? = some (.cells cur 35 (0, 0))) (hcM : ∃ u, cur[i * 8 + 6]? = some u) (hMg : g ≠ M) (hin : i < n)
    (hK : ∀ (v54 v55 v56 v57 v58 v59 v60 v61 v62 v63 v64 v65 v66 v67 v68 v69 v70 v71 v72 : Value) (wx : World) (G c : Nat), LsP wr wx M (i * 8 + 6) cur zs kn G c → K ⟨List.toArray ((.slice (some ⟨g, off, none⟩) n cap) :: y1 :: y2 :: (.slice (some ⟨M, 0, none⟩) (n + 1) mc) :: (.int .i64 (i : Nat)) :: y5 :: y6 :: y7 :: y8 :: y9 :: y10 :: y11 :: y12 :: y13 :: y14 :: y15 :: y16 :: y17 :: y18 :: y19 :: y20 :: y21 :: y22 :: y23 :: y24 :: y25 :: y26 :: y27 :: y28 :: y29 :: y30 :: y31 :: y32 :: y33 :: y34 :: y35 :: y36 :: y37 :: y38 :: y39 :: y40 :: y41 :: y42 :: y43 :: y44 :: y45 :: y46 :: y47 :: y48 :: y49 :: y50 :: y51 :: y52 :: y53 :: v54 :: v55 :: v56 :: v57 :: v58 :: v59 :: v60 :: v61 :: v62 :: v63 :: v64 :: v65 :: v66 :: v67 :: v68 :: v69 :: v70 :: v71 :: v72 :: y73 :: y74 :: y75 :: y76 :: y77 :: y78 :: y79 :: y80 :: y81 :: y82 :: y83 :: y84 :: y85 :: y86 :: y87 :: y88 :: y89 :: y90 :: y91 :: y92 :: y93 :: y94 :: y95 :: y96 :: []), []⟩ wx) :
    Code.wp Tryz.prog (Go.Code.region 7 #[{ dst := some 54, op := Go.Op.move (Go.Operand.tmp 3), type := 22, pos := "law.go:67", after := #[], guard := none }, { dst := some 55, op := Go.Op.move (Go.Operand.tmp 4), type := 3, pos := "law.go:67", after := #[], guard := none }, { dst := some 56, op := Go.Op.move (Go.Operand.tmp 0), type := 22, pos := "law.go:67", after := #[], guard := none }, { dst := some 57, op := Go.Op.move (Go.Operand.tmp 4), type := 3, pos := "law.go:67", after := #[], guard := none }, { dst := some 58, op := Go.Op.indexAddr 22 (Go.Operand.tmp 56) (Go.Operand.tmp 57), type := 0, pos := "law.go:67", after := #[{ on := 2, ground := Go.Ground.data }, { on := 3, ground := Go.Ground.data }], guard := none }, { dst := some 59, op := Go.Op.fieldAddr 35 (Go.Operand.tmp 58) 6, type := 0, pos := "law.go:67", after := #[{ on := 4, ground := Go.Ground.data }], guard := none }, { dst := some 60, op := Go.Op.load 32 (Go.Operand.tmp 59), type := 32, pos := "law.go:67", after := #[{ on := 5, ground := Go.Ground.data }], guard := none }, { dst := some 61, op := Go.Op.call { callee := Go.Callee.value (Go.Operand.func 16), args := #[Go.Operand.tmp 60], argTypes := #[32] }, type := 32, pos := "law.go:67", after := #[{ on := 6, ground := Go.Ground.data }], guard := none }, { dst := some 62, op := Go.Op.buildSlice 32 1 #[(0, Go.Operand.const (Go.Value.int Go.IntKind.u8 201))], type := 32, pos := "law.go:67", after := #[], guard := none }, { dst := some 63, op := Go.Op.call { callee := Go.Callee.builtin Go.Builtin.append, args := #[Go.Operand.tmp 61, Go.Operand.tmp 62], argTypes := #[32, 32] }, type := 32, pos := "law.go:67", after := #[{ on := 7, ground := Go.Ground.data }, { on := 8, ground := Go.Ground.data }, { on := 7, ground := Go.Ground.chain }], guard := none }, { dst := some 64, op := Go.Op.move (Go.Operand.tmp 0), type := 22, pos := "law.go:67", after := #[], guard := none }, { dst := some 65, op := Go.Op.move (Go.Operand.tmp 4), type := 3, pos := "law.go:67", after := #[], guard := none }, { dst := some 66, op := Go.Op.indexAddr 22 (Go.Operand.tmp 64) (Go.Operand.tmp 65), type := 0, pos := "law.go:67", after := #[{ on := 10, ground := Go.Ground.data }, { on := 11, ground := Go.Ground.data }], guard := none }, { dst := some 67, op := Go.Op.fieldAddr 35 (Go.Operand.tmp 66) 6, type := 0, pos := "law.go:67", after := #[{ on := 12, ground := Go.Ground.data }], guard := none }, { dst := some 68, op := Go.Op.load 32 (Go.Operand.tmp 67), type := 32, pos := "law.go:67", after := #[{ on := 13, ground := Go.Ground.data }], guard := none }, { dst := some 69, op := Go.Op.call { callee := Go.Callee.builtin Go.Builtin.len, args := #[Go.Operand.tmp 68], argTypes := #[32] }, type := 3, pos := "law.go:67", after := #[{ on := 14, ground := Go.Ground.data }], guard := none }, { dst := some 70, op := Go.Op.slice 32 (Go.Operand.tmp 63) none (some (Go.Operand.tmp 69)) none, type := 32, pos := "law.go:67", after := #[{ on := 9, ground := Go.Ground.data }, { on := 15, ground := Go.Ground.data }], guard := none }, { dst := some 71, op := Go.Op.indexAddr 22 (Go.Operand.tmp 54) (Go.Operand.tmp 55), type := 0, pos := "law.go:67", after := #[{ on := 0, ground := Go.Ground.data }, { on := 1, ground := Go.Ground.data }, { on := 0, ground := Go.Ground.phase }, { on := 1, ground := Go.Ground.phase }, { on := 2, ground := Go.Ground.phase }, { on := 3, ground := Go.Ground.phase }, { on := 4, ground := Go.Ground.phase }, { on := 5, ground := Go.Ground.phase }, { on := 6, ground := Go.Ground.phase }, { on := 7, ground := Go.Ground.phase }, { on := 8, ground := Go.Ground.phase }, { on := 9, ground := Go.Ground.phase }, { on := 10, ground := Go.Ground.phase }, { on := 11, ground := Go.Ground.phase }, { on := 12, ground := Go.Ground.phase }, { on := 13, ground := Go.Ground.phase }, { on := 14, ground := Go.Ground.phase }, { on := 15, ground := Go.Ground.phase }, { on := 16, ground := Go.Ground.phase }], guard := none }, { dst := some 72, op := Go.Op.fieldAddr 35 (Go.Operand.tmp 71) 6, type := 0, pos := "law.go:67", after := #[{ on := 17, ground := Go.Ground.data }, { on := 0, ground := Go.Ground.phase }, { on := 1, ground := Go.Ground.phase }, { on := 2, ground := Go.Ground.phase }, { on := 3, ground := Go.Ground.phase }, { on := 4, ground := Go.Ground.phase }, { on := 5, ground := Go.Ground.phase }, { on := 6, ground := Go.Ground.phase }, { on := 7, ground := Go.Ground.phase }, { on := 8, ground := Go.Ground.phase }, { on := 9, ground := Go.Ground.phase }, { on := 10, ground := Go.Ground.phase }, { on := 11, ground := Go.Ground.phase }, { on := 12, ground := Go.Ground.phase }, { on := 13, ground := Go.Ground.phase }, { on := 14, ground := Go.Ground.phase }, { on := 15, ground := Go.Ground.phase }, { on := 16, ground := Go.Ground.phase }], guard := none }, { dst := none, op := Go.Op.store 32 (Go.Operand.tmp 72) (Go.Operand.tmp 70), type := 0, pos := "law.go:67", after := #[{ on := 18, ground := Go.Ground.data }, { on := 16, ground := Go.Ground.data }, { on := 9, ground := Go.Ground.chain }, { on := 0, ground := Go.Ground.phase }, { on := 1, ground := Go.Ground.phase }, { on := 2, ground := Go.Ground.phase }, { on := 3, ground := Go.Ground.phase }, { on := 4, ground := Go.Ground.phase }, { on := 5, ground := Go.Ground.phase }, { on := 6, ground := Go.Ground.phase }, { on := 7, ground := Go.Ground.phase }, { on := 8, ground := Go.Ground.phase }, { on := 9, ground := Go.Ground.phase }, { on := 10, ground := Go.Ground.phase }, { on := 11, ground := Go.Ground.phase }, { on := 12, ground := Go.Ground.phase }, { on := 13, ground := Go.Ground.phase }, { on := 14, ground := Go.Ground.phase }, { on := 15, ground := Go.Ground.phase }, { on := 16, ground := Go.Ground.phase }], guard := none }] true) (Exit.then K Q') ⟨List.toArray ((.slice (some ⟨g, off, none⟩) n cap) :: y1 :: y2 :: (.slice (some ⟨M, 0, none⟩) (n + 1) mc) :: (.int .i64 (i : Nat)) :: y5 :: y6 :: y7 :: y8 :: y9 :: y10 :: y11 :: y12 :: y13 :: y14 :: y15 :: y16 :: y17 :: y18 :: y19 :: y20 :: y21 :: y22 :: y23 :: y24 :: y25 :: y26 :: y27 :: y28 :: y29 :: y30 :: y31 :: y32 :: y33 :: y34 :: y35 :: y36 :: y37 :: y38 :: y39 :: y40 :: y41 :: y42 :: y43 :: y44 :: y45 :: y46 :: y47 :: y48 :: y49 :: y50 :: y51 :: y52 :: y53 :: y54 :: y55 :: y56 :: y57 :: y58 :: y59 :: y60 :: y61 :: y62 :: y63 :: y64 :: y65 :: y66 :: y67 :: y68 :: y69 :: y70 :: y71 :: y72 :: y73 :: y74 :: y75 :: y76 :: y77 :: y78 :: y79 :: y80 :: y81 :: y82 :: y83 :: y84 :: y85 :: y86 :: y87 :: y88 :: y89 :: y90 :: y91 :: y92 :: y93 :: y94 :: y95 :: y96 :: []), []⟩ wr := by
  have HK := hid_intro hK
  have HB := hid_intro hB
  have XM := hid_intro hX
  clear hK hB hX
  obtain ⟨u0, hcM⟩ := hcM
  have e1 : (i : Int) < (n : Int) := by omega
  have e2 : (0 : Int) ≤ (i : Int) := by omega
  have e3 : (i : Int) < (n : Int) + 1 := by omega
  have e4 : (0 : Int) ≤ (kn : Int) := by omega
  have hgl : g < wr.heap.size := cell_lt23 cw
  have hMl : M < wr.heap.size := (Array.getElem?_eq_some_iff.1 XM.out).1
  try dsimp only
  refine wp_region_noPanic ?_
  refine wp_region_held_drew (S := (fun w' => w'.cell? ⟨g, off + i * 8 + 6, none⟩ = some (.slice ka kn kc))) (by kernel_rfl) ?_ (fun hHeld => ?_)
  · exact cw
  refine wpAnyH_take (i := 0) (oi := { dst := some 54, op := Go.Op.move (Go.Operand.tmp 3), type := 22, pos := "law.go:67", after := #[], guard := none }) (v := ?_) rfl (by kernel_rfl) (by kernel_rfl) (by kernel_rfl) (fun _ _ _ h => h) (Or.inl ⟨by rfl, ?_⟩) (by assumption) ?_
  rotate_left
  · intro w hSw; (try dsimp only at hSw); go_simp; (try with_reducible rfl)
  simp only [Act.put, List.setIfInBounds_toArray, List.set_cons_zero, List.set_cons_succ]
  refine wpAnyH_take (i := 1) (oi := { dst := some 55, op := Go.Op.move (Go.Operand.tmp 4), type := 3, pos := "law.go:67", after := #[], guard := none }) (v := ?_) rfl (by kernel_rfl) (by kernel_rfl) (by kernel_rfl) (fun _ _ _ h => h) (Or.inl ⟨by rfl, ?_⟩) (by assumption) ?_
  rotate_left
  · intro w hSw; (try dsimp only at hSw); go_simp; (try with_reducible rfl)
  simp only [Act.put, List.setIfInBounds_toArray, List.set_cons_zero, List.set_cons_succ]
  refine wpAnyH_take (i := 2) (oi := { dst := some 56, op := Go.Op.move (Go.Operand.tmp 0), type := 22, pos := "law.go:67", after := #[], guard := none }) (v := ?_) rfl (by kernel_rfl) (by kernel_rfl) (by kernel_rfl) (fun _ _ _ h => h) (Or.inl ⟨by rfl, ?_⟩) (by assumption) ?_
  rotate_left
  · intro w hSw; (try dsimp only at hSw); go_simp; (try with_reducible rfl)
  simp only [Act.put, List.setIfInBounds_toArray, List.set_cons_zero, List.set_cons_succ]
  refine wpAnyH_take (i := 3) (oi := { dst := some 57, op := Go.Op.move (Go.Operand.tmp 4), type := 3, pos := "law.go:67", after := #[], guard := none }) (v := ?_) rfl (by kernel_rfl) (by kernel_rfl) (by kernel_rfl) (fun _ _ _ h => h) (Or.inl ⟨by rfl, ?_⟩) (by assumption) ?_
  rotate_left
  · intro w hSw; (try dsimp only at hSw); go_simp; (try with_reducible rfl)
  simp only [Act.put, List.setIfInBounds_toArray, List.set_cons_zero, List.set_cons_succ]
  refine wpAnyH_take (i := 4) (oi := { dst := some 58, op := Go.Op.indexAddr 22 (Go.Operand.tmp 56) (Go.Operand.tmp 57), type := 0, pos := "law.go:67", after := #[{ on := 2, ground := Go.Ground.data }, { on := 3, ground := Go.Ground.data }], guard := none }) (v := ?_) rfl (by kernel_rfl) (by kernel_rfl) (by kernel_rfl) (fun _ _ _ h => h) (Or.inl ⟨by rfl, ?_⟩) (by assumption) ?_
  rotate_left
  · intro w hSw; (try dsimp only at hSw); go_simp; (try with_reducible rfl)
  simp only [Act.put, List.setIfInBounds_toArray, List.set_cons_zero, List.set_cons_succ]
  refine wpAnyH_take (i := 5) (oi := { dst := some 59, op := Go.Op.fieldAddr 35 (Go.Operand.tmp 58) 6, type := 0, pos := "law.go:67", after := #[{ on := 4, ground := Go.Ground.data }], guard := none }) (v := ?_) rfl (by kernel_rfl) (by kernel_rfl) (by kernel_rfl) (fun _ _ _ h => h) (Or.inl ⟨by rfl, ?_⟩) (by assumption) ?_
  rotate_left
  · intro w hSw; (try dsimp only at hSw); go_simp; (try with_reducible rfl)
  simp only [Act.put, List.setIfInBounds_toArray, List.set_cons_zero, List.set_cons_succ]
  refine wpAnyH_take (i := 6) (oi := { dst := some 60, op := Go.Op.load 32 (Go.Operand.tmp 59), type := 32, pos := "law.go:67", after := #[{ on := 5, ground := Go.Ground.data }], guard := none }) (v := ?_) rfl (by kernel_rfl) (by kernel_rfl) (by kernel_rfl) (fun _ _ _ h => h) (Or.inl ⟨by rfl, ?_⟩) (by assumption) ?_
  rotate_left
  · intro w hSw; (try dsimp only at hSw); go_simp; (try with_reducible rfl)
  simp only [Act.put, List.setIfInBounds_toArray, List.set_cons_zero, List.set_cons_succ]
  refine wpAnyH_take (i := 10) (oi := { dst := some 64, op := Go.Op.move (Go.Operand.tmp 0), type := 22, pos := "law.go:67", after := #[], guard := none }) (v := ?_) rfl (by kernel_rfl) (by kernel_rfl) (by kernel_rfl) (fun _ _ _ h => h) (Or.inl ⟨by rfl, ?_⟩) (by assumption) ?_
  rotate_left
  · intro w hSw; (try dsimp only at hSw); go_simp; (try with_reducible rfl)
  simp only [Act.put, List.setIfInBounds_toArray, List.set_cons_zero, List.set_cons_succ]
  refine wpAnyH_take (i := 11) (oi := { dst := some 65, op := Go.Op.move (Go.Operand.tmp 4), type := 3, pos := "law.go:67", after := #[], guard := none }) (v := ?_) rfl (by kernel_rfl) (by kernel_rfl) (by kernel_rfl) (fun _ _ _ h => h) (Or.inl ⟨by rfl, ?_⟩) (by assumption) ?_
  rotate_left
  · intro w hSw; (try dsimp only at hSw); go_simp; (try with_reducible rfl)
  simp only [Act.put, List.setIfInBounds_toArray, List.set_cons_zero, List.set_cons_succ]
  refine wpAnyH_take (i := 12) (oi := { dst := some 66, op := Go.Op.indexAddr 22 (Go.Operand.tmp 64) (Go.Operand.tmp 65), type := 0, pos := "law.go:67", after := #[{ on := 10, ground := Go.Ground.data }, { on := 11, ground := Go.Ground.data }], guard := none }) (v := ?_) rfl (by kernel_rfl) (by kernel_rfl) (by kernel_rfl) (fun _ _ _ h => h) (Or.inl ⟨by rfl, ?_⟩) (by assumption) ?_
  rotate_left
  · intro w hSw; (try dsimp only at hSw); go_simp; (try with_reducible rfl)
  simp only [Act.put, List.setIfInBounds_toArray, List.set_cons_zero, List.set_cons_succ]
  refine wpAnyH_take (i := 13) (oi := { dst := some 67, op := Go.Op.fieldAddr 35 (Go.Operand.tmp 66) 6, type := 0, pos := "law.go:67", after := #[{ on := 12, ground := Go.Ground.data }], guard := none }) (v := ?_) rfl (by kernel_rfl) (by kernel_rfl) (by kernel_rfl) (fun _ _ _ h => h) (Or.inl ⟨by rfl, ?_⟩) (by assumption) ?_
  rotate_left
  · intro w hSw; (try dsimp only at hSw); go_simp; (try with_reducible rfl)
  simp only [Act.put, List.setIfInBounds_toArray, List.set_cons_zero, List.set_cons_succ]
  refine wpAnyH_take (i := 14) (oi := { dst := some 68, op := Go.Op.load 32 (Go.Operand.tmp 67), type := 32, pos := "law.go:67", after := #[{ on := 13, ground := Go.Ground.data }], guard := none }) (v := ?_) rfl (by kernel_rfl) (by kernel_rfl) (by kernel_rfl) (fun _ _ _ h => h) (Or.inl ⟨by rfl, ?_⟩) (by assumption) ?_
  rotate_left
  · intro w hSw; (try dsimp only at hSw); go_simp; (try with_reducible rfl)
  simp only [Act.put, List.setIfInBounds_toArray, List.set_cons_zero, List.set_cons_succ]
  refine wpAnyH_take (i := 15) (oi := { dst := some 69, op := Go.Op.call { callee := Go.Callee.builtin Go.Builtin.len, args := #[Go.Operand.tmp 68], argTypes := #[32] }, type := 3, pos := "law.go:67", after := #[{ on := 14, ground := Go.Ground.data }], guard := none }) (v := ?_) rfl (by kernel_rfl) (by kernel_rfl) (by kernel_rfl) (fun _ _ _ h => h) (Or.inl ⟨by rfl, ?_⟩) (by assumption) ?_
  rotate_left
  · intro w hSw; (try dsimp only at hSw); go_simp; (try with_reducible rfl)
  simp only [Act.put, List.setIfInBounds_toArray, List.set_cons_zero, List.set_cons_succ]
  refine wpAnyH_ready (rs := [7, 8]) (by kernel_rfl) (by simp) ?_
  refine AllReadyH.cons (o := { dst := some 61, op := Go.Op.call { callee := Go.Callee.value (Go.Operand.func 16), args := #[Go.Operand.tmp 60], argTypes := #[32] }, type := 32, pos := "law.go:67", after := #[{ on := 6, ground := Go.Ground.data }], guard := none }) rfl (fun K2 hK2 => ?_) ?_
  · go_simp
    go_at_call 16
    refine (refBytes_any ka kn kc zs wr.drew (HB.out.heap rfl) (by omega)).mono ?_
    rintro en w2 ⟨rfl, hown2, hg2, hs2⟩
    have O2 := hid_intro hown2
    have G2 := hid_intro (grown_undrew hg2)
    have cw2 := cell_keptS cw G2.out
    clear hown2 hg2
    refine hK2.out _ _ (cw2) (fun hHeld => ?_)
    clear hK2 K2
    try simp only [Act.put, List.setIfInBounds_toArray, List.set_cons_zero, List.set_cons_succ]
    refine wpAnyH_ready (rs := [8]) (by kernel_rfl) (by simp) ?_
    refine AllReadyH.cons (o := { dst := some 62, op := Go.Op.buildSlice 32 1 #[(0, Go.Operand.const (Go.Value.int Go.IntKind.u8 201))], type := 32, pos := "law.go:67", after := #[], guard := none }) rfl (fun K2 hK2 => ?_) AllReadyH.nil
    go_simp
    refine hK2.out _ _ (cell_keptS cw2 (World.grownBy_alloc w2 (.cells #[.int .u8 201] 5) none)) (fun hHeld => ?_)
    clear hK2 K2
    try simp only [Act.put, List.setIfInBounds_toArray, List.set_cons_zero, List.set_cons_succ]
    have O3 := hid_intro (O2.out.alloc (.cells #[.int .u8 201] 5))
    have G3 := hid_intro (grown_trans G2.out (World.grownBy_alloc w2 (.cells #[.int .u8 201] 5) none))
    have C3 := hid_intro (cell_one_new w2 (.int .u8 201) 5)
    have s3 := size_allocD w2 (.cells #[.int .u8 201] 5)
    generalize w2.alloc (.cells #[.int .u8 201] 5) = w3 at *
    rw [show wr.drew.heap.size = wr.heap.size from rfl] at O3
    obtain ⟨B2, hB2⟩ : ∃ B, wr.heap.size = B := ⟨_, rfl⟩
    rw [hB2] at O3 ⊢
    obtain ⟨D, hD⟩ : ∃ D, w2.heap.size = D := ⟨_, rfl⟩
    rw [hD] at C3 ⊢
    have hdr : wr.drew.heap.size = wr.heap.size := rfl
    refine wpAnyH_ready (rs := [9]) (by kernel_rfl) (by simp) ?_
    refine AllReadyH.cons (o := { dst := some 63, op := Go.Op.call { callee := Go.Callee.builtin Go.Builtin.append, args := #[Go.Operand.tmp 61, Go.Operand.tmp 62], argTypes := #[32, 32] }, type := 32, pos := "law.go:67", after := #[{ on := 7, ground := Go.Ground.data }, { on := 8, ground := Go.Ground.data }, { on := 7, ground := Go.Ground.chain }], guard := none }) rfl (fun K2 hK2 => ?_) AllReadyH.nil
    obtain ⟨i0, hi, hz0, hz1, hz2⟩ := info_parts info_u8
    refine step_append_own23 rfl (.tmp 61) (.tmp 62) 32 (by rfl) _ 5 i0 (.int .u8 0) 1 1 Tryz.underlying32 hi hz0 hz1 hz2 rfl (by decide) _ kn (zs.map (Value.int .u8)) (by rfl) O3.out ⟨D, 0, none⟩ 1 1 [.int .u8 201] (by rfl) (by rfl) C3.out (by intro u hu; simp at hu; subst hu; rfl) (by unfold maxLen; omega) (by omega) (by omega) ?_
    intro v4 w4 ho4 hg4
    have ho4' : w4.ownsRow B2 5 1 v4 (kn + 1) ((zs ++ [201]).map (Value.int .u8)) := by rw [List.map_append]; exact ho4
    obtain ⟨G, c4, rfl, hGb, hGl, hGc⟩ := owns_shape ho4' (by omega)
    have OW4 := hid_intro (Ow.of_owns ho4').1
    have G4 := hid_intro (grown_new (R := B2) G3.out hg4 (by omega))
    have XM4 := hid_intro (heap_keptS XM.out G4.out)
    have cw4 := cell_keptS cw G4.out
    clear ho4 hg4 ho4'
    have q4 : (kn : Int) ≤ (c4 : Int) := by omega
    refine hK2.out _ _ (cw4) (fun hHeld => ?_)
    clear hK2 K2
    try simp only [Act.put, List.setIfInBounds_toArray, List.set_cons_zero, List.set_cons_succ]
    refine wpAnyH_take (i := 16) (oi := { dst := some 70, op := Go.Op.slice 32 (Go.Operand.tmp 63) none (some (Go.Operand.tmp 69)) none, type := 32, pos := "law.go:67", after := #[{ on := 9, ground := Go.Ground.data }, { on := 15, ground := Go.Ground.data }], guard := none }) (v := ?_) rfl (by kernel_rfl) (by kernel_rfl) (by kernel_rfl) (fun _ _ _ h => h) (Or.inl ⟨by rfl, ?_⟩) (by assumption) ?_
    rotate_left
    · intro w hSw; (try dsimp only at hSw); go_simp; (try with_reducible rfl)
    simp only [Act.put, List.setIfInBounds_toArray, List.set_cons_zero, List.set_cons_succ]
    refine wpAnyH_take (i := 17) (oi := { dst := some 71, op := Go.Op.indexAddr 22 (Go.Operand.tmp 54) (Go.Operand.tmp 55), type := 0, pos := "law.go:67", after := #[{ on := 0, ground := Go.Ground.data }, { on := 1, ground := Go.Ground.data }, { on := 0, ground := Go.Ground.phase }, { on := 1, ground := Go.Ground.phase }, { on := 2, ground := Go.Ground.phase }, { on := 3, ground := Go.Ground.phase }, { on := 4, ground := Go.Ground.phase }, { on := 5, ground := Go.Ground.phase }, { on := 6, ground := Go.Ground.phase }, { on := 7, ground := Go.Ground.phase }, { on := 8, ground := Go.Ground.phase }, { on := 9, ground := Go.Ground.phase }, { on := 10, ground := Go.Ground.phase }, { on := 11, ground := Go.Ground.phase }, { on := 12, ground := Go.Ground.phase }, { on := 13, ground := Go.Ground.phase }, { on := 14, ground := Go.Ground.phase }, { on := 15, ground := Go.Ground.phase }, { on := 16, ground := Go.Ground.phase }], guard := none }) (v := ?_) rfl (by kernel_rfl) (by kernel_rfl) (by kernel_rfl) (fun _ _ _ h => h) (Or.inl ⟨by rfl, ?_⟩) (by assumption) ?_
    rotate_left
    · intro w hSw; (try dsimp only at hSw); go_simp; (try with_reducible rfl)
    simp only [Act.put, List.setIfInBounds_toArray, List.set_cons_zero, List.set_cons_succ]
    refine wpAnyH_take (i := 18) (oi := { dst := some 72, op := Go.Op.fieldAddr 35 (Go.Operand.tmp 71) 6, type := 0, pos := "law.go:67", after := #[{ on := 17, ground := Go.Ground.data }, { on := 0, ground := Go.Ground.phase }, { on := 1, ground := Go.Ground.phase }, { on := 2, ground := Go.Ground.phase }, { on := 3, ground := Go.Ground.phase }, { on := 4, ground := Go.Ground.phase }, { on := 5, ground := Go.Ground.phase }, { on := 6, ground := Go.Ground.phase }, { on := 7, ground := Go.Ground.phase }, { on := 8, ground := Go.Ground.phase }, { on := 9, ground := Go.Ground.phase }, { on := 10, ground := Go.Ground.phase }, { on := 11, ground := Go.Ground.phase }, { on := 12, ground := Go.Ground.phase }, { on := 13, ground := Go.Ground.phase }, { on := 14, ground := Go.Ground.phase }, { on := 15, ground := Go.Ground.phase }, { on := 16, ground := Go.Ground.phase }], guard := none }) (v := ?_) rfl (by kernel_rfl) (by kernel_rfl) (by kernel_rfl) (fun _ _ _ h => h) (Or.inl ⟨by rfl, ?_⟩) (by assumption) ?_
    rotate_left
    · intro w hSw; (try dsimp only at hSw); go_simp; (try with_reducible rfl)
    simp only [Act.put, List.setIfInBounds_toArray, List.set_cons_zero, List.set_cons_succ]
    refine wpAnyH_ready (rs := [19]) (by kernel_rfl) (by simp) ?_
    refine AllReadyH.cons (o := { dst := none, op := Go.Op.store 32 (Go.Operand.tmp 72) (Go.Operand.tmp 70), type := 0, pos := "law.go:67", after := #[{ on := 18, ground := Go.Ground.data }, { on := 16, ground := Go.Ground.data }, { on := 9, ground := Go.Ground.chain }, { on := 0, ground := Go.Ground.phase }, { on := 1, ground := Go.Ground.phase }, { on := 2, ground := Go.Ground.phase }, { on := 3, ground := Go.Ground.phase }, { on := 4, ground := Go.Ground.phase }, { on := 5, ground := Go.Ground.phase }, { on := 6, ground := Go.Ground.phase }, { on := 7, ground := Go.Ground.phase }, { on := 8, ground := Go.Ground.phase }, { on := 9, ground := Go.Ground.phase }, { on := 10, ground := Go.Ground.phase }, { on := 11, ground := Go.Ground.phase }, { on := 12, ground := Go.Ground.phase }, { on := 13, ground := Go.Ground.phase }, { on := 14, ground := Go.Ground.phase }, { on := 15, ground := Go.Ground.phase }, { on := 16, ground := Go.Ground.phase }], guard := none }) rfl (fun K2 hK2 => ?_) AllReadyH.nil
    have fM := frozen_of_row w4 M (i * 8 + 6) _ _ XM4.out
    have cM := cell_heapS (i := i * 8 + 6) XM4.out hcM
    have hgc := grown_cell w4 M (i * 8 + 6) (.slice (some ⟨G, 0, none⟩) kn c4)
    go_simp
    refine hK2.out _ _ (hgc.cell cw4 (by simp [hMg])) (fun hHeld => ?_)
    clear hK2 K2
    try simp only [Act.put, List.setIfInBounds_toArray, List.set_cons_zero, List.set_cons_succ]
    refine wpAnyH_done (by kernel_rfl) ?_ _
    refine NoPanic.normal ?_
    refine HK.out _ _ _ _ _ _ _ _ _ _ _ _ _ _ _ _ _ _ _ _ G c4 ⟨heap_setCell_same w4 M (i * 8 + 6) _ _ _ XM4.out, grown_row23 G4.out hgc, by omega, OW4.out.kept hgc (fun e => by have := Option.some.inj e; omega)⟩
  · refine AllReadyH.cons (o := { dst := some 62, op := Go.Op.buildSlice 32 1 #[(0, Go.Operand.const (Go.Value.int Go.IntKind.u8 201))], type := 32, pos := "law.go:67", after := #[], guard := none }) rfl (fun K2 hK2 => ?_) AllReadyH.nil
    go_simp
    refine hK2.out _ _ (cell_keptS cw (grown_trans (World.grownBy_alloc wr (.cells #[.int .u8 201] 5) none) ((Qt.refl _).drew.grown none))) (fun hHeld => ?_)
    clear hK2 K2
    try simp only [Act.put, List.setIfInBounds_toArray, List.set_cons_zero, List.set_cons_succ]
    have G1 := hid_intro (grown_trans (World.grownBy_alloc wr (.cells #[.int .u8 201] 5) none) ((Qt.refl _).drew.grown none))
    have C1 : Hid (∀ j u, [Value.int .u8 201][j]? = some u → (wr.alloc (.cells #[.int .u8 201] 5)).drew.cell? ((⟨wr.heap.size, 0, none⟩ : Addr).add j) = some u) := cell_one_new wr (.int .u8 201) 5
    have s1 : (wr.alloc (.cells #[.int .u8 201] 5)).drew.heap.size = wr.heap.size + 1 := size_allocD wr (.cells #[.int .u8 201] 5)
    generalize (wr.alloc (.cells #[.int .u8 201] 5)).drew = w1 at *
    refine wpAnyH_ready (rs := [7]) (by kernel_rfl) (by simp) ?_
    refine AllReadyH.cons (o := { dst := some 61, op := Go.Op.call { callee := Go.Callee.value (Go.Operand.func 16), args := #[Go.Operand.tmp 60], argTypes := #[32] }, type := 32, pos := "law.go:67", after := #[{ on := 6, ground := Go.Ground.data }], guard := none }) rfl (fun K2 hK2 => ?_) AllReadyH.nil
    go_simp
    go_at_call 16
    refine (refBytes_any ka kn kc zs w1 (HB.out.keptN G1.out) (by omega)).mono ?_
    rintro en w3 ⟨rfl, hown2, hg2, hs2⟩
    have O3 := hid_intro hown2
    have G3 := hid_intro (grown_trans G1.out hg2)
    have C3 : Hid (∀ j u, [Value.int .u8 201][j]? = some u → w3.cell? ((⟨wr.heap.size, 0, none⟩ : Addr).add j) = some u) := fun j u hu => hg2.cell (C1.out j u hu) (by simp)
    have cw2 := cell_keptS cw G3.out
    clear hown2 hg2
    refine hK2.out _ _ (cw2) (fun hHeld => ?_)
    clear hK2 K2
    try simp only [Act.put, List.setIfInBounds_toArray, List.set_cons_zero, List.set_cons_succ]
    obtain ⟨B2, hB2⟩ : ∃ B, w1.heap.size = B := ⟨_, rfl⟩
    rw [hB2] at O3 ⊢
    obtain ⟨D, hD⟩ : ∃ D, wr.heap.size = D := ⟨_, rfl⟩
    rw [hD] at C3 ⊢
    have hdr : wr.drew.heap.size = wr.heap.size := rfl
    refine wpAnyH_ready (rs := [9]) (by kernel_rfl) (by simp) ?_
    refine AllReadyH.cons (o := { dst := some 63, op := Go.Op.call { callee := Go.Callee.builtin Go.Builtin.append, args := #[Go.Operand.tmp 61, Go.Operand.tmp 62], argTypes := #[32, 32] }, type := 32, pos := "law.go:67", after := #[{ on := 7, ground := Go.Ground.data }, { on := 8, ground := Go.Ground.data }, { on := 7, ground := Go.Ground.chain }], guard := none }) rfl (fun K2 hK2 => ?_) AllReadyH.nil
    obtain ⟨i0, hi, hz0, hz1, hz2⟩ := info_parts info_u8
    refine step_append_own23 rfl (.tmp 61) (.tmp 62) 32 (by rfl) _ 5 i0 (.int .u8 0) 1 1 Tryz.underlying32 hi hz0 hz1 hz2 rfl (by decide) _ kn (zs.map (Value.int .u8)) (by rfl) O3.out ⟨D, 0, none⟩ 1 1 [.int .u8 201] (by rfl) (by rfl) C3.out (by intro u hu; simp at hu; subst hu; rfl) (by unfold maxLen; omega) (by omega) (by omega) ?_
    intro v4 w4 ho4 hg4
    have ho4' : w4.ownsRow B2 5 1 v4 (kn + 1) ((zs ++ [201]).map (Value.int .u8)) := by rw [List.map_append]; exact ho4
    obtain ⟨G, c4, rfl, hGb, hGl, hGc⟩ := owns_shape ho4' (by omega)
    have OW4 := hid_intro (Ow.of_owns ho4').1
    have G4 := hid_intro (grown_new (R := B2) G3.out hg4 (by omega))
    have XM4 := hid_intro (heap_keptS XM.out G4.out)
    have cw4 := cell_keptS cw G4.out
    clear ho4 hg4 ho4'
    have q4 : (kn : Int) ≤ (c4 : Int) := by omega
    refine hK2.out _ _ (cw4) (fun hHeld => ?_)
    clear hK2 K2
    try simp only [Act.put, List.setIfInBounds_toArray, List.set_cons_zero, List.set_cons_succ]
    refine wpAnyH_take (i := 16) (oi := { dst := some 70, op := Go.Op.slice 32 (Go.Operand.tmp 63) none (some (Go.Operand.tmp 69)) none, type := 32, pos := "law.go:67", after := #[{ on := 9, ground := Go.Ground.data }, { on := 15, ground := Go.Ground.data }], guard := none }) (v := ?_) rfl (by kernel_rfl) (by kernel_rfl) (by kernel_rfl) (fun _ _ _ h => h) (Or.inl ⟨by rfl, ?_⟩) (by assumption) ?_
    rotate_left
    · intro w hSw; (try dsimp only at hSw); go_simp; (try with_reducible rfl)
    simp only [Act.put, List.setIfInBounds_toArray, List.set_cons_zero, List.set_cons_succ]
    refine wpAnyH_take (i := 17) (oi := { dst := some 71, op := Go.Op.indexAddr 22 (Go.Operand.tmp 54) (Go.Operand.tmp 55), type := 0, pos := "law.go:67", after := #[{ on := 0, ground := Go.Ground.data }, { on := 1, ground := Go.Ground.data }, { on := 0, ground := Go.Ground.phase }, { on := 1, ground := Go.Ground.phase }, { on := 2, ground := Go.Ground.phase }, { on := 3, ground := Go.Ground.phase }, { on := 4, ground := Go.Ground.phase }, { on := 5, ground := Go.Ground.phase }, { on := 6, ground := Go.Ground.phase }, { on := 7, ground := Go.Ground.phase }, { on := 8, ground := Go.Ground.phase }, { on := 9, ground := Go.Ground.phase }, { on := 10, ground := Go.Ground.phase }, { on := 11, ground := Go.Ground.phase }, { on := 12, ground := Go.Ground.phase }, { on := 13, ground := Go.Ground.phase }, { on := 14, ground := Go.Ground.phase }, { on := 15, ground := Go.Ground.phase }, { on := 16, ground := Go.Ground.phase }], guard := none }) (v := ?_) rfl (by kernel_rfl) (by kernel_rfl) (by kernel_rfl) (fun _ _ _ h => h) (Or.inl ⟨by rfl, ?_⟩) (by assumption) ?_
    rotate_left
    · intro w hSw; (try dsimp only at hSw); go_simp; (try with_reducible rfl)
    simp only [Act.put, List.setIfInBounds_toArray, List.set_cons_zero, List.set_cons_succ]
    refine wpAnyH_take (i := 18) (oi := { dst := some 72, op := Go.Op.fieldAddr 35 (Go.Operand.tmp 71) 6, type := 0, pos := "law.go:67", after := #[{ on := 17, ground := Go.Ground.data }, { on := 0, ground := Go.Ground.phase }, { on := 1, ground := Go.Ground.phase }, { on := 2, ground := Go.Ground.phase }, { on := 3, ground := Go.Ground.phase }, { on := 4, ground := Go.Ground.phase }, { on := 5, ground := Go.Ground.phase }, { on := 6, ground := Go.Ground.phase }, { on := 7, ground := Go.Ground.phase }, { on := 8, ground := Go.Ground.phase }, { on := 9, ground := Go.Ground.phase }, { on := 10, ground := Go.Ground.phase }, { on := 11, ground := Go.Ground.phase }, { on := 12, ground := Go.Ground.phase }, { on := 13, ground := Go.Ground.phase }, { on := 14, ground := Go.Ground.phase }, { on := 15, ground := Go.Ground.phase }, { on := 16, ground := Go.Ground.phase }], guard := none }) (v := ?_) rfl (by kernel_rfl) (by kernel_rfl) (by kernel_rfl) (fun _ _ _ h => h) (Or.inl ⟨by rfl, ?_⟩) (by assumption) ?_
    rotate_left
    · intro w hSw; (try dsimp only at hSw); go_simp; (try with_reducible rfl)
    simp only [Act.put, List.setIfInBounds_toArray, List.set_cons_zero, List.set_cons_succ]
    refine wpAnyH_ready (rs := [19]) (by kernel_rfl) (by simp) ?_
    refine AllReadyH.cons (o := { dst := none, op := Go.Op.store 32 (Go.Operand.tmp 72) (Go.Operand.tmp 70), type := 0, pos := "law.go:67", after := #[{ on := 18, ground := Go.Ground.data }, { on := 16, ground := Go.Ground.data }, { on := 9, ground := Go.Ground.chain }, { on := 0, ground := Go.Ground.phase }, { on := 1, ground := Go.Ground.phase }, { on := 2, ground := Go.Ground.phase }, { on := 3, ground := Go.Ground.phase }, { on := 4, ground := Go.Ground.phase }, { on := 5, ground := Go.Ground.phase }, { on := 6, ground := Go.Ground.phase }, { on := 7, ground := Go.Ground.phase }, { on := 8, ground := Go.Ground.phase }, { on := 9, ground := Go.Ground.phase }, { on := 10, ground := Go.Ground.phase }, { on := 11, ground := Go.Ground.phase }, { on := 12, ground := Go.Ground.phase }, { on := 13, ground := Go.Ground.phase }, { on := 14, ground := Go.Ground.phase }, { on := 15, ground := Go.Ground.phase }, { on := 16, ground := Go.Ground.phase }], guard := none }) rfl (fun K2 hK2 => ?_) AllReadyH.nil
    have fM := frozen_of_row w4 M (i * 8 + 6) _ _ XM4.out
    have cM := cell_heapS (i := i * 8 + 6) XM4.out hcM
    have hgc := grown_cell w4 M (i * 8 + 6) (.slice (some ⟨G, 0, none⟩) kn c4)
    go_simp
    refine hK2.out _ _ (hgc.cell cw4 (by simp [hMg])) (fun hHeld => ?_)
    clear hK2 K2
    try simp only [Act.put, List.setIfInBounds_toArray, List.set_cons_zero, List.set_cons_succ]
    refine wpAnyH_done (by kernel_rfl) ?_ _
    refine NoPanic.normal ?_
    refine HK.out _ _ _ _ _ _ _ _ _ _ _ _ _ _ _ _ _ _ _ _ G c4 ⟨heap_setCell_same w4 M (i * 8 + 6) _ _ _ XM4.out, grown_row23 G4.out hgc, by omega, OW4.out.kept hgc (fun e => by have := Option.some.inj e; omega)⟩
end Go.Proofs.YtcjgmiilfjjbcaaGreatDoor
