import Derived.Test.YtndanifjommpdaaGreatQ32
import Derived.Test.YtndanifjommpdaaGreatQ30
import Derived.OrdersIn
import Derived.Deep.RegionHeld3
import Derived.Maps.AppendAt
import Derived.RangeFuncCalls
namespace Go.Proofs.YtndanifjommpdaaGreat
open Go.RowKit Go.Shelf
attribute [local go_sem] Oper.semAt_some
theorem opIn_of {l n : Nat} {P : Program} {o : Oper} {a : Act} {w : World} {K : Act → World → Prop} {Q : Exit → Act → World → Prop} (hd : ∀ c, o.op ≠ .defer c) (h : o.wp P a w K Q) : o.wpIn (Fence.wide.inRound l) n P a w K Q := by
 refine ⟨fun _ _ => trivial, ?_⟩
 rw [Oper.semAt_eq _ _ _ hd]
 unfold Oper.wp at h
 generalize (execOp a.eval o).run P w = r at *
 cases r with
 | ok x w' =>
  cases x <;> simp only [Oper.upon, Oper.uponIn] at h ⊢ <;>
   first
    | exact h
    | exact ⟨fun e => (by simp [Fence.inRound, Fence.wide] at e), CallsIn.inRound l (callsIn_wide.2 h)⟩
    | exact ⟨fun e => (by simp [Fence.inRound, Fence.wide] at e), fun c cs _ => by obtain ⟨v, w2, r, s⟩ := h c cs; exact ⟨v, w2, r, stepsIn_wide.2 s⟩⟩
    | exact h.elim
 | halt x w' => cases x <;> simp only [Oper.upon, Oper.uponIn] at h ⊢ <;> exact h
theorem anyIn_of {l n : Nat} {P : Program} {md : Region.Mode} {ops : Array Oper} {Q : Exit → Act → World → Prop} (hlo : ¬ LetsOut Q) (hd : ∀ o ∈ ops, ∀ c, o.op ≠ .defer c) : ∀ (fuel : Nat) (listed : Array Bool) (a : Act) (w : World), wpAny P md ops Q fuel listed a w → wpAnyIn (Fence.wide.inRound l) n P md ops Q fuel listed a w
 | 0, _, _, _, h => h
 | fuel + 1, listed, a, w, h => by
  refine ⟨h.1, fun i hi => ?_⟩
  have h2 := h.2 i hi
  unfold wpOp at h2
  unfold wpOpIn
  cases ho : ops[i]? with
  | none =>
   rw [ho] at h2
   exact anyIn_of hlo hd fuel _ _ _ h2
  | some o =>
   rw [ho] at h2
   simp only at h2 ⊢
   split
   ·rename_i hw
    rw [if_pos hw] at h2
    exact Oper.wpIn_mono (fun a w h => anyIn_of hlo hd fuel _ a w h) (opIn_of (hd o (Array.mem_of_getElem? ho)) (h2.resolve_right (fun h => hlo h.2)))
   ·rename_i hw
    rw [if_neg hw] at h2
    exact ⟨fun _ _ => trivial, anyIn_of hlo hd fuel _ _ _ h2⟩
def okQ (K : Act → World → Prop) : Exit → Act → World → Prop
 | .normal, a, w => K a w
 | _, _, _ => False
theorem region_in {l n id : Nat} {P : Program} {ops : Array Oper} {K : Act → World → Prop} {a : Act} {w : World} (hm : P.follows .mixedOrders = true) (hd : ∀ o ∈ ops, ∀ c, o.op ≠ .defer c)
  (h : wpAny P .any ops (okQ K) ops.size (Array.replicate ops.size false) a w.drew) : (Code.region id ops true).wpIn (Fence.wide.inRound l) n P (okQ K) a w :=
 wpIn_region_any hm (anyIn_of (fun e => by obtain ⟨_, _, e⟩ := e; exact e) hd _ _ _ _ h)
structure G9 (W W' : World) (B m : Nat) (v v' kv vv : Value) (k : Nat) (xs : List Value) (key val : List Int) : Prop where
 sm : ∀ b, b < m → b ≠ B → W'.heap[b]? = W.heap[b]?
 bx : W'.heap[B]? = some (.cells #[v'] 26 (0, 0))
 ow : W'.ownsRow m 35 2 v' (k + 1) (xs ++ [kv, vv])
 kv : W'.ownsRow W.heap.size 5 1 kv key.length (key.map (Value.int .u8))
 vv : W'.ownsRow W.heap.size 5 1 vv val.length (val.map (Value.int .u8))
 ol : ∀ b, v.ownBlock ≠ some b → b ≠ B → b < W.heap.size → W'.heap[b]? = W.heap[b]?
 ko : KeepsOthers W W'
 gr : ∀ w : World, w.grownBy W none → w.heap.size ≤ B → w.heap.size ≤ m → w.grownBy W' none
theorem fin9 {W w2 w3 w9 : World} {B m k kl vl : Nat} {la : Option Addr} {lc : Nat} {x9 : Option Addr} {c9 : Nat} {xs : List Value} {key val : List Int} (hbx : W.heap[B]? = some (.cells #[.slice la k lc] 26 (0, 0))) (ho : W.ownsRow m 35 2 (.slice la k lc) k xs) (hB : B < m) (hm : m ≤ W.heap.size)
  (g2 : W.grownBy w2 none) (s2 : W.heap.size < w2.heap.size) (g3 : w2.grownBy w3 none)
  (o2 : w2.ownsRow W.heap.size 5 1 (.slice (some ⟨W.heap.size, 0, none⟩) kl kl) kl (key.map (Value.int .u8))) (o3 : w3.ownsRow w2.heap.size 5 1 (.slice (some ⟨w2.heap.size, 0, none⟩) vl vl) vl (val.map (Value.int .u8)))
  (r1 : w9.ownsRow m 35 2 (.slice x9 (k + 1) c9) (k + 1) (xs ++ [.slice (some ⟨W.heap.size, 0, none⟩) kl kl, .slice (some ⟨w2.heap.size, 0, none⟩) vl vl])) (r2 : (w3.alloc (.cells #[.slice (some ⟨W.heap.size, 0, none⟩) kl kl, .slice (some ⟨w2.heap.size, 0, none⟩) vl vl] 35)).grownBy w9 (Value.slice la k lc).ownBlock) (hkl : key.length = kl) (hvl : val.length = vl) :
  w9.heap[B]? = some (.cells #[.slice la k lc] 26 (0, 0)) ∧ G9 W (w9.setCell ⟨B, 0, none⟩ (.slice x9 (k + 1) c9)) B m (.slice la k lc) (.slice x9 (k + 1) c9) (.slice (some ⟨W.heap.size, 0, none⟩) kl kl) (.slice (some ⟨w2.heap.size, 0, none⟩) vl vl) k xs key val := by
 have G39 : ∀ b, b < w3.heap.size → (Value.slice la k lc).ownBlock ≠ some b → w9.heap[b]? = w3.heap[b]? := fun b hb hne => (r2.block b (by simp; omega) (fun e => hne e.symm)).trans (Below.heap_alloc w3 _ b hb)
 have hneB : (Value.slice la k lc).ownBlock ≠ some B := fun e => by have := (own_lt10 ho e).1; omega
 have g13 := grown_trans g2 g3
 have hz3 := g13.size
 have hz23 := g3.size
 have bx9 : w9.heap[B]? = some (.cells #[.slice la k lc] 26 (0, 0)) := (G39 B (by omega) hneB).trans (heap_kept hbx g13)
 have all : ∀ b, (Value.slice la k lc).ownBlock ≠ some b → b ≠ B → b < w3.heap.size → (w9.setCell ⟨B, 0, none⟩ (.slice x9 (k + 1) c9)).heap[b]? = w3.heap[b]? := fun b h1 h2 h3 => (Below.heap_setCell _ ⟨B, 0, none⟩ _ b (by exact h2)).trans (G39 b h3 h1)
 subst hkl hvl
 refine ⟨bx9, fun b h1 h2 => ?_, ?_, own_set r1 hB, ?_, ?_, fun b h1 h2 h3 => (all b h1 h2 (by omega)).trans (g13.block b h3 (by simp)), ?_, fun w hw h1 h2 => gr_set (gr_turn (grown_al (grown_trans hw g13) _) r2 (fun r e => by have := (own_lt10 ho e).1; omega)) 0 _ h1⟩
 ·exact (all b (fun e => by have := (own_lt10 ho e).1; omega) h2 (by omega)).trans (g13.block b (by omega) (by simp))
 ·rw [heap_setCell_same _ B 0 _ _ _ bx9]; rfl
 ·refine own_blk (o2.kept g3 (Classical.em _)) fun i e ht => ?_
  simp only [Value.ownBlock, Option.some.injEq] at e
  subst e
  refine all _ (fun e => ?_) (by omega) (by omega)
  have := (own_lt10 ho e).2.1
  omega
 ·refine own_blk (own_low o3 (by omega)) fun i e ht => ?_
  simp only [Value.ownBlock, Option.some.injEq] at e
  subst e
  refine all _ (fun e => ?_) (by omega) ((own_lt10 o3 rfl).2.1)
  have := (own_lt10 ho e).2.1
  omega
 ·refine (((KeepsOthers.of_grownBy g13 (fun j o e _ => by cases e)).trans (KeepsOthers.alloc w3 _)).trans (KeepsOthers.of_grownBy r2 (fun j o e1 e2 => ?_))).trans (KeepsOthers.setCell _ _ _)
  obtain ⟨_, _, q⟩ := (own_lt10 ((ho.kept g13 (Classical.em _)).alloc _) e1).2.2
  rw [e2] at q
  rw [Option.some.inj q]
  rfl
set_option maxHeartbeats 8000000 in
set_option maxRecDepth 100000 in
theorem gather9 {l n B m k : Nat} {K : Act → World → Prop} {Q' : Exit → Act → World → Prop} {W : World} {ka : Option Addr} {kl kc : Nat} {va : Option Addr} {vl vc : Nat} {la : Option Addr} {lc : Nat} {xs : List Value} {key val : List Int} {a0 a1 a2 a3 a4 a5 a9 a10 a11 a12 a13 a14 a15 a16 a17 a18 a19 a20 a21 a22 a23 a24 a25 a26 a27 a28 a29 a30 a31 a32 a33 a34 a35 a36 a37 a38 a39 a40 a41 a42 a43 a44 a45 a46 a47 a48 a49 a50 a51 : Value}
  (hbx : W.heap[B]? = some (.cells #[.slice la k lc] 26 (0, 0))) (ho : W.ownsRow m 35 2 (.slice la k lc) k xs) (hB : B < m) (hm : m ≤ W.heap.size) (hk : Byt W ka kl kc key) (hv : Byt W va vl vc val) (h1 : kl ≤ 100000000) (h2 : vl ≤ 100000000) (h3 : k ≤ 20000000)
  (hK : ∀ (b21 b22 b23 b24 b25 b26 b27 b28 : Value) W' v' kv vv, G9 W W' B m (.slice la k lc) v' kv vv k xs key val → K { tmps := List.toArray ((a0) :: (a1) :: (a2) :: (a3) :: (a4) :: (a5) :: (.pointer (some ⟨B, 0, none⟩)) :: (.slice ka kl kc) :: (.slice va vl vc) :: (a9) :: (a10) :: (a11) :: (a12) :: (a13) :: (a14) :: (a15) :: (a16) :: (a17) :: (a18) :: (a19) :: (a20) :: (b21) :: (b22) :: (b23) :: (b24) :: (b25) :: (b26) :: (b27) :: (b28) :: (a29) :: (a30) :: (a31) :: (a32) :: (a33) :: (a34) :: (a35) :: (a36) :: (a37) :: (a38) :: (a39) :: (a40) :: (a41) :: (a42) :: (a43) :: (a44) :: (a45) :: (a46) :: (a47) :: (a48) :: (a49) :: (a50) :: (a51) :: []), defers := [] } W') :
  ((Go.Code.region 9 #[{ dst := some 21, op := Go.Op.load 26 (Go.Operand.tmp 6), type := 26, pos := "law.go:71", after := #[], guard := none }, { dst := some 22, op := Go.Op.move (Go.Operand.tmp 7), type := 23, pos := "law.go:71", after := #[], guard := none }, { dst := some 23, op := Go.Op.call { callee := Go.Callee.value (Go.Operand.func 29), args := #[Go.Operand.tmp 22], argTypes := #[23] }, type := 23, pos := "law.go:71", after := #[{ on := 1, ground := Go.Ground.data }], guard := none }, { dst := some 24, op := Go.Op.move (Go.Operand.tmp 8), type := 23, pos := "law.go:71", after := #[], guard := none }, { dst := some 25, op := Go.Op.call { callee := Go.Callee.value (Go.Operand.func 29), args := #[Go.Operand.tmp 24], argTypes := #[23] }, type := 23, pos := "law.go:71", after := #[{ on := 3, ground := Go.Ground.data }, { on := 2, ground := Go.Ground.chain }], guard := none }, { dst := some 26, op := Go.Op.build 35 #[(0, Go.Operand.tmp 23), (1, Go.Operand.tmp 25)], type := 35, pos := "law.go:71", after := #[{ on := 2, ground := Go.Ground.data }, { on := 4, ground := Go.Ground.data }], guard := none }, { dst := some 27, op := Go.Op.buildSlice 26 1 #[(0, Go.Operand.tmp 26)], type := 26, pos := "law.go:71", after := #[{ on := 5, ground := Go.Ground.data }], guard := none }, { dst := some 28, op := Go.Op.call { callee := Go.Callee.builtin Go.Builtin.append, args := #[Go.Operand.tmp 21, Go.Operand.tmp 27], argTypes := #[26, 26] }, type := 26, pos := "law.go:71", after := #[{ on := 0, ground := Go.Ground.data }, { on := 6, ground := Go.Ground.data }, { on := 4, ground := Go.Ground.chain }], guard := none }, { dst := none, op := Go.Op.store 26 (Go.Operand.tmp 6) (Go.Operand.tmp 28), type := 0, pos := "law.go:71", after := #[{ on := 7, ground := Go.Ground.data }, { on := 7, ground := Go.Ground.chain }, { on := 0, ground := Go.Ground.phase }, { on := 1, ground := Go.Ground.phase }, { on := 2, ground := Go.Ground.phase }, { on := 3, ground := Go.Ground.phase }, { on := 4, ground := Go.Ground.phase }, { on := 5, ground := Go.Ground.phase }, { on := 6, ground := Go.Ground.phase }, { on := 7, ground := Go.Ground.phase }], guard := none }] true)).wpIn (Fence.wide.inRound l) n Tryz.prog (Exit.then K Q') { tmps := List.toArray ((a0) :: (a1) :: (a2) :: (a3) :: (a4) :: (a5) :: (.pointer (some ⟨B, 0, none⟩)) :: (.slice ka kl kc) :: (.slice va vl vc) :: (a9) :: (a10) :: (a11) :: (a12) :: (a13) :: (a14) :: (a15) :: (a16) :: (a17) :: (a18) :: (a19) :: (a20) :: (a21) :: (a22) :: (a23) :: (a24) :: (a25) :: (a26) :: (a27) :: (a28) :: (a29) :: (a30) :: (a31) :: (a32) :: (a33) :: (a34) :: (a35) :: (a36) :: (a37) :: (a38) :: (a39) :: (a40) :: (a41) :: (a42) :: (a43) :: (a44) :: (a45) :: (a46) :: (a47) :: (a48) :: (a49) :: (a50) :: (a51) :: []), defers := [] } W := by
 obtain ⟨ip, hip, hp0, hp1, hp2⟩ := info_parts info_pair10
 have d0 := cell_heap (i := 0) hbx rfl
 have d1 : W.drew.cell? ⟨B, 0, none⟩ = some (.slice la k lc) := d0
 have HBX := hid_intro hbx
 have HO := hid_intro ho
 have HKK := hid_intro hK
 have HK1 := hid_intro hk
 have HV1 := hid_intro hv
 have HKL := hid_intro hk.len
 have HVL := hid_intro hv.len
 clear hbx ho hK hk hv
 refine wpIn_mono (Q := okQ K) ?_ (fun e a w h => by cases e <;> first | exact h | exact h.elim)
 refine region_in (by kernel_rfl) (fun o ho => ?_) ?_
 ·simp at ho
  rcases ho with rfl | rfl | rfl | rfl | rfl | rfl | rfl | rfl | rfl <;> intro c hc <;> cases hc
 refine wpAny_take (i := 1) (oi := { dst := some 22, op := Go.Op.move (Go.Operand.tmp 7), type := 23, pos := "law.go:71", after := #[], guard := none }) (v := ?_) rfl (by kernel_rfl) (by kernel_rfl) (by kernel_rfl) (fun _ _ _ h => h) (Or.inl ⟨by rfl, ?_⟩) ?_
 rotate_left
 ·intro w; go_simp; (try with_reducible rfl)
 simp only [Act.put, List.setIfInBounds_toArray, List.set_cons_zero, List.set_cons_succ]
 refine wpAny_take (i := 3) (oi := { dst := some 24, op := Go.Op.move (Go.Operand.tmp 8), type := 23, pos := "law.go:71", after := #[], guard := none }) (v := ?_) rfl (by kernel_rfl) (by kernel_rfl) (by kernel_rfl) (fun _ _ _ h => h) (Or.inl ⟨by rfl, ?_⟩) ?_
 rotate_left
 ·intro w; go_simp; (try with_reducible rfl)
 simp only [Act.put, List.setIfInBounds_toArray, List.set_cons_zero, List.set_cons_succ]
 refine wpAny_ready (rs := [0, 2]) (by kernel_rfl) (by simp) ?_
 refine AllReady.cons (o := { dst := some 21, op := Go.Op.load 26 (Go.Operand.tmp 6), type := 26, pos := "law.go:71", after := #[], guard := none }) rfl (fun KK hKK => ?_) ?_
 ·go_simp
  refine hKK _ _ ?_
  clear hKK KK
  try simp only [Act.put, List.setIfInBounds_toArray, List.set_cons_zero, List.set_cons_succ]
  refine wpAny_ready (rs := [2]) (by kernel_rfl) (by simp) ?_
  refine AllReady.cons (o := { dst := some 23, op := Go.Op.call { callee := Go.Callee.value (Go.Operand.func 29), args := #[Go.Operand.tmp 22], argTypes := #[23] }, type := 23, pos := "law.go:71", after := #[{ on := 1, ground := Go.Ground.data }], guard := none }) rfl (fun KK hKK => ?_) AllReady.nil
  go_simp
  (with_reducible refine (refBytes_any ka kl kc key W.drew (HK1.out.heap rfl) (by omega)).mono ?_)
  rintro en w2 ⟨rfl, ho2, hg2, hs2⟩
  have O2 := hid_intro ho2
  have G2 := hid_intro (undrewW hg2)
  have S2 := hid_intro hs2
  have y2 := G2.out.cell d0 (by simp)
  clear ho2 hg2 hs2
  refine hKK _ _ ?_
  clear hKK KK
  try simp only [Act.put, List.setIfInBounds_toArray, List.set_cons_zero, List.set_cons_succ]
  refine wpAny_ready (rs := [4]) (by kernel_rfl) (by simp) ?_
  refine AllReady.cons (o := { dst := some 25, op := Go.Op.call { callee := Go.Callee.value (Go.Operand.func 29), args := #[Go.Operand.tmp 24], argTypes := #[23] }, type := 23, pos := "law.go:71", after := #[{ on := 3, ground := Go.Ground.data }, { on := 2, ground := Go.Ground.chain }], guard := none }) rfl (fun KK hKK => ?_) AllReady.nil
  go_simp
  (with_reducible refine (refBytes_any va vl vc val w2 (HV1.out.keptN G2.out) (by omega)).mono ?_)
  rintro en w3 ⟨rfl, ho3, hg3, hs3⟩
  have O3 := hid_intro ho3
  have G23 := hid_intro hg3
  have G3 := hid_intro (grown_trans G2.out hg3)
  have S3 := hid_intro hs3
  have y3 := G3.out.cell d0 (by simp)
  have y4 := (grown_al G3.out (.cells #[.slice (some ⟨W.heap.size, 0, none⟩) kl kl, .slice (some ⟨w2.heap.size, 0, none⟩) vl vl] 35)).cell d0 (by simp)
  clear ho3 hg3 hs3
  refine hKK _ _ ?_
  clear hKK KK
  try simp only [Act.put, List.setIfInBounds_toArray, List.set_cons_zero, List.set_cons_succ]
  refine wpAny_take (i := 5) (oi := { dst := some 26, op := Go.Op.build 35 #[(0, Go.Operand.tmp 23), (1, Go.Operand.tmp 25)], type := 35, pos := "law.go:71", after := #[{ on := 2, ground := Go.Ground.data }, { on := 4, ground := Go.Ground.data }], guard := none }) (v := ?_) rfl (by kernel_rfl) (by kernel_rfl) (by kernel_rfl) (fun _ _ _ h => h) (Or.inl ⟨by rfl, ?_⟩) ?_
  rotate_left
  ·intro w; go_simp; (try with_reducible rfl)
  simp only [Act.put, List.setIfInBounds_toArray, List.set_cons_zero, List.set_cons_succ]
  refine wpAny_ready (rs := [6]) (by kernel_rfl) (by simp) ?_
  refine AllReady.cons (o := { dst := some 27, op := Go.Op.buildSlice 26 1 #[(0, Go.Operand.tmp 26)], type := 26, pos := "law.go:71", after := #[{ on := 5, ground := Go.Ground.data }], guard := none }) rfl (fun KK hKK => ?_) AllReady.nil
  go_simp
  refine hKK _ _ ?_
  clear hKK KK
  try simp only [Act.put, List.setIfInBounds_toArray, List.set_cons_zero, List.set_cons_succ]
  refine wpAny_ready (rs := [7]) (by kernel_rfl) (by simp) ?_
  refine AllReady.cons (o := { dst := some 28, op := Go.Op.call { callee := Go.Callee.builtin Go.Builtin.append, args := #[Go.Operand.tmp 21, Go.Operand.tmp 27], argTypes := #[26, 26] }, type := 26, pos := "law.go:71", after := #[{ on := 0, ground := Go.Ground.data }, { on := 6, ground := Go.Ground.data }, { on := 4, ground := Go.Ground.chain }], guard := none }) rfl (fun KK hKK => ?_) AllReady.nil
  rw [if_pos (by rfl)]
  unfold Oper.wp
  obtain ⟨v9, w9, hrun, r1, r2, _⟩ := run_append_own_at (P := Tryz.prog) (w3.alloc (.cells #[.slice (some ⟨W.heap.size, 0, none⟩) kl kl, .slice (some ⟨w2.heap.size, 0, none⟩) vl vl] 35)) m 26 26 35 ip (.agg #[.slice none 0 0, .slice none 0 0]) 2 48 Tryz.underlying26 hip hp0 hp1 hp2 rfl (by decide) (.slice la k lc) k xs ((HO.out.kept G3.out (Classical.em _)).alloc _) ⟨w3.heap.size, 0, none⟩ 1 1 [.slice (some ⟨W.heap.size, 0, none⟩) kl kl, .slice (some ⟨w2.heap.size, 0, none⟩) vl vl] rfl (by intro j u hu; rw [Addr.add_lit, cell_of_row _ w3.heap.size _ _ _ (0, 0) (heap_alloc_new w3 _), Nat.zero_add]; simpa using hu) (by simp [Value.oneCell']) (by unfold maxLen; omega) (by omega) (by have := G3.out.size; simp; omega)
  obtain ⟨x9, c9, hv9⟩ := own_shape10 r1
  subst hv9
  simp [execOp, resolve, invoke, builtin, Act.eval, hrun, Result.andThen]
  clear hrun
  have fin := fin9 HBX.out HO.out hB hm G2.out S2.out G23.out O2.out O3.out r1 r2 HKL.out HVL.out
  have f9 := frozen_of_row w9 B 0 _ _ fin.1
  have e9 := cell_heap (i := 0) fin.1 rfl
  refine hKK _ _ ?_
  clear hKK KK
  try simp only [Act.put, List.setIfInBounds_toArray, List.set_cons_zero, List.set_cons_succ]
  refine wpAny_ready (rs := [8]) (by kernel_rfl) (by simp) ?_
  refine AllReady.cons (o := { dst := none, op := Go.Op.store 26 (Go.Operand.tmp 6) (Go.Operand.tmp 28), type := 0, pos := "law.go:71", after := #[{ on := 7, ground := Go.Ground.data }, { on := 7, ground := Go.Ground.chain }, { on := 0, ground := Go.Ground.phase }, { on := 1, ground := Go.Ground.phase }, { on := 2, ground := Go.Ground.phase }, { on := 3, ground := Go.Ground.phase }, { on := 4, ground := Go.Ground.phase }, { on := 5, ground := Go.Ground.phase }, { on := 6, ground := Go.Ground.phase }, { on := 7, ground := Go.Ground.phase }], guard := none }) rfl (fun KK hKK => ?_) AllReady.nil
  go_simp
  refine hKK _ _ (wpAny_done (by kernel_rfl) (HKK.out _ _ _ _ _ _ _ _ _ _ _ _ fin.2) _)
 refine AllReady.cons (o := { dst := some 23, op := Go.Op.call { callee := Go.Callee.value (Go.Operand.func 29), args := #[Go.Operand.tmp 22], argTypes := #[23] }, type := 23, pos := "law.go:71", after := #[{ on := 1, ground := Go.Ground.data }], guard := none }) rfl (fun KK hKK => ?_) AllReady.nil
 go_simp
 (with_reducible refine (refBytes_any ka kl kc key W.drew (HK1.out.heap rfl) (by omega)).mono ?_)
 rintro en w2 ⟨rfl, ho2, hg2, hs2⟩
 have O2 := hid_intro ho2
 have G2 := hid_intro (undrewW hg2)
 have S2 := hid_intro hs2
 have y2 := G2.out.cell d0 (by simp)
 clear ho2 hg2 hs2
 refine hKK _ _ ?_
 clear hKK KK
 try simp only [Act.put, List.setIfInBounds_toArray, List.set_cons_zero, List.set_cons_succ]
 refine wpAny_ready (rs := [0, 4]) (by kernel_rfl) (by simp) ?_
 refine AllReady.cons (o := { dst := some 21, op := Go.Op.load 26 (Go.Operand.tmp 6), type := 26, pos := "law.go:71", after := #[], guard := none }) rfl (fun KK hKK => ?_) ?_
 ·go_simp
  refine hKK _ _ ?_
  clear hKK KK
  try simp only [Act.put, List.setIfInBounds_toArray, List.set_cons_zero, List.set_cons_succ]
  refine wpAny_ready (rs := [4]) (by kernel_rfl) (by simp) ?_
  refine AllReady.cons (o := { dst := some 25, op := Go.Op.call { callee := Go.Callee.value (Go.Operand.func 29), args := #[Go.Operand.tmp 24], argTypes := #[23] }, type := 23, pos := "law.go:71", after := #[{ on := 3, ground := Go.Ground.data }, { on := 2, ground := Go.Ground.chain }], guard := none }) rfl (fun KK hKK => ?_) AllReady.nil
  go_simp
  (with_reducible refine (refBytes_any va vl vc val w2 (HV1.out.keptN G2.out) (by omega)).mono ?_)
  rintro en w3 ⟨rfl, ho3, hg3, hs3⟩
  have O3 := hid_intro ho3
  have G23 := hid_intro hg3
  have G3 := hid_intro (grown_trans G2.out hg3)
  have S3 := hid_intro hs3
  have y3 := G3.out.cell d0 (by simp)
  have y4 := (grown_al G3.out (.cells #[.slice (some ⟨W.heap.size, 0, none⟩) kl kl, .slice (some ⟨w2.heap.size, 0, none⟩) vl vl] 35)).cell d0 (by simp)
  clear ho3 hg3 hs3
  refine hKK _ _ ?_
  clear hKK KK
  try simp only [Act.put, List.setIfInBounds_toArray, List.set_cons_zero, List.set_cons_succ]
  refine wpAny_take (i := 5) (oi := { dst := some 26, op := Go.Op.build 35 #[(0, Go.Operand.tmp 23), (1, Go.Operand.tmp 25)], type := 35, pos := "law.go:71", after := #[{ on := 2, ground := Go.Ground.data }, { on := 4, ground := Go.Ground.data }], guard := none }) (v := ?_) rfl (by kernel_rfl) (by kernel_rfl) (by kernel_rfl) (fun _ _ _ h => h) (Or.inl ⟨by rfl, ?_⟩) ?_
  rotate_left
  ·intro w; go_simp; (try with_reducible rfl)
  simp only [Act.put, List.setIfInBounds_toArray, List.set_cons_zero, List.set_cons_succ]
  refine wpAny_ready (rs := [6]) (by kernel_rfl) (by simp) ?_
  refine AllReady.cons (o := { dst := some 27, op := Go.Op.buildSlice 26 1 #[(0, Go.Operand.tmp 26)], type := 26, pos := "law.go:71", after := #[{ on := 5, ground := Go.Ground.data }], guard := none }) rfl (fun KK hKK => ?_) AllReady.nil
  go_simp
  refine hKK _ _ ?_
  clear hKK KK
  try simp only [Act.put, List.setIfInBounds_toArray, List.set_cons_zero, List.set_cons_succ]
  refine wpAny_ready (rs := [7]) (by kernel_rfl) (by simp) ?_
  refine AllReady.cons (o := { dst := some 28, op := Go.Op.call { callee := Go.Callee.builtin Go.Builtin.append, args := #[Go.Operand.tmp 21, Go.Operand.tmp 27], argTypes := #[26, 26] }, type := 26, pos := "law.go:71", after := #[{ on := 0, ground := Go.Ground.data }, { on := 6, ground := Go.Ground.data }, { on := 4, ground := Go.Ground.chain }], guard := none }) rfl (fun KK hKK => ?_) AllReady.nil
  rw [if_pos (by rfl)]
  unfold Oper.wp
  obtain ⟨v9, w9, hrun, r1, r2, _⟩ := run_append_own_at (P := Tryz.prog) (w3.alloc (.cells #[.slice (some ⟨W.heap.size, 0, none⟩) kl kl, .slice (some ⟨w2.heap.size, 0, none⟩) vl vl] 35)) m 26 26 35 ip (.agg #[.slice none 0 0, .slice none 0 0]) 2 48 Tryz.underlying26 hip hp0 hp1 hp2 rfl (by decide) (.slice la k lc) k xs ((HO.out.kept G3.out (Classical.em _)).alloc _) ⟨w3.heap.size, 0, none⟩ 1 1 [.slice (some ⟨W.heap.size, 0, none⟩) kl kl, .slice (some ⟨w2.heap.size, 0, none⟩) vl vl] rfl (by intro j u hu; rw [Addr.add_lit, cell_of_row _ w3.heap.size _ _ _ (0, 0) (heap_alloc_new w3 _), Nat.zero_add]; simpa using hu) (by simp [Value.oneCell']) (by unfold maxLen; omega) (by omega) (by have := G3.out.size; simp; omega)
  obtain ⟨x9, c9, hv9⟩ := own_shape10 r1
  subst hv9
  simp [execOp, resolve, invoke, builtin, Act.eval, hrun, Result.andThen]
  clear hrun
  have fin := fin9 HBX.out HO.out hB hm G2.out S2.out G23.out O2.out O3.out r1 r2 HKL.out HVL.out
  have f9 := frozen_of_row w9 B 0 _ _ fin.1
  have e9 := cell_heap (i := 0) fin.1 rfl
  refine hKK _ _ ?_
  clear hKK KK
  try simp only [Act.put, List.setIfInBounds_toArray, List.set_cons_zero, List.set_cons_succ]
  refine wpAny_ready (rs := [8]) (by kernel_rfl) (by simp) ?_
  refine AllReady.cons (o := { dst := none, op := Go.Op.store 26 (Go.Operand.tmp 6) (Go.Operand.tmp 28), type := 0, pos := "law.go:71", after := #[{ on := 7, ground := Go.Ground.data }, { on := 7, ground := Go.Ground.chain }, { on := 0, ground := Go.Ground.phase }, { on := 1, ground := Go.Ground.phase }, { on := 2, ground := Go.Ground.phase }, { on := 3, ground := Go.Ground.phase }, { on := 4, ground := Go.Ground.phase }, { on := 5, ground := Go.Ground.phase }, { on := 6, ground := Go.Ground.phase }, { on := 7, ground := Go.Ground.phase }], guard := none }) rfl (fun KK hKK => ?_) AllReady.nil
  go_simp
  refine hKK _ _ (wpAny_done (by kernel_rfl) (HKK.out _ _ _ _ _ _ _ _ _ _ _ _ fin.2) _)
 refine AllReady.cons (o := { dst := some 25, op := Go.Op.call { callee := Go.Callee.value (Go.Operand.func 29), args := #[Go.Operand.tmp 24], argTypes := #[23] }, type := 23, pos := "law.go:71", after := #[{ on := 3, ground := Go.Ground.data }, { on := 2, ground := Go.Ground.chain }], guard := none }) rfl (fun KK hKK => ?_) AllReady.nil
 go_simp
 (with_reducible refine (refBytes_any va vl vc val w2 (HV1.out.keptN G2.out) (by omega)).mono ?_)
 rintro en w3 ⟨rfl, ho3, hg3, hs3⟩
 have O3 := hid_intro ho3
 have G23 := hid_intro hg3
 have G3 := hid_intro (grown_trans G2.out hg3)
 have S3 := hid_intro hs3
 have y3 := G3.out.cell d0 (by simp)
 have y4 := (grown_al G3.out (.cells #[.slice (some ⟨W.heap.size, 0, none⟩) kl kl, .slice (some ⟨w2.heap.size, 0, none⟩) vl vl] 35)).cell d0 (by simp)
 clear ho3 hg3 hs3
 refine hKK _ _ ?_
 clear hKK KK
 try simp only [Act.put, List.setIfInBounds_toArray, List.set_cons_zero, List.set_cons_succ]
 refine wpAny_take (i := 5) (oi := { dst := some 26, op := Go.Op.build 35 #[(0, Go.Operand.tmp 23), (1, Go.Operand.tmp 25)], type := 35, pos := "law.go:71", after := #[{ on := 2, ground := Go.Ground.data }, { on := 4, ground := Go.Ground.data }], guard := none }) (v := ?_) rfl (by kernel_rfl) (by kernel_rfl) (by kernel_rfl) (fun _ _ _ h => h) (Or.inl ⟨by rfl, ?_⟩) ?_
 rotate_left
 ·intro w; go_simp; (try with_reducible rfl)
 simp only [Act.put, List.setIfInBounds_toArray, List.set_cons_zero, List.set_cons_succ]
 refine wpAny_ready (rs := [0, 6]) (by kernel_rfl) (by simp) ?_
 refine AllReady.cons (o := { dst := some 21, op := Go.Op.load 26 (Go.Operand.tmp 6), type := 26, pos := "law.go:71", after := #[], guard := none }) rfl (fun KK hKK => ?_) ?_
 ·go_simp
  refine hKK _ _ ?_
  clear hKK KK
  try simp only [Act.put, List.setIfInBounds_toArray, List.set_cons_zero, List.set_cons_succ]
  refine wpAny_ready (rs := [6]) (by kernel_rfl) (by simp) ?_
  refine AllReady.cons (o := { dst := some 27, op := Go.Op.buildSlice 26 1 #[(0, Go.Operand.tmp 26)], type := 26, pos := "law.go:71", after := #[{ on := 5, ground := Go.Ground.data }], guard := none }) rfl (fun KK hKK => ?_) AllReady.nil
  go_simp
  refine hKK _ _ ?_
  clear hKK KK
  try simp only [Act.put, List.setIfInBounds_toArray, List.set_cons_zero, List.set_cons_succ]
  refine wpAny_ready (rs := [7]) (by kernel_rfl) (by simp) ?_
  refine AllReady.cons (o := { dst := some 28, op := Go.Op.call { callee := Go.Callee.builtin Go.Builtin.append, args := #[Go.Operand.tmp 21, Go.Operand.tmp 27], argTypes := #[26, 26] }, type := 26, pos := "law.go:71", after := #[{ on := 0, ground := Go.Ground.data }, { on := 6, ground := Go.Ground.data }, { on := 4, ground := Go.Ground.chain }], guard := none }) rfl (fun KK hKK => ?_) AllReady.nil
  rw [if_pos (by rfl)]
  unfold Oper.wp
  obtain ⟨v9, w9, hrun, r1, r2, _⟩ := run_append_own_at (P := Tryz.prog) (w3.alloc (.cells #[.slice (some ⟨W.heap.size, 0, none⟩) kl kl, .slice (some ⟨w2.heap.size, 0, none⟩) vl vl] 35)) m 26 26 35 ip (.agg #[.slice none 0 0, .slice none 0 0]) 2 48 Tryz.underlying26 hip hp0 hp1 hp2 rfl (by decide) (.slice la k lc) k xs ((HO.out.kept G3.out (Classical.em _)).alloc _) ⟨w3.heap.size, 0, none⟩ 1 1 [.slice (some ⟨W.heap.size, 0, none⟩) kl kl, .slice (some ⟨w2.heap.size, 0, none⟩) vl vl] rfl (by intro j u hu; rw [Addr.add_lit, cell_of_row _ w3.heap.size _ _ _ (0, 0) (heap_alloc_new w3 _), Nat.zero_add]; simpa using hu) (by simp [Value.oneCell']) (by unfold maxLen; omega) (by omega) (by have := G3.out.size; simp; omega)
  obtain ⟨x9, c9, hv9⟩ := own_shape10 r1
  subst hv9
  simp [execOp, resolve, invoke, builtin, Act.eval, hrun, Result.andThen]
  clear hrun
  have fin := fin9 HBX.out HO.out hB hm G2.out S2.out G23.out O2.out O3.out r1 r2 HKL.out HVL.out
  have f9 := frozen_of_row w9 B 0 _ _ fin.1
  have e9 := cell_heap (i := 0) fin.1 rfl
  refine hKK _ _ ?_
  clear hKK KK
  try simp only [Act.put, List.setIfInBounds_toArray, List.set_cons_zero, List.set_cons_succ]
  refine wpAny_ready (rs := [8]) (by kernel_rfl) (by simp) ?_
  refine AllReady.cons (o := { dst := none, op := Go.Op.store 26 (Go.Operand.tmp 6) (Go.Operand.tmp 28), type := 0, pos := "law.go:71", after := #[{ on := 7, ground := Go.Ground.data }, { on := 7, ground := Go.Ground.chain }, { on := 0, ground := Go.Ground.phase }, { on := 1, ground := Go.Ground.phase }, { on := 2, ground := Go.Ground.phase }, { on := 3, ground := Go.Ground.phase }, { on := 4, ground := Go.Ground.phase }, { on := 5, ground := Go.Ground.phase }, { on := 6, ground := Go.Ground.phase }, { on := 7, ground := Go.Ground.phase }], guard := none }) rfl (fun KK hKK => ?_) AllReady.nil
  go_simp
  refine hKK _ _ (wpAny_done (by kernel_rfl) (HKK.out _ _ _ _ _ _ _ _ _ _ _ _ fin.2) _)
 refine AllReady.cons (o := { dst := some 27, op := Go.Op.buildSlice 26 1 #[(0, Go.Operand.tmp 26)], type := 26, pos := "law.go:71", after := #[{ on := 5, ground := Go.Ground.data }], guard := none }) rfl (fun KK hKK => ?_) AllReady.nil
 go_simp
 refine hKK _ _ ?_
 clear hKK KK
 try simp only [Act.put, List.setIfInBounds_toArray, List.set_cons_zero, List.set_cons_succ]
 refine wpAny_ready (rs := [0]) (by kernel_rfl) (by simp) ?_
 refine AllReady.cons (o := { dst := some 21, op := Go.Op.load 26 (Go.Operand.tmp 6), type := 26, pos := "law.go:71", after := #[], guard := none }) rfl (fun KK hKK => ?_) AllReady.nil
 go_simp
 refine hKK _ _ ?_
 clear hKK KK
 try simp only [Act.put, List.setIfInBounds_toArray, List.set_cons_zero, List.set_cons_succ]
 refine wpAny_ready (rs := [7]) (by kernel_rfl) (by simp) ?_
 refine AllReady.cons (o := { dst := some 28, op := Go.Op.call { callee := Go.Callee.builtin Go.Builtin.append, args := #[Go.Operand.tmp 21, Go.Operand.tmp 27], argTypes := #[26, 26] }, type := 26, pos := "law.go:71", after := #[{ on := 0, ground := Go.Ground.data }, { on := 6, ground := Go.Ground.data }, { on := 4, ground := Go.Ground.chain }], guard := none }) rfl (fun KK hKK => ?_) AllReady.nil
 rw [if_pos (by rfl)]
 unfold Oper.wp
 obtain ⟨v9, w9, hrun, r1, r2, _⟩ := run_append_own_at (P := Tryz.prog) (w3.alloc (.cells #[.slice (some ⟨W.heap.size, 0, none⟩) kl kl, .slice (some ⟨w2.heap.size, 0, none⟩) vl vl] 35)) m 26 26 35 ip (.agg #[.slice none 0 0, .slice none 0 0]) 2 48 Tryz.underlying26 hip hp0 hp1 hp2 rfl (by decide) (.slice la k lc) k xs ((HO.out.kept G3.out (Classical.em _)).alloc _) ⟨w3.heap.size, 0, none⟩ 1 1 [.slice (some ⟨W.heap.size, 0, none⟩) kl kl, .slice (some ⟨w2.heap.size, 0, none⟩) vl vl] rfl (by intro j u hu; rw [Addr.add_lit, cell_of_row _ w3.heap.size _ _ _ (0, 0) (heap_alloc_new w3 _), Nat.zero_add]; simpa using hu) (by simp [Value.oneCell']) (by unfold maxLen; omega) (by omega) (by have := G3.out.size; simp; omega)
 obtain ⟨x9, c9, hv9⟩ := own_shape10 r1
 subst hv9
 simp [execOp, resolve, invoke, builtin, Act.eval, hrun, Result.andThen]
 clear hrun
 have fin := fin9 HBX.out HO.out hB hm G2.out S2.out G23.out O2.out O3.out r1 r2 HKL.out HVL.out
 have f9 := frozen_of_row w9 B 0 _ _ fin.1
 have e9 := cell_heap (i := 0) fin.1 rfl
 refine hKK _ _ ?_
 clear hKK KK
 try simp only [Act.put, List.setIfInBounds_toArray, List.set_cons_zero, List.set_cons_succ]
 refine wpAny_ready (rs := [8]) (by kernel_rfl) (by simp) ?_
 refine AllReady.cons (o := { dst := none, op := Go.Op.store 26 (Go.Operand.tmp 6) (Go.Operand.tmp 28), type := 0, pos := "law.go:71", after := #[{ on := 7, ground := Go.Ground.data }, { on := 7, ground := Go.Ground.chain }, { on := 0, ground := Go.Ground.phase }, { on := 1, ground := Go.Ground.phase }, { on := 2, ground := Go.Ground.phase }, { on := 3, ground := Go.Ground.phase }, { on := 4, ground := Go.Ground.phase }, { on := 5, ground := Go.Ground.phase }, { on := 6, ground := Go.Ground.phase }, { on := 7, ground := Go.Ground.phase }], guard := none }) rfl (fun KK hKK => ?_) AllReady.nil
 go_simp
 refine hKK _ _ (wpAny_done (by kernel_rfl) (HKK.out _ _ _ _ _ _ _ _ _ _ _ _ fin.2) _)
end Go.Proofs.YtndanifjommpdaaGreat
namespace Go.Proofs.YtndanifjommpdaaGreat
open Go.RowKit Go.Shelf
attribute [local go_sem] Oper.semAt_some
def BoW (w : World) (base : Nat) (e : List Value) (p : PrT) : Prop := ∃ kv vv, e = [kv, vv] ∧ w.ownsRow base 5 1 kv p.key.length (p.key.map (Value.int .u8)) ∧ w.ownsRow base 5 1 vv p.val.length (p.val.map (Value.int .u8))
theorem BoW.same {w w' : World} {base : Nat} {e : List Value} {p : PrT} (h : BoW w base e p) (hb : ∀ b, base ≤ b → TgT w b 5 → w'.heap[b]? = w.heap[b]?) : BoW w' base e p := by
 obtain ⟨kv, vv, h1, h2, h3⟩ := h
 exact ⟨kv, vv, h1, own_blk h2 fun i e ht => hb i (own_lt10 h2 e).1 ht, own_blk h3 fun i e ht => hb i (own_lt10 h3 e).1 ht⟩
theorem BoW.bp {w : World} {base : Nat} {e : List Value} {p : PrT} (h : BoW w base e p) : BpW w e p := by
 obtain ⟨kv, vv, h1, h2, h3⟩ := h
 obtain ⟨ka, kc, rfl⟩ := own_shape10 h2
 obtain ⟨va, vc, rfl⟩ := own_shape10 h3
 exact ⟨ka, kc, va, vc, h1, own_bytT h2, own_bytT h3⟩
structure PoW (w : World) (base : Nat) (es : List (List Value)) (L : List PrT) : Prop where
 len : es.length = L.length
 get : ∀ (i : Nat) (e : List Value) (p : PrT), es[i]? = some e → L[i]? = some p → BoW w base e p
theorem PoW.nil (w : World) (base : Nat) : PoW w base [] [] := ⟨rfl, fun i e p h _ => by simp at h⟩
theorem PoW.same {w w' : World} {base : Nat} {es : List (List Value)} {L : List PrT} (h : PoW w base es L) (hb : ∀ b, base ≤ b → TgT w b 5 → w'.heap[b]? = w.heap[b]?) : PoW w' base es L := ⟨h.len, fun i e p h1 h2 => (h.get i e p h1 h2).same hb⟩
theorem PoW.ps {w : World} {base : Nat} {es : List (List Value)} {L : List PrT} (h : PoW w base es L) : PsW w es L := ⟨h.len, fun i e p h1 h2 => (h.get i e p h1 h2).bp⟩
theorem PoW.snoc {w : World} {base : Nat} {es : List (List Value)} {L : List PrT} {e : List Value} {p : PrT} (h : PoW w base es L) (k : BoW w base e p) : PoW w base (es ++ [e]) (L ++ [p]) := by
 have hl := h.len
 refine ⟨by simp [hl], fun i e' p' h1 h2 => ?_⟩
 by_cases hi : i < es.length
 ·rw [List.getElem?_append_left hi] at h1
  rw [List.getElem?_append_left (by omega)] at h2
  exact h.get i e' p' h1 h2
 ·rw [List.getElem?_append_right (by omega)] at h1
  rw [List.getElem?_append_right (by omega), ← hl] at h2
  match hj : i - es.length, h1, h2 with
  | 0, h1, h2 => simp at h1 h2; subst h1 h2; exact k
  | _ + 1, h1, _ => simp at h1
theorem run_equalIn_nilf {P : Program} (w : World) (d : Nat) (t : TypeId) {a : Array TypeId} {b : Array TypeId} {c : Bool} (h : P.underlying t = some (.func a b c)) (gf : Fn) (x y : Array Value) : (Op.equalIn (d + 1) t (.func gf x y) .nilFunc).run P w = .ok false w := by
 simp [Op.equalIn, run_underlying h]
theorem eql_nilf (gf : Nat) (lb : Array Value) (w : World) : (binOp .eql 32 (.func (.func gf) #[] lb) .nilFunc).run Tryz.prog w = .ok (.bool false) w := by
 simp only [binOp]
 simp [Op.equal, Op.maxDepth, run_equalIn_nilf w 9999 32 Tryz.underlying32 (.func gf) #[] lb]
structure GaT (w : World) (B0 B1 B2 B3 n0 n m : Nat) (pre : List PgT) (W : World) : Prop where
 li : W.heap[B0]? = some (.cells #[.int .i64 (n : Nat)] 3 (0, 0))
 ra : W.heap[B1]? = some (.cells #[.slice none 0 0] 26 (0, 0))
 rb : W.heap[B2]? = some (.cells #[.bool false] 4 (0, 0))
 bx : ∃ v es, W.heap[B3]? = some (.cells #[v] 26 (0, 0)) ∧ W.ownsRow m 35 2 v pre.length es.flatten ∧ PoW W m es (pre.map fun x => x.2.2)
 ce : w.grownBy W none
 sz : m ≤ W.heap.size
 nm : n0 ≤ m
theorem GaT.cef {w : World} {B0 B1 B2 B3 n0 n m : Nat} {pre : List PgT} {W W' : World} (h : GaT w B0 B1 B2 B3 n0 n m pre W) (hc : CeF W W') (hg : w.grownBy W' none) (hs : W.heap.size ≤ W'.heap.size) : GaT w B0 B1 B2 B3 n0 n m pre W' := by
 obtain ⟨v, es, h1, h2, h3⟩ := h.bx
 exact ⟨hc _ _ _ _ h.li, hc _ _ _ _ h.ra, hc _ _ _ _ h.rb, ⟨v, es, hc _ _ _ _ h1, own_cef h2 hc, h3.same fun b _ ht => tg_same (by decide) hc.frt ht⟩, hg, Nat.le_trans h.sz hs, h.nm⟩
theorem GaT.step {w W W' Wf : World} {B0 B1 B2 B3 n0 n m k lc : Nat} {la : Option Addr} {pre : List PgT} {x : PgT} {es : List (List Value)} {v' kv vv : Value} (h : GaT w B0 B1 B2 B3 n0 n m pre W) (hl : pre.length = k) (ho : W.ownsRow m 35 2 (.slice la k lc) k es.flatten) (hp : PoW W m es (pre.map fun x => x.2.2))
  (g : G9 W W' B3 m (.slice la k lc) v' kv vv k es.flatten x.2.2.key x.2.2.val) (hB : B0 = w.heap.size ∧ B1 = B0 + 1 ∧ B2 = B1 + 1 ∧ B3 = B2 + 1 ∧ B3 < n0) (hx : ∀ b, blkP x b → n0 ≤ b ∧ b < m) (hf : ∀ b, ¬ blkP x b → Wf.heap[b]? = W'.heap[b]?) (hz : W'.heap.size ≤ Wf.heap.size) (hgr : w.grownBy Wf none) :
  GaT w B0 B1 B2 B3 n0 n m (pre ++ [x]) Wf ∧ KpW n0 m (blkP x) W Wf := by
 have hn := h.nm
 have hsz := h.sz
 have lo : ∀ b, b < n0 → b ≠ B3 → Wf.heap[b]? = W.heap[b]? := fun b h1 h2 => (hf b (fun e => by have := (hx b e).1; omega)).trans (g.sm b (by omega) h2)
 have up : ∀ b, m ≤ b → Wf.heap[b]? = W'.heap[b]? := fun b h1 => hf b (fun e => by have := (hx b e).2; omega)
 refine ⟨⟨?_, ?_, ?_, ⟨v', es ++ [[kv, vv]], ?_, ?_, ?_⟩, ?_, ?_, hn⟩, fun b h1 h2 h3 => (hf b h3).trans (g.sm b h2 (by omega))⟩
 ·rw [lo B0 (by omega) (by omega)]; exact h.li
 ·rw [lo B1 (by omega) (by omega)]; exact h.ra
 ·rw [lo B2 (by omega) (by omega)]; exact h.rb
 ·rw [hf B3 (fun e => by have := (hx B3 e).1; omega)]; exact g.bx
 ·rw [List.length_append, hl, List.flatten_append]
  refine own_blk (by simpa using g.ow) fun i e _ => up i (own_lt10 g.ow e).1
 ·rw [List.map_append]
  refine PoW.snoc ?_ ?_
  ·refine hp.same fun b h1 h2 => (up b h1).trans ?_
   obtain ⟨_, _, h3⟩ := h2
   have hb := (Array.getElem?_eq_some_iff.1 h3).1
   refine g.ol b (fun e => ?_) (by omega) hb
   exact tg_ne ⟨_, _, h3⟩ (own_lt10 ho e).2.2 (by decide) rfl
  ·refine BoW.same (w := W') ⟨kv, vv, rfl, own_low g.kv hsz, own_low g.vv hsz⟩ fun b h1 _ => up b h1
 ·exact hgr
 ·have := g.ko.size
  omega
theorem results_two {fn : Func} {p u : Tmp} (h : fn.results = #[.cell p 26, .cell u 4]) (tmps : Array Value) (w : World) (g g2 : Nat) (x v : Value) (hp : tmps.getD p undef = .pointer (some ⟨g, 0, none⟩)) (hr : w.cell? ⟨g, 0, none⟩ = some x) (hu : tmps.getD u undef = .pointer (some ⟨g2, 0, none⟩)) (hc : w.cell? ⟨g2, 0, none⟩ = some v) :
  (results fn tmps).run Tryz.prog w = .ok (.tuple #[x, v]) w := by
 have hp' : tmps[p]?.getD undef = .pointer (some ⟨g, 0, none⟩) := by simpa using hp
 have hu' : tmps[u]?.getD undef = .pointer (some ⟨g2, 0, none⟩) := by simpa using hu
 simp [results, h, hp', hu', asAddr, go_sem, hr, hc]
theorem own_putW {w : World} {base g n c k : Nat} {zs : List Int} {z : Int} (h : w.ownsRow base 5 1 (.slice (some ⟨g, 0, none⟩) n c) n (zs.map (Value.int .u8))) : (w.setCell ⟨g, k, none⟩ (.int .u8 z)).ownsRow base 5 1 (.slice (some ⟨g, 0, none⟩) n c) n ((zs.set k z).map (Value.int .u8)) := by
 have h1 := h.1
 refine ⟨by simpa using h1, ?_⟩
 rcases h.2 with ⟨e, _⟩ | ⟨g', cap, cur, e1, e2, e3, e4, e5, e6, e7⟩
 ·cases e
 ·simp only [Value.slice.injEq, Option.some.injEq, Addr.mk.injEq, and_true] at e1
  obtain ⟨e1, _, rfl⟩ := e1
  subst e1
  refine .inr ⟨g, c, _, rfl, e2, heap_setCell_same w g k _ _ (.int .u8 z) e3, e4, e5, by rw [Array.size_setIfInBounds]; exact e6, ?_⟩
  rw [Array.toList_setIfInBounds, List.take_set, e7, List.map_set]
theorem own_atW {w : World} {base n : Nat} {ao : Option Addr} {c : Nat} {zs : List Int} (h : w.ownsRow base 5 1 (.slice ao n c) n (zs.map (Value.int .u8))) {i : Nat} (hi : i < n) : ∃ g v, ao = some ⟨g, 0, none⟩ ∧ w.cell? ⟨g, i, none⟩ = some v ∧ w.frozen? ⟨g, i, none⟩ = false := by
 have h1 := h.1
 rcases h.2 with ⟨_, e⟩ | ⟨g, cap, cur, e1, e2, e3, e4, e5, e6, e7⟩
 ·omega
 ·injection e1 with e1
  have hc : i < cur.size := by omega
  exact ⟨g, cur[i], e1, cell_heap e3 (Array.getElem?_eq_getElem hc), frozen_of_row w g i _ _ e3⟩
structure WrP (W W1 : World) (lo : Nat) (v : Value) (n : Nat) : Prop where
 ow : ∃ zs : List Int, W1.ownsRow lo 5 1 v n (zs.map (Value.int .u8))
 sm : ∀ b, v.ownBlock ≠ some b → W1.heap[b]? = W.heap[b]?
 ko : KeepsOthers W W1
 gr : W.grownBy W1 v.ownBlock
theorem WrP.put {W W1 : World} {lo g n c k : Nat} {z : Int} (h : WrP W W1 lo (.slice (some ⟨g, 0, none⟩) n c) n) : WrP W (W1.setCell ⟨g, k, none⟩ (.int .u8 z)) lo (.slice (some ⟨g, 0, none⟩) n c) n := by
 obtain ⟨zs, h1⟩ := h.ow
 refine ⟨⟨_, own_putW (k := k) (z := z) h1⟩, fun b hb => ?_, h.ko.trans (KeepsOthers.setCell _ _ _), grown_trans h.gr (grown_cell _ g k _)⟩
 refine (Below.heap_setCell _ ⟨g, k, none⟩ _ b ?_).trans (h.sm b hb)
 intro e
 exact hb (by rw [e]; rfl)
theorem GaT.fin {w W : World} {B0 B1 B2 B3 n0 n m D : Nat} {pre : List PgT} {v : Value} {es : List (List Value)} (h : GaT w B0 B1 B2 B3 n0 n m pre W) (ho : W.ownsRow m 35 2 v pre.length es.flatten) (hp : PoW W m es (pre.map fun x => x.2.2)) (hB : B0 = w.heap.size ∧ B1 = B0 + 1 ∧ B2 = B1 + 1 ∧ B3 = B2 + 1 ∧ B3 < n0) (hK : W.heap[D]? = some (.deferred (some []))) (hD : w.heap.size ≤ D) :
  ∃ a c, v = .slice a pre.length c ∧ MpW (((W.setCell ⟨B1, 0, none⟩ v).setCell ⟨B2, 0, none⟩ (.bool true)).putObj D (.deferred none)) a pre.length c (pre.map fun x => x.2.2) ∧ w.grownBy (((W.setCell ⟨B1, 0, none⟩ v).setCell ⟨B2, 0, none⟩ (.bool true)).putObj D (.deferred none)) none ∧
   (((W.setCell ⟨B1, 0, none⟩ v).setCell ⟨B2, 0, none⟩ (.bool true)).putObj D (.deferred none)).cell? ⟨B1, 0, none⟩ = some v ∧ (((W.setCell ⟨B1, 0, none⟩ v).setCell ⟨B2, 0, none⟩ (.bool true)).putObj D (.deferred none)).cell? ⟨B2, 0, none⟩ = some (.bool true) ∧ ((W.setCell ⟨B1, 0, none⟩ v).setCell ⟨B2, 0, none⟩ (.bool true)).heap[D]? = some (.deferred (some [])) := by
 have hn := h.nm
 have nd : ∀ b cs t z, W.heap[b]? = some (.cells cs t z) → b ≠ D := fun b cs t z e e2 => by subst e2; rw [hK] at e; cases e
 have s2 : ∀ b, b ≠ B1 → b ≠ B2 → ((W.setCell ⟨B1, 0, none⟩ v).setCell ⟨B2, 0, none⟩ (.bool true)).heap[b]? = W.heap[b]? := fun b h1 h2 => (Below.heap_setCell _ ⟨B2, 0, none⟩ _ b (by exact h2)).trans (Below.heap_setCell _ ⟨B1, 0, none⟩ _ b (by exact h1))
 have s3 : ∀ b cs t z, W.heap[b]? = some (.cells cs t z) → b ≠ B1 → b ≠ B2 → (((W.setCell ⟨B1, 0, none⟩ v).setCell ⟨B2, 0, none⟩ (.bool true)).putObj D (.deferred none)).heap[b]? = W.heap[b]? := fun b cs t z e h1 h2 => (World.putObj_heap_other (nd b cs t z e)).trans (s2 b h1 h2)
 have o2 := own_blk (w' := ((W.setCell ⟨B1, 0, none⟩ v).setCell ⟨B2, 0, none⟩ (.bool true)).putObj D (.deferred none)) ho fun i e ht => by
  obtain ⟨_, _, q⟩ := ht
  have := (own_lt10 ho e).1
  exact s3 i _ _ _ q (by omega) (by omega)
 have p2 : PoW (((W.setCell ⟨B1, 0, none⟩ v).setCell ⟨B2, 0, none⟩ (.bool true)).putObj D (.deferred none)) m es (pre.map fun x => x.2.2) := hp.same fun b h1 ht => by
  obtain ⟨_, _, q⟩ := ht
  exact s3 b _ _ _ q (by omega) (by omega)
 obtain ⟨a, c, e, hm⟩ := MpW.of o2 p2.ps (by simp)
 have dB1 := nd _ _ _ _ h.ra
 have dB2 := nd _ _ _ _ h.rb
 refine ⟨a, c, e, hm, gr_put (gr_set (gr_set h.ce 0 _ (by omega)) 0 _ (by omega)) _ hD, ?_, ?_, ?_⟩
 ·have k1 := heap_setCell_same W B1 0 _ _ v h.ra
  have k2 : (((W.setCell ⟨B1, 0, none⟩ v).setCell ⟨B2, 0, none⟩ (.bool true)).putObj D (.deferred none)).heap[B1]? = some (.cells (#[.slice none 0 0].setIfInBounds 0 v) 26 (0, 0)) := (World.putObj_heap_other dB1).trans ((Below.heap_setCell _ ⟨B2, 0, none⟩ _ B1 (by show B1 ≠ B2; omega)).trans k1)
  exact cell_heap k2 rfl
 ·have k0 : (W.setCell ⟨B1, 0, none⟩ v).heap[B2]? = some (.cells #[.bool false] 4 (0, 0)) := (Below.heap_setCell _ ⟨B1, 0, none⟩ _ B2 (by show B2 ≠ B1; omega)).trans h.rb
  have k1 := heap_setCell_same _ B2 0 _ _ (.bool true) k0
  exact cell_heap ((World.putObj_heap_other dB2).trans k1) rfl
 ·exact (s2 D (fun e => dB1 e.symm) (fun e => dB2 e.symm)).trans hK
set_option maxHeartbeats 16000000 in
set_option maxRecDepth 100000 in
theorem gather_any {gf : Nat} {lb : Array Value} {Q : List PrT} {w0 : World} (n N : Nat) (w : World) (eg : ∀ args w, (callFunc gf args).run Tryz.prog w = .ok (.enter gf args) w)
  (hseq : SeqW Fence.wide 4 Tryz.prog gf lb encP blkP PxP (fun xs => xs.map (fun x => x.2.2) = Q) (fun pre => pre.map (fun x => x.2.2) <+: Q) N w0) (hb0 : Below w0.heap.size w0 w) (hn : 1 ≤ n) (hn2 : n ≤ 10000001) (hq : ∀ p ∈ Q, p.key.length ≤ 100000000 ∧ p.val.length ≤ 100000000) :
  Calls Tryz.prog 13 #[.func (.func gf) #[] lb, .int .i64 (n : Nat)] w fun en w' => ∃ a k c, en = .returned (.tuple #[.slice a k c, .bool true]) ∧ MpW w' a k c (Q.take n) ∧ w.grownBy w' none := by
 obtain ⟨ip, hip, hp0, hp1, hp2⟩ := info_parts info_pair10
 obtain ⟨W0, hW0⟩ : ∃ W0, (((w.alloc (.cells #[.int .i64 (n : Nat)] 3)).alloc (.cells #[.slice none 0 0] 26)).alloc (.cells #[.bool false] 4)).alloc (.cells #[.slice none 0 0] 26) = W0 := ⟨_, rfl⟩
 have g0 : w.grownBy W0 none := by rw [← hW0]; exact grown_al (grown_al (grown_al (grown_al (World.grownBy.refl _ _) _) _) _) _
 have x1 : W0.heap[w.heap.size]? = some (.cells #[.int .i64 (n : Nat)] 3 (0, 0)) := by rw [← hW0]; exact heap_old (heap_old (heap_old (heap_at0 w _ _)))
 have x2 : W0.heap[w.heap.size + 1]? = some (.cells #[.slice none 0 0] 26 (0, 0)) := by rw [← hW0]; exact heap_old (heap_old (heap_at1 w _ _ _))
 have x3 : W0.heap[w.heap.size + 2]? = some (.cells #[.bool false] 4 (0, 0)) := by rw [← hW0]; exact heap_old (heap_at2 w _ _ _ _)
 have x4 : W0.heap[w.heap.size + 3]? = some (.cells #[.slice none 0 0] 26 (0, 0)) := by
  rw [← hW0]
  have := heap_at0 (((w.alloc (.cells #[.int .i64 (n : Nat)] 3)).alloc (.cells #[.slice none 0 0] 26)).alloc (.cells #[.bool false] 4)) #[.slice none 0 0] 26
  simpa using this
 have hz0 : W0.heap.size = w.heap.size + 4 := by rw [← hW0]; simp
 have hb1 : Below w0.heap.size w0 W0 := hb0.grown g0 hb0.size (fun k e => by cases e)
 refine (callsIn_wide (n := 5)).1 ?_
 refine callsIn_of_wp_marks Tryz.func13 rfl trivial ?_ rfl
 simp only [Tryz.ntmps13, List.size_toArray, List.length_cons, List.length_nil, Nat.reduceAdd, Nat.reduceSub, Array.replicate_succ, Array.replicate_zero, List.push_toArray, List.append_toArray, List.nil_append, List.cons_append]
 have HNF := eql_nilf gf lb
 gi_wp2
 clear HNF hW0
 obtain ⟨B0, hB0⟩ : ∃ B0, w.heap.size = B0 := ⟨_, rfl⟩
 rw [hB0] at x1 x2 x3 x4 hz0 ⊢
 obtain ⟨B1, hB1⟩ : ∃ B1, B0 + 1 = B1 := ⟨_, rfl⟩
 rw [hB1] at x2 ⊢
 obtain ⟨B2, hB2⟩ : ∃ B2, B1 + 1 = B2 := ⟨_, rfl⟩
 rw [show B0 + 2 = B2 by omega] at x3
 rw [hB2]
 obtain ⟨B3, hB3⟩ : ∃ B3, B2 + 1 = B3 := ⟨_, rfl⟩
 rw [show B0 + 3 = B3 by omega] at x4
 rw [hB3]
 have hBB : Hid (B0 = w.heap.size ∧ B1 = B0 + 1 ∧ B2 = B1 + 1 ∧ B3 = B2 + 1 ∧ B3 < W0.heap.size + 2) := by show _ ∧ _; omega
 have hB9 : B3 < W0.heap.size + 2 := hBB.out.2.2.2.2
 clear hB0 hB1 hB2 hB3 hz0
 refine range_walk (n := 5) rfl (by decide) (gf := gf) (lb := lb) rfl trivial eg hseq px_kept hb1 (fun _ => rfl)
  (fun m pre W => GaT w B0 B1 B2 B3 (W0.heap.size + 2) n m pre W ∧ pre.length < n)
  (fun cd m pre W => cd = .exit 0 ∧ GaT w B0 B1 B2 B3 (W0.heap.size + 2) n m pre W ∧ pre.length = n)
  (fun m pre A B row h hg hr => ⟨h.1.cef (CeF.turn hg (fun r e => (hr r e).2)) (gr_turn h.1.ce hg (fun r e => by have := (hr r e).1; have := g0.size; omega)) hg.size, h.2⟩)
  (fun cd m pre A B row h hg hr => ⟨h.1, h.2.1.cef (CeF.turn hg (fun r e => (hr r e).2)) (gr_turn h.2.1.ce hg (fun r e => by have := (hr r e).1; have := g0.size; omega)) hg.size, h.2.2⟩)
  (fun m W2 hg hm hz => ⟨⟨CeF.of hg _ _ _ _ x1, CeF.of hg _ _ _ _ x2, CeF.of hg _ _ _ _ x3, ⟨.slice none 0 0, [], CeF.of hg _ _ _ _ x4, ⟨rfl, .inl ⟨rfl, rfl⟩⟩, PoW.nil _ _⟩, grown_trans g0 hg, by omega, hm⟩, by show 0 < n; omega⟩)
  (fun x => { tmps := List.toArray ((.func (.func gf) #[] lb) :: (.int .i64 (n : Nat)) :: (undef) :: (.pointer (some ⟨B0, 0, none⟩)) :: (.pointer (some ⟨B1, 0, none⟩)) :: (.pointer (some ⟨B2, 0, none⟩)) :: (.pointer (some ⟨B3, 0, none⟩)) :: (x.1) :: (x.2.1) :: (undef) :: (undef) :: (.func (.func gf) #[] lb) :: (.bool false) :: (.func (.func gf) #[] lb) :: (x.1) :: (x.2.1) :: (undef) :: (undef) :: (undef) :: (undef) :: (undef) :: (undef) :: (undef) :: (undef) :: (undef) :: (undef) :: (undef) :: (undef) :: (undef) :: (undef) :: (undef) :: (undef) :: (undef) :: (undef) :: (undef) :: (undef) :: (undef) :: (undef) :: (undef) :: (undef) :: (undef) :: (undef) :: (undef) :: (undef) :: (undef) :: (undef) :: (undef) :: (undef) :: (undef) :: (undef) :: (undef) :: (undef) :: []), defers := [] }) ?assign ?body ?done ?stop
 case assign =>
  intro l x W K hK
  simp only [encP]
  gi_wp2
  exact hK
 case body =>
  rintro l m pre ⟨kv, vv, pr⟩ W ⟨hT, hpl⟩ hm hpx _ hsp
  obtain ⟨v, es, y3, hown, hpo⟩ := hT.bx
  obtain ⟨la, lc, hv⟩ := own_shape10 hown
  subst hv
  have hmem : pr ∈ Q := hsp.sublist.mem (by simp)
  have hql := hq pr hmem
  have hql2 := hsp.length_le
  have HX : ∀ b, blkP (kv, vv, pr) b → W0.heap.size + 2 ≤ b ∧ b < m := fun b hb => by
   obtain ⟨lo', hi', b1, b2, kv', vv', mm, e1, i1, i2, h6, h7⟩ := hpx
   injection e1 with e4 e5
   injection e5 with e5 _
   simp only at e4 e5
   rw [← e4] at h6
   rw [← e5] at h7
   rcases hb with e | e
   ·have := (own_lt10 h6.1 e).1; have := h6.2 b e; omega
   ·have := (own_lt10 h7.1 e).1; have := h7.2 b e; omega
  obtain ⟨lo', hi', b1, b2, kv', vv', mm, e1, i1, i2, h6, h7⟩ := hpx
  obtain ⟨ka, kc, e2⟩ := own_shape10 h6.1
  obtain ⟨va, vc, e3⟩ := own_shape10 h7.1
  injection e1 with e4 e5
  injection e5 with e5 _
  simp only at e4 e5
  have ek : kv = .slice ka pr.key.length kc := e4.trans e2
  have ev : vv = .slice va pr.val.length vc := e5.trans e3
  rw [← e4, ek] at h6
  rw [← e5, ev] at h7
  simp only at h6 h7
  subst ek ev
  clear e2 e3 e4 e5
  have hsz := hT.sz
  have hnm := hT.nm
  have d0 := cell_heap (i := 0) hT.li rfl
  have d3 := cell_heap (i := 0) y3 rfl
  obtain ⟨k, hk⟩ : ∃ k, pre.length = k := ⟨_, rfl⟩
  rw [hk] at hown d3 y3 hpl
  have j1 : ¬ ((n : Int) ≤ (k : Int)) := by omega
  have j2 : (k : Int) < (n : Int) := by omega
  obtain ⟨kl, hkl⟩ : ∃ kl, pr.key.length = kl := ⟨_, rfl⟩
  obtain ⟨vl, hvl⟩ : ∃ vl, pr.val.length = vl := ⟨_, rfl⟩
  have B6 := own_bytT h6.1
  have B7 := own_bytT h7.1
  have HG0 : ∀ (W' : World) (v' kv9 vv9 : Value), G9 W W' B3 m (.slice la k lc) v' kv9 vv9 k es.flatten pr.key pr.val → ∀ W1, WrP W' W1 lo' (.slice ka kl kc) kl → ∀ W2, WrP W1 W2 mm (.slice va vl vc) vl → GaT w B0 B1 B2 B3 (W0.heap.size + 2) n m (pre ++ [(.slice ka kl kc, .slice va vl vc, pr)]) W2 ∧ KpW (W0.heap.size + 2) m (blkP (.slice ka kl kc, .slice va vl vc, pr)) W W2 ∧ KeepsOthers W W2 := fun W' v' kv9 vv9 g W1 p1 W2 p2 => by
   rw [hkl, hvl] at HX
   obtain ⟨q1, q2⟩ := hT.step (x := (.slice ka kl kc, .slice va vl vc, pr)) hk hown hpo g hBB.out HX (fun b hb => (p2.sm b (fun e => hb (.inr e))).trans (p1.sm b (fun e => hb (.inl e)))) (Nat.le_trans p1.ko.size p2.ko.size) (gr_turn (gr_turn (g.gr w hT.ce (by have := hBB.out; omega) (by have := hBB.out; have := g0.size; omega)) p1.gr (fun r e => by have := (HX r (.inl e)).1; have := g0.size; omega)) p2.gr (fun r e => by have := (HX r (.inr e)).1; have := g0.size; omega))
   exact ⟨q1, q2, g.ko.trans (p1.ko.trans p2.ko)⟩
  have O6 : ∀ (W' : World) (v' kv9 vv9 : Value), G9 W W' B3 m (.slice la k lc) v' kv9 vv9 k es.flatten pr.key pr.val → WrP W' W' lo' (.slice ka kl kc) kl := fun W' v' kv9 vv9 g => by
   have h6a := h6.1
   rw [hkl] at h6a HX
   exact ⟨⟨pr.key, own_blk h6a fun i e _ => g.sm i (HX i (.inl e)).2 (by have := (HX i (.inl e)).1; omega)⟩, fun _ _ => rfl, KeepsOthers.refl _, World.grownBy.refl _ _⟩
  have O7 : ∀ (W' : World) (v' kv9 vv9 : Value), G9 W W' B3 m (.slice la k lc) v' kv9 vv9 k es.flatten pr.key pr.val → ∀ W1, WrP W' W1 lo' (.slice ka kl kc) kl → WrP W1 W1 mm (.slice va vl vc) vl := fun W' v' kv9 vv9 g W1 p1 => by
   have h7a := h7.1
   rw [hvl] at h7a HX
   have h6b := h6.2
   rw [hkl] at h6b
   exact ⟨⟨pr.val, own_blk h7a fun i e _ => (p1.sm i (fun e2 => by have := h6b i e2; have := (own_lt10 h7a e).1; omega)).trans (g.sm i (HX i (.inr e)).2 (by have := (HX i (.inr e)).1; omega))⟩, fun _ _ => rfl, KeepsOthers.refl _, World.grownBy.refl _ _⟩
  have HGG := hid_intro HG0
  have HO6 := hid_intro O6
  have HO7 := hid_intro O7
  have HB3 : Hid (∀ (W' : World) (v' kv9 vv9 : Value), G9 W W' B3 m (.slice la k lc) v' kv9 vv9 k es.flatten pr.key pr.val → ∀ W1, WrP W' W1 lo' (.slice ka kl kc) kl → ∀ W2, WrP W1 W2 mm (.slice va vl vc) vl → W2.cell? ⟨B3, 0, none⟩ = some v' ∧ W2.cell? ⟨B0, 0, none⟩ = some (.int .i64 (n : Nat))) := fun W' v' kv9 vv9 g W1 p1 W2 p2 => by
   obtain ⟨q1, _⟩ := HG0 W' v' kv9 vv9 g W1 p1 W2 p2
   rw [hkl, hvl] at HX
   have e3 : W2.heap[B3]? = W'.heap[B3]? := (p2.sm B3 (fun e => by have := (HX B3 (.inr e)).1; omega)).trans (p1.sm B3 (fun e => by have := (HX B3 (.inl e)).1; omega))
   exact ⟨cell_heap (e3.trans g.bx) rfl, cell_heap q1.li rfl⟩
  rw [hkl] at hql B6 h6 ⊢
  rw [hvl] at hql B7 h7 ⊢
  have HY3 := hid_intro y3
  have HOW := hid_intro hown
  have HB6 := hid_intro B6
  have HB7 := hid_intro B7
  have HQ := hid_intro hql
  have HKK := hid_intro hk
  have HSP := hid_intro hql2
  clear hpo HG0 O6 O7 B6 B7 h6 h7 HX hT y3 hown hkl hvl hsp hk hql2
  gi_wp2
  refine gather9 HY3.out HOW.out (by omega) hsz HB6.out HB7.out (by have := HQ.out; omega) (by have := HQ.out; omega) (by omega) ?_
  intro b21 b22 b23 b24 b25 b26 b27 b28 W' v' kv9 vv9 hG
  have P6 := hid_intro (HO6.out W' v' kv9 vv9 hG)
  have HGN := hid_intro hG
  obtain ⟨xa, xc, hv'⟩ := own_shape10 hG.ow
  subst hv'
  clear hG HO6 d0 d3
  gi_wp2
  gi_loopw [9] (fun si wr => ∃ i : Nat, i ≤ kl ∧ si = .int .i64 (i : Nat) ∧ WrP W' wr lo' (.slice ka kl kc) kl) (fun si _ => kl - (intOf si).toNat)
  case atStart => exact ⟨0, Nat.zero_le _, rfl, P6.out⟩
  case round =>
   obtain ⟨i, hi, rfl, hwp⟩ := hrel
   by_cases hlt : i < kl
   ·obtain ⟨zs, hz⟩ := hwp.ow
    obtain ⟨g, v0, rfl, hc0, hf0⟩ := own_atW hz hlt
    have q0 : (0 : Int) ≤ (i : Int) := by omega
    have q1 : (i : Int) < (kl : Int) := by omega
    have WP := hid_intro hwp
    have HQ2 := HQ.out
    clear hwp hz P6
    gi_wp2
    go_roundw
    case rel => exact ⟨i + 1, by omega, by go_num, WP.out.put⟩
    case measure => simp [intOf]; omega
   ·have hin : i = kl := by omega
    have q1 : ¬ (i : Int) < (kl : Int) := by omega
    have WP := hid_intro hwp
    have HIN := hid_intro hin
    have P7 := hid_intro (HO7.out W' _ kv9 vv9 HGN.out wr hwp)
    obtain ⟨W1, hW1⟩ : ∃ W1, W1 = wr := ⟨_, rfl⟩
    have HW1 : Hid (WrP W' W1 lo' (.slice ka kl kc) kl) := by rw [hW1]; exact hwp
    have HP7 : Hid (WrP W1 W1 mm (.slice va vl vc) vl) := by rw [hW1]; exact P7.out
    have HW9 : Hid (WrP W1 wr mm (.slice va vl vc) vl) := by rw [hW1]; exact P7.out
    clear hwp hin P6 P7 WP hW1
    gi_wp2
    gi_loopw [10] (fun si wr => ∃ i : Nat, i ≤ vl ∧ si = .int .i64 (i : Nat) ∧ WrP W1 wr mm (.slice va vl vc) vl) (fun si _ => vl - (intOf si).toNat)
    case atStart => exact ⟨0, Nat.zero_le _, rfl, HW9.out⟩
    case round =>
     obtain ⟨j, hj, rfl, hwp⟩ := hrel
     by_cases hlt2 : j < vl
     ·obtain ⟨zs, hz⟩ := hwp.ow
      obtain ⟨g, v0, rfl, hc0, hf0⟩ := own_atW hz hlt2
      have q2 : (0 : Int) ≤ (j : Int) := by omega
      have q3 : (j : Int) < (vl : Int) := by omega
      have WP := hid_intro hwp
      have HQ2 := HQ.out
      clear hwp hz
      gi_wp2
      go_roundw
      case rel => exact ⟨j + 1, by omega, by go_num, WP.out.put⟩
      case measure => simp [intOf]; omega
     ·have q3 : ¬ (j : Int) < (vl : Int) := by omega
      obtain ⟨e3, e0⟩ := HB3.out W' _ kv9 vv9 HGN.out W1 HW1.out wr hwp
      obtain ⟨f1, f2, f3⟩ := HGG.out W' _ kv9 vv9 HGN.out W1 HW1.out wr hwp
      have F1 := hid_intro f1
      have F2 := hid_intro f2
      have F3 := hid_intro f3
      clear hwp f1 f2 f3
      by_cases hlast : k + 1 = n
      ·have q4 : ((k : Int) + 1 == (n : Int)) = true := by rw [beq_iff_eq]; omega
       have q5 : (k + 1 == n) = true := by rw [beq_iff_eq]; omega
       have HL := hid_intro hlast
       clear hlast
       gi_wp2
       exact ⟨F3.out, rfl, F1.out, by have := HL.out; have := HKK.out; simp; omega⟩
      ·have q4 : ((k : Int) + 1 == (n : Int)) = false := by rw [beq_eq_false_iff_ne]; omega
       have q5 : (k + 1 == n) = false := by rw [beq_eq_false_iff_ne]; omega
       have HL := hid_intro hlast
       clear hlast
       gi_wp2
       exact ⟨F3.out, F2.out, F1.out, by have := HL.out; have := HKK.out; simp; omega⟩
 case done =>
  rintro D m xs W hD hSx ⟨hT, hxl⟩ hK
  obtain ⟨v, es, y3, hown, hpo⟩ := hT.bx
  obtain ⟨la, lc, hv⟩ := own_shape10 hown
  subst hv
  have d3 := cell_heap (i := 0) y3 rfl
  have d1 := cell_heap (i := 0) hT.ra rfl
  have d2 := cell_heap (i := 0) hT.rb rfl
  have z1 := frozen_of_row W B1 0 _ _ hT.ra
  have z2 := frozen_of_row W B2 0 _ _ hT.rb
  obtain ⟨a9, c9, e9, q1, q2, q3, q4, q5⟩ := hT.fin hown hpo hBB.out hK (by have := g0.size; omega)
  have hL : xs.map (fun x => x.2.2) = Q.take n := by
   rw [hSx, List.take_of_length_le]
   have := congrArg List.length hSx
   rw [List.length_map] at this
   omega
  rw [hL] at q1
  obtain ⟨k, hk⟩ : ∃ k, xs.length = k := ⟨_, rfl⟩
  rw [hk] at d3 q1 q2 q3 q4 q5 e9
  injection e9 with e9 _ e10
  subst e9 e10
  have Q1 := hid_intro q1
  have Q2 := hid_intro q2
  have Q3 := hid_intro q3
  have Q4 := hid_intro q4
  have Q5 := hid_intro q5
  have hne1 : ¬ B2 = B1 := by have := hBB.out; omega
  have hne2 : ¬ B1 = B2 := by have := hBB.out; omega
  clear hT hown hpo q1 q2 q3 q4 q5 hL
  gi_wp2
  refine ⟨by simp, .inl ⟨_, _, rfl, run_takeDeferred Q5.out, ?_⟩⟩
  exact ⟨_, results_two rfl _ _ B1 B2 _ _ rfl Q3.out rfl Q4.out, _, _, _, rfl, Q1.out, Q2.out⟩
 case stop =>
  rintro D m cd pre W hD hSp ⟨rfl, hT, hxl⟩ hK
  obtain ⟨v, es, y3, hown, hpo⟩ := hT.bx
  obtain ⟨la, lc, hv⟩ := own_shape10 hown
  subst hv
  have d3 := cell_heap (i := 0) y3 rfl
  have d1 := cell_heap (i := 0) hT.ra rfl
  have d2 := cell_heap (i := 0) hT.rb rfl
  have z1 := frozen_of_row W B1 0 _ _ hT.ra
  have z2 := frozen_of_row W B2 0 _ _ hT.rb
  obtain ⟨a9, c9, e9, q1, q2, q3, q4, q5⟩ := hT.fin hown hpo hBB.out hK (by have := g0.size; omega)
  have hL : pre.map (fun x => x.2.2) = Q.take n := by
   have := List.prefix_iff_eq_take.1 hSp
   rw [List.length_map, hxl] at this
   exact this
  rw [hL] at q1
  obtain ⟨k, hk⟩ : ∃ k, pre.length = k := ⟨_, rfl⟩
  rw [hk] at d3 q1 q2 q3 q4 q5 e9
  injection e9 with e9 _ e10
  subst e9 e10
  have Q1 := hid_intro q1
  have Q2 := hid_intro q2
  have Q3 := hid_intro q3
  have Q4 := hid_intro q4
  have Q5 := hid_intro q5
  have hne1 : ¬ B2 = B1 := by have := hBB.out; omega
  have hne2 : ¬ B1 = B2 := by have := hBB.out; omega
  clear hT hown hpo q1 q2 q3 q4 q5 hL
  gi_wp2
  refine ⟨by simp, .inl ⟨_, _, rfl, run_takeDeferred Q5.out, ?_⟩⟩
  exact ⟨_, results_two rfl _ _ B1 B2 _ _ rfl Q3.out rfl Q4.out, _, _, _, rfl, Q1.out, Q2.out⟩
end Go.Proofs.YtndanifjommpdaaGreat
