import Derived.Test.YtepcgckapoljpaaGreatQ26
import Derived.Test.YtepcgckapoljpaaGreatQ36
import Derived.Deep.CutBlock
namespace Go.Proofs.YtepcgckapoljpaaGreat
open Go.RowKit
theorem step_ownT {ops : Array Oper} {o : Oper} {a : Act} {w : World} {K : Act → World → Prop} {Q : Exit → Act → World → Prop} {E : Prop} (hgd : o.guard = none) (s x : Operand) (t : TypeId)
  (ho : o.op = .call { callee := .builtin .append, args := #[s, x], argTypes := #[t, t] })
  (base : Nat) (e : TypeId) (i : TypeInfo) (z : Value) (size bytes : Nat) (ht : Tryz.prog.underlying t = some (.slice e)) (hi : Tryz.prog.info? e = some i) (hz : i.zero = some z) (hsize : i.size = size) (hby : i.bytes = bytes) (hzs : z.cells.size = size) (hsz : 0 < size)
  (v : Value) (n : Nat) (xs : List Value) (hs : a.eval s = v) (hown : w.ownsRow base e size v n xs)
  (ad : Addr) (m c : Nat) (news : List Value) (hx : a.eval x = .slice (some ad) m c) (hl : news.length = m * size) (hnews : ∀ j u, news[j]? = some u → w.cell? (ad.add j) = some u) (h1 : ∀ u ∈ news, u.oneCell' = true)
  (h63 : n + m ≤ maxLen) (hbytes : (n + m) * bytes ≤ 140737488355328) (hbase : base ≤ w.heap.size)
  (h : ∀ v' w', w'.ownsRow base e size v' (n + m) (xs ++ news) → w.grownBy w' v.ownBlock → K (a.put o.dst v') w') :
  if Region.wanted o (yielded ops a.tmps) = true then Oper.wp Tryz.prog o a w K Q else E := by
 have hw : Region.wanted o (yielded ops a.tmps) = true := by simp [Region.wanted, hgd]
 rw [if_pos hw]
 obtain ⟨v', w', hrun, r1, r2, _⟩ := run_append_own (P := Tryz.prog) w base t o.type e i z size bytes ht hi hz hsize hby hzs hsz v n xs hown ad m c news hl hnews h1 h63 hbytes hbase
 unfold Oper.wp
 simp [execOp, ho, resolve, invoke, builtin, hs, hx, hrun, Result.andThen]
 exact h v' w' r1 r2
theorem own_kp {w w' : World} {base sz : Nat} {e : TypeId} {v : Value} {n : Nat} {xs : List Value} (h : w.ownsRow base e sz v n xs) (hg : w.grownBy w' none) : w'.ownsRow base e sz v n xs := h.kept hg (by cases v.ownBlock <;> simp)
def ScR (t : TypeId) : Bool := t == 40
theorem fr_own {w w' : World} {base n : Nat} {v : Value} {xs : List Value} (ho : w.ownsRow base 40 2 v n xs) (hg : w.grownBy w' v.ownBlock) : FrX ScR w w' := (FrX.refl ScR w).row hg (fun g e => .inr ⟨40, (own_lt10 ho e).2.2, by decide⟩)
def BkW (w : World) (Q : Nat) (L : List PrT) : Prop := ∃ a n c, w.heap[Q]? = some (.cells #[.slice a n c] 29 (0, 0)) ∧ MpW w a n c L
theorem byt_box {w : World} {Q : Nat} {u v : Value} {t : TypeId} (hq : w.heap[Q]? = some (.cells #[u] t (0, 0))) (hu : ∀ k z, u ≠ .int k z) {ao : Option Addr} {n c : Nat} {s : List Int} (h : Byt w ao n c s) : Byt (w.setCell ⟨Q, 0, none⟩ v) ao n c s := by
 refine ⟨h.len, h.nil, fun ad had j x hx => ?_⟩
 have h1 := h.cells ad had j x hx
 have hj : j < s.length := by have := (List.getElem?_eq_some_iff.1 hx).1; simpa using this
 have hl := h.len
 obtain ⟨b, off, e, _, _⟩ := h.at (by omega)
 rw [had] at e
 cases e
 rw [Addr.add_lit] at h1 ⊢
 have hxi : ∃ k z, x = Value.int k z := by
  rw [List.getElem?_map, Option.map_eq_some_iff] at hx
  obtain ⟨z, _, rfl⟩ := hx
  exact ⟨_, _, rfl⟩
 have hne : b ≠ Q := fun e => by
  subst e
  rw [cell_of_row w b _ _ _ (0, 0) hq] at h1
  obtain ⟨k, z, rfl⟩ := hxi
  match off + j, h1 with
  | 0, h1 =>
   simp at h1
   exact hu k z h1
  | i + 1, h1 => simp at h1
 rw [World.cell?_of_block (heap_setCell_other w ⟨Q, 0, none⟩ b v (fun e => hne e))]
 exact h1
theorem mp_box {w : World} {Q : Nat} {a0 : Option Addr} {n0 c0 : Nat} {v : Value} (hq : w.heap[Q]? = some (.cells #[.slice a0 n0 c0] 29 (0, 0))) {a : Option Addr} {n c : Nat} {L : List PrT} (h : MpW w a n c L) : MpW (w.setCell ⟨Q, 0, none⟩ v) a n c L := by
 obtain ⟨h1, es, h2, h3⟩ := h
 have hf : FrT w (w.setCell ⟨Q, 0, none⟩ v) := FrT.set hq (by decide)
 refine ⟨h1, es, h2.kept (by decide) hf, h3.len, fun i e p k1 k2 => ?_⟩
 obtain ⟨ka, kc, va, vc, e1, b1, b2⟩ := h3.get i e p k1 k2
 exact ⟨ka, kc, va, vc, e1, byt_box hq (by simp) b1, byt_box hq (by simp) b2⟩
set_option maxHeartbeats 8000000 in
set_option maxRecDepth 100000 in
theorem does_r11 {y1 y2 y3 y6 y7 y8 y9 y10 y11 y12 y13 y14 y15 y16 y17 y18 y19 y20 y21 y22 y23 y24 y25 y26 y27 y28 y29 y30 y31 y32 y33 y34 y35 y36 y37 y38 y39 y40 y41 y42 y43 y44 y45 y46 y47 y48 y49 y50 y51 y52 y53 y54 y55 y56 y57 y58 y59 y60 y61 y62 y63 y64 y65 y66 y67 y68 y69 y70 y71 y72 y73 y74 y75 y76 y77 y78 y79 y80 y81 y82 y83 y84 y85 y86 y87 y88 y89 y90 y91 y92 y93 y94 y95 y96 y97 y98 y99 y100 y101 y102 : Value} {Q E M n c base : Nat} {a la : Option Addr} {lc : Nat} {es : List (List Value)} {xs : List Value} {wr : World} {K : Exit → Act → World → Prop}
  (hQ : wr.heap[Q]? = some (.cells #[.slice a n c] 29 (0, 0))) (hE : EsT wr 40 a n c 2 es) (hEn : E ≤ n) (hn : n ≤ 100000) (hM : M ≤ 200000) (ho : wr.ownsRow base 40 2 (.slice la M lc) M xs) (hb : base ≤ wr.heap.size) (hQb : Q < base)
  (hK : ∀ (v92 v93 v94 v95 v96 v97 v98 v99 v100 v101 v102 : Value) (w10 : World) (v10 : Value), w10.ownsRow base 40 2 v10 (M + (n - E)) (xs ++ (es.drop E).flatten) → wr.grownBy w10 (Value.slice la M lc).ownBlock → w10.heap[Q]? = some (.cells #[.slice a n c] 29 (0, 0)) → K .normal ⟨List.toArray ((.pointer (some ⟨Q, 0, none⟩)) :: y1 :: y2 :: y3 :: (.int .i64 (E : Nat)) :: (.slice la M lc) :: y6 :: y7 :: y8 :: y9 :: y10 :: y11 :: y12 :: y13 :: y14 :: y15 :: y16 :: y17 :: y18 :: y19 :: y20 :: y21 :: y22 :: y23 :: y24 :: y25 :: y26 :: y27 :: y28 :: y29 :: y30 :: y31 :: y32 :: y33 :: y34 :: y35 :: y36 :: y37 :: y38 :: y39 :: y40 :: y41 :: y42 :: y43 :: y44 :: y45 :: y46 :: y47 :: y48 :: y49 :: y50 :: y51 :: y52 :: y53 :: y54 :: y55 :: y56 :: y57 :: y58 :: y59 :: y60 :: y61 :: y62 :: y63 :: y64 :: y65 :: y66 :: y67 :: y68 :: y69 :: y70 :: y71 :: y72 :: y73 :: y74 :: y75 :: y76 :: y77 :: y78 :: y79 :: y80 :: y81 :: y82 :: y83 :: y84 :: y85 :: y86 :: y87 :: y88 :: y89 :: y90 :: y91 :: v92 :: v93 :: v94 :: v95 :: v96 :: v97 :: v98 :: v99 :: v100 :: v101 :: v102 :: []), []⟩ (w10.setCell ⟨Q, 0, none⟩ v10)) :
  Code.wp Tryz.prog (Go.Code.region 11 #[{ dst := some 92, op := Go.Op.move (Go.Operand.tmp 0), type := 26, pos := "free.go:68", after := #[], guard := none }, { dst := some 93, op := Go.Op.move (Go.Operand.tmp 5), type := 27, pos := "free.go:68", after := #[], guard := none }, { dst := some 94, op := Go.Op.move (Go.Operand.tmp 0), type := 26, pos := "free.go:68", after := #[], guard := none }, { dst := some 95, op := Go.Op.nilCheck (Go.Operand.tmp 94), type := 0, pos := "free.go:68", after := #[{ on := 2, ground := Go.Ground.data }], guard := none }, { dst := some 96, op := Go.Op.fieldAddr 29 (Go.Operand.tmp 95) 0, type := 0, pos := "free.go:68", after := #[{ on := 3, ground := Go.Ground.data }], guard := none }, { dst := some 97, op := Go.Op.load 27 (Go.Operand.tmp 96), type := 27, pos := "free.go:68", after := #[{ on := 4, ground := Go.Ground.data }], guard := none }, { dst := some 98, op := Go.Op.move (Go.Operand.tmp 4), type := 3, pos := "free.go:68", after := #[], guard := none }, { dst := some 99, op := Go.Op.slice 27 (Go.Operand.tmp 97) (some (Go.Operand.tmp 98)) none none, type := 27, pos := "free.go:68", after := #[{ on := 5, ground := Go.Ground.data }, { on := 6, ground := Go.Ground.data }], guard := none }, { dst := some 100, op := Go.Op.call { callee := Go.Callee.builtin Go.Builtin.append, args := #[Go.Operand.tmp 93, Go.Operand.tmp 99], argTypes := #[27, 27] }, type := 27, pos := "free.go:68", after := #[{ on := 1, ground := Go.Ground.data }, { on := 7, ground := Go.Ground.data }], guard := none }, { dst := some 101, op := Go.Op.nilCheck (Go.Operand.tmp 92), type := 0, pos := "free.go:68", after := #[{ on := 0, ground := Go.Ground.data }, { on := 0, ground := Go.Ground.phase }, { on := 1, ground := Go.Ground.phase }, { on := 2, ground := Go.Ground.phase }, { on := 3, ground := Go.Ground.phase }, { on := 4, ground := Go.Ground.phase }, { on := 5, ground := Go.Ground.phase }, { on := 6, ground := Go.Ground.phase }, { on := 7, ground := Go.Ground.phase }, { on := 8, ground := Go.Ground.phase }], guard := none }, { dst := some 102, op := Go.Op.fieldAddr 29 (Go.Operand.tmp 101) 0, type := 0, pos := "free.go:68", after := #[{ on := 9, ground := Go.Ground.data }, { on := 0, ground := Go.Ground.phase }, { on := 1, ground := Go.Ground.phase }, { on := 2, ground := Go.Ground.phase }, { on := 3, ground := Go.Ground.phase }, { on := 4, ground := Go.Ground.phase }, { on := 5, ground := Go.Ground.phase }, { on := 6, ground := Go.Ground.phase }, { on := 7, ground := Go.Ground.phase }, { on := 8, ground := Go.Ground.phase }], guard := none }, { dst := none, op := Go.Op.store 27 (Go.Operand.tmp 102) (Go.Operand.tmp 100), type := 0, pos := "free.go:68", after := #[{ on := 10, ground := Go.Ground.data }, { on := 8, ground := Go.Ground.data }, { on := 8, ground := Go.Ground.chain }, { on := 0, ground := Go.Ground.phase }, { on := 1, ground := Go.Ground.phase }, { on := 2, ground := Go.Ground.phase }, { on := 3, ground := Go.Ground.phase }, { on := 4, ground := Go.Ground.phase }, { on := 5, ground := Go.Ground.phase }, { on := 6, ground := Go.Ground.phase }, { on := 7, ground := Go.Ground.phase }, { on := 8, ground := Go.Ground.phase }], guard := none }] false) K ⟨List.toArray ((.pointer (some ⟨Q, 0, none⟩)) :: y1 :: y2 :: y3 :: (.int .i64 (E : Nat)) :: (.slice la M lc) :: y6 :: y7 :: y8 :: y9 :: y10 :: y11 :: y12 :: y13 :: y14 :: y15 :: y16 :: y17 :: y18 :: y19 :: y20 :: y21 :: y22 :: y23 :: y24 :: y25 :: y26 :: y27 :: y28 :: y29 :: y30 :: y31 :: y32 :: y33 :: y34 :: y35 :: y36 :: y37 :: y38 :: y39 :: y40 :: y41 :: y42 :: y43 :: y44 :: y45 :: y46 :: y47 :: y48 :: y49 :: y50 :: y51 :: y52 :: y53 :: y54 :: y55 :: y56 :: y57 :: y58 :: y59 :: y60 :: y61 :: y62 :: y63 :: y64 :: y65 :: y66 :: y67 :: y68 :: y69 :: y70 :: y71 :: y72 :: y73 :: y74 :: y75 :: y76 :: y77 :: y78 :: y79 :: y80 :: y81 :: y82 :: y83 :: y84 :: y85 :: y86 :: y87 :: y88 :: y89 :: y90 :: y91 :: y92 :: y93 :: y94 :: y95 :: y96 :: y97 :: y98 :: y99 :: y100 :: y101 :: y102 :: []), []⟩ wr := by
 obtain ⟨ip, hip, hp0, hp1, hp2⟩ := info_parts info_pair10
 have HK := hid_intro hK
 have TL := hid_intro (hE.tail2 (k := E) hEn)
 have HO := hid_intro ho
 have HQ := hid_intro hQ
 have eq : wr.cell? ⟨Q, 0, none⟩ = some (.slice a n c) := cell_heap (i := 0) hQ rfl
 have hcap := hE.cap
 have hc2 := hE.c2
 have j4 : (0 : Int) ≤ (E : Int) := by omega
 have j5 : (E : Int) ≤ (n : Int) := by omega
 have j2 : (n : Int) ≤ (c : Int) := by omega
 have j3 : (E : Int) ≤ (c : Int) := by omega
 clear hK hE ho hQ
 try dsimp only
 go_wp2_with (at_builtin; refine append_es rfl _ _ 27 rfl base 40 ip (.agg #[.slice none 0 0, .slice none 0 0]) 2 48 Tryz.underlying27 hip hp0 hp1 hp2 rfl (by decide) (.slice la M lc) M xs rfl HO.out _ _ _ (es.drop E) rfl ?u1 ?u2 ?u3 ?u4 ?_)
 all_goals first
  | exact TL.out.2
  | (have h9 := TL.out.2; rw [Option.map_some, Addr.add_lit] at h9; exact h9)
  | exact TL.out.1 (by first | rfl | assumption | omega)
  | (unfold maxLen; omega)
  | omega
  | skip
 all_goals
  intro v10 w10 ho10 hg10
  have hne : some Q ≠ (Value.slice la M lc).ownBlock := fun e => by have := (own_lt10 HO.out e.symm).1; omega
  have H10 := hid_intro (show w10.heap[Q]? = some (.cells #[.slice a n c] 29 (0, 0)) by rw [hg10.block Q (Array.getElem?_eq_some_iff.1 HQ.out).1 hne]; exact HQ.out)
  obtain ⟨a9, c9, e9⟩ := own_shape10 ho10
  have KK := hid_intro (HK.out · · · · · · · · · · · w10 v10 ho10 hg10 H10.out)
  subst e9
  have eq10 := cell_heap (i := 0) H10.out rfl
  have z10 := frozen_of_row w10 Q 0 _ _ H10.out
  clear ho10 hg10 hne HK
  go_wp2_with fail
  exact KK.out _ _ _ _ _ _ _ _ _ _ _
def badB (kn vn : Nat) (gone : Bool) : Bool := !gone && (decide (kn < 1) || decide (255 < kn) || decide (262144 < vn))
def nowB (key val : List Int) (gone : Bool) : List PrT := if gone then [] else [⟨key, val, []⟩]
def dosB (L : List PrT) (key val : List Int) (gone : Bool) : List PrT := if badB key.length val.length gone = true then L else updT L key (nowB key val gone)
def DoesP (w : World) (Q : Nat) (L : List PrT) (en : Ending) (w' : World) : Prop := en = .returned (.tuple #[]) ∧ BkW w' Q L ∧ w.grownBy w' (some Q)
set_option maxHeartbeats 8000000 in
set_option maxRecDepth 100000 in
theorem does_bad (Q : Nat) (L : List PrT) (ka : Option Addr) (kn kc : Nat) (va : Option Addr) (vn vc : Nat) (mark : Bool) (no : Int) (w : World) (hb : BkW w Q L) (h : badB kn vn false = true) :
  Calls Tryz.prog 9 #[.pointer (some ⟨Q, 0, none⟩), .agg #[.slice ka kn kc, .slice va vn vc, .bool false, .bool mark, .int .i64 no]] w fun en w' => DoesP w Q L en w' := by
 have g0 := World.grownBy_alloc w (.cells #[.slice ka kn kc, .slice va vn vc, .bool false, .bool mark, .int .i64 no] 32) none
 have HB : Hid (BkW (w.alloc (.cells #[.slice ka kn kc, .slice va vn vc, .bool false, .bool mark, .int .i64 no] 32)) Q L) := by
  obtain ⟨a, n, c, h1, h2⟩ := hb
  exact ⟨a, n, c, heap_kept h1 g0, h2.cef (CeF.of g0)⟩
 have G0 := hid_intro g0
 have h' : kn < 1 ∨ 255 < kn ∨ 262144 < vn := by simpa [badB, or_assoc] using h
 clear hb g0 h
 by_cases h1 : kn < 1
 ·have k1 : (kn : Int) < 1 := by omega
  go_enter Tryz.func9, Tryz.ntmps9
  go_wp2
  refine bodyPost_ret (results_none rfl _ _ _) rfl ?_
  exact ⟨rfl, HB.out, grown_any G0.out⟩
 ·have k1 : ¬ (kn : Int) < 1 := by omega
  by_cases h2 : 255 < kn
  ·have k2 : (255 : Int) < (kn : Int) := by omega
   go_enter Tryz.func9, Tryz.ntmps9
   go_wp2
   refine bodyPost_ret (results_none rfl _ _ _) rfl ?_
   exact ⟨rfl, HB.out, grown_any G0.out⟩
  ·have k2 : ¬ (255 : Int) < (kn : Int) := by omega
   have k3 : (262144 : Int) < (vn : Int) := by omega
   go_enter Tryz.func9, Tryz.ntmps9
   go_wp2
   refine bodyPost_ret (results_none rfl _ _ _) rfl ?_
   exact ⟨rfl, HB.out, grown_any G0.out⟩
set_option maxHeartbeats 16000000 in
set_option maxRecDepth 100000 in
theorem does_ok (Q : Nat) (L : List PrT) (ka : Option Addr) (kn kc : Nat) (key : List Int) (va : Option Addr) (vn vc : Nat) (val : List Int) (gone mark : Bool) (no : Int) (w : World) (hb : BkW w Q L) (hk : Byt w ka kn kc key) (hv : Byt w va vn vc val) (bk : Bt key) (bl : ∀ p ∈ L, Bt p.key) (hsr : Srt L) (hn : L.length ≤ 100000) (hbad : badB kn vn gone = false) :
  Calls Tryz.prog 9 #[.pointer (some ⟨Q, 0, none⟩), .agg #[.slice ka kn kc, .slice va vn vc, .bool gone, .bool mark, .int .i64 no]] w fun en w' => DoesP w Q (updT L key (nowB key val gone)) en w' := by
 obtain ⟨ip, hip, hp0, hp1, hp2⟩ := info_parts info_pair10
 obtain ⟨a, n, c, hQ, hl⟩ := hb
 have g0 := World.grownBy_alloc w (.cells #[.slice ka kn kc, .slice va vn vc, .bool gone, .bool mark, .int .i64 no] 32) none
 have x1 := heap_at0 w #[.slice ka kn kc, .slice va vn vc, .bool gone, .bool mark, .int .i64 no] 32
 have HUP := hid_intro (upd_leaf (key := key) (now := nowB key val gone) hsr)
 have hF := findT_le L key
 have hE := find_le L key
 have hFE := find_end L key
 obtain ⟨hLn, es, hes, hps⟩ := hl
 rw [hLn] at hF hE hn
 have lk := hk.len
 have lv := hv.len
 have HES := hid_intro (hes.kept (by decide) (FrT.of g0))
 have HPS := hid_intro (hps.cef (CeF.of g0))
 have HMP := hid_intro (MpW.cef (CeF.of g0) ⟨hLn, es, hes, hps⟩)
 have HK := hid_intro (hk.keptN g0)
 have HV := hid_intro (hv.keptN g0)
 have G0 := hid_intro g0
 have HDL := hid_intro bl
 have hel := hes.len
 have hcap := hes.cap
 have hc2 := hes.c2
 have HQ := hid_intro (heap_kept hQ g0)
 have hQl := (Array.getElem?_eq_some_iff.1 hQ).1
 obtain ⟨F, hFF⟩ : ∃ F, findT L key = F := ⟨_, rfl⟩
 obtain ⟨E, hEE⟩ : ∃ E, endT L key = E := ⟨_, rfl⟩
 rw [hFF] at hF hFE
 rw [hEE] at hE hFE
 have HFF := hid_intro hFF
 have HEE := hid_intro hEE
 have HKL := hid_intro lk
 have HVL := hid_intro lv
 have HLN := hid_intro hLn
 have HEL := hid_intro hel
 have X1 := hid_intro x1
 have WL : Hid (Q < w.heap.size) := hQl
 have WB : Hid (w.heap.size ≤ (w.alloc (.cells #[.slice ka kn kc, .slice va vn vc, .bool gone, .bool mark, .int .i64 no] 32)).heap.size) := g0.size
 clear hes hps hk hv g0 bl hFF hsr hEE lk lv hel hLn hQl
 go_enter Tryz.func9, Tryz.ntmps9
 go_upto_region 1 with fail
 generalize hw1 : w.alloc (.cells #[.slice ka kn kc, .slice va vn vc, .bool gone, .bool mark, .int .i64 no] 32) = w1 at *
 generalize hB0 : w.heap.size = B at *
 have d0 := cell_heap (i := 0) x1 rfl
 have d1 := cell_heap (i := 1) x1 rfl
 have d2 := cell_heap (i := 2) x1 rfl
 have dq := cell_heap (i := 0) HQ.out rfl
 clear hw1 x1 hB0
 cases gone with
 | true =>
  go_upto_block 0 with fail
  go_cut [4] from 27 to 49 (fun s4 wx => s4 = .int .i64 (F : Nat) ∧ Qt w1 wx)
  case first =>
   go_wp2_with fail
   go_loopw [4] (fun s4 wr => ∃ k : Nat, k ≤ F ∧ s4 = .int .i64 (k : Nat) ∧ Qt w1 wr) (fun si _ => n - (intOf si).toNat)
   case atStart => exact ⟨0, Nat.zero_le _, rfl, Qt.refl _⟩
   case round =>
    obtain ⟨k, hkF, rfl, hq⟩ := hrel
    have HQT := hid_intro hq
    have e0 := (hq.cell _).trans d0
    have eq := (hq.cell _).trans dq
    by_cases hlt : k < n
    ·obtain ⟨p, hp⟩ : ∃ p, L[k]? = some p := ⟨_, List.getElem?_eq_getElem (by have := HLN.out; omega)⟩
     obtain ⟨b, off, pa, pc, qa, qc, rfl, c0, c1, b0, _⟩ := HMP.out.get hp
     have y0 := (hq.cell _).trans c0
     have HC := hid_intro (fun (W : World) (hW : W.heap = wr.heap) => lessW pa ka p.key.length kn pc kc p.key key W (b0.heap (hW.trans hq.heap)) (HK.out.heap (hW.trans hq.heap)) (HDL.out p (List.mem_of_getElem? hp)) bk)
     have HP := hid_intro hp
     have i0 : (0 : Int) ≤ (k : Int) := by omega
     have i1 : (k : Int) < (n : Int) := by omega
     have i2 : decide ((k : Int) < (n : Int)) = true := decide_eq_true i1
     have i3 : decide (k < n) = true := decide_eq_true hlt
     obtain ⟨pl, hpl⟩ : ∃ pl, p.key.length = pl := ⟨_, rfl⟩
     rw [hpl] at y0 HC
     clear hp c0 c1 b0 hq hpl
     by_cases hc : cmpZ p.key key < 0
     ·rw [decide_eq_true hc] at HC
      have hkF2 : k < F := by
       rcases Nat.lt_or_ge k F with h | h
       ·exact h
       ·have : k = F := by omega
        subst this
        have h9 := HP.out
        rw [← HFF.out] at h9
        exact absurd hc (find_ge h9)
      go_wp2
      go_quiet ((go_at_call 35; exact Calls.quiet_of_same (HC.out _ rfl)))
      go_wp2_with fail
      go_roundw
      case rel => exact ⟨k + 1, by omega, by go_num, HQT.out.trans (Qt.drewN _ _)⟩
      case measure => simp [intOf]; omega
     ·rw [decide_eq_false hc] at HC
      have hkF2 : k = F := by
       rcases Nat.lt_or_ge k F with h | h
       ·rw [← HFF.out] at h
        exact absurd (find_lt HP.out h) hc
       ·omega
      subst hkF2
      go_wp2
      go_quiet ((go_at_call 35; exact Calls.quiet_of_same (HC.out _ rfl)))
      go_wp2_with fail
      go_meet
      exact ⟨rfl, HQT.out.trans (Qt.drewN _ _)⟩
    ·have hkF2 : k = F := by omega
     have i1 : ¬ (k : Int) < (n : Int) := by omega
     have i2 : decide ((k : Int) < (n : Int)) = false := decide_eq_false i1
     have i3 : decide (k < n) = false := decide_eq_false hlt
     have HKF := hid_intro hkF2
     clear hkF2 hq
     go_wp2
     go_quiet (fail)
     go_wp2_with fail
     go_meet
     have := HKF.out
     subst this
     exact ⟨rfl, HQT.out.trans (Qt.drewN _ _)⟩
  case rest =>
   obtain ⟨rfl, hq⟩ := hcut
   have GQ := hid_intro (hq.grown none)
   have e0 := (hq.cell _).trans d0
   have e1 := (hq.cell _).trans d1
   have e2 := (hq.cell _).trans d2
   have eq := (hq.cell _).trans dq
   have hsq : w1.heap.size ≤ wc.heap.size := (hq.grown none).size
   have j0 : (0 : Int) ≤ (F : Int) := by omega
   have j1 : (F : Int) ≤ (n : Int) := by omega
   have j2 : (n : Int) ≤ (c : Int) := by omega
   have j3 : (F : Int) ≤ (c : Int) := by omega
   clear hq d0 d1 d2 dq
   go_wp2_with (at_builtin; refine append_es rfl _ _ 27 rfl w1.heap.size 40 ip (.agg #[.slice none 0 0, .slice none 0 0]) 2 48 Tryz.underlying27 hip hp0 hp1 hp2 rfl (by decide) (.slice none 0 0) 0 [] rfl ⟨rfl, .inl ⟨rfl, rfl⟩⟩ a F c (es.take F) rfl ?xt1 ?xt2 ?xt3 ?xt4 ?_)
   case xt1 => exact (HES.out.kept (by decide) (FrT.of GQ.out)).take hF
   case xt2 => unfold maxLen; omega
   case xt3 => omega
   try (case xt4 => exact hsq)
   intro v5 w5 ho5 hg5
   try rw [Nat.zero_add, List.nil_append] at ho5
   obtain ⟨la, lc, hv5⟩ := own_shape10 ho5
   subst hv5
   have O5 := hid_intro ho5
   have G5 : Hid (w1.grownBy w5 none) := grown_trans GQ.out (by simpa [Value.ownBlock] using hg5)
   have e0 := keep1 e0 (show wc.grownBy w5 none by simpa [Value.ownBlock] using hg5)
   have e1 := keep1 e1 (show wc.grownBy w5 none by simpa [Value.ownBlock] using hg5)
   have e2 := keep1 e2 (show wc.grownBy w5 none by simpa [Value.ownBlock] using hg5)
   have eq := keep1 eq (show wc.grownBy w5 none by simpa [Value.ownBlock] using hg5)
   have hs5 : w1.heap.size ≤ w5.heap.size := G5.out.size
   clear ho5 hg5 hsq GQ
   by_cases hlt : F < n
   ·obtain ⟨p, hp⟩ : ∃ p, L[F]? = some p := ⟨_, List.getElem?_eq_getElem (by have := HLN.out; omega)⟩
    obtain ⟨b, off, pa, pc, qa, qc, rfl, c0, c1, b0, _⟩ := HMP.out.get hp
    have y0 := G5.out.cell c0 (by simp)
    have HC := hid_intro (fun (W : World) (hW : W.heap = w5.heap) => sameW pa ka p.key.length kn pc kc p.key key W ((b0.keptN G5.out).heap hW) ((HK.out.keptN G5.out).heap hW) (HDL.out p (List.mem_of_getElem? hp)) bk)
    have i0 : (0 : Int) ≤ (F : Int) := by omega
    have i1 : (F : Int) < (n : Int) := by omega
    have i2 : decide ((F : Int) < (n : Int)) = true := decide_eq_true i1
    have i3 : decide (F < n) = true := decide_eq_true hlt
    have HE9 := hid_intro (end_has (key := key) (L := L) (p := p) (by rw [HFF.out]; exact hp))
    rw [HEE.out, HFF.out] at HE9
    obtain ⟨pl, hpl⟩ : ∃ pl, p.key.length = pl := ⟨_, rfl⟩
    rw [hpl] at y0 HC
    clear hp c0 c1 b0 hpl
    by_cases hc : p.key = key
    ·rw [decide_eq_true hc] at HC
     rw [if_pos hc] at HE9
     go_wp2
     go_quiet ((go_at_call 12; exact Calls.quiet_of_same (HC.out _ rfl)))
     generalize hwd : w5.drewN _ = w6 at *
     have q6 : Qt w5 w6 := by rw [← hwd]; exact Qt.drewN _ _
     have QG := hid_intro (q6.grown none)
     have GQ := hid_intro (grown_trans G5.out QG.out)
     have O6 := hid_intro (own_kp O5.out QG.out)
     clear hwd q6
     go_upto_region 11 with fail
     refine does_r11 (E := F + 1) (M := F) (n := n) (c := c) (a := (some ⟨b, off, none⟩)) (heap_kept HQ.out GQ.out) (HES.out.kept (by decide) (FrT.of GQ.out)) (by omega) hn (by omega) O6.out GQ.out.size (by have := WL.out; have := WB.out; omega) ?_
     intro v92 v93 v94 v95 v96 v97 v98 v99 v100 v101 v102 w10 v10 ho10 hg10 hq10
     have GW : Hid (w1.grownBy w10 none) := by
      cases hb : (Value.slice la (F) lc).ownBlock with
      | none => rw [hb] at hg10; exact grown_trans GQ.out hg10
      | some d => rw [hb] at hg10; exact grown_new GQ.out hg10 (own_lt10 O6.out hb).1
     obtain ⟨a9, c9', e9, m9⟩ := MpW.of (es := es.take F ++ ([] ++ es.drop (F + 1))) (L := updT L key (nowB key val true)) (by rw [List.flatten_append, List.flatten_append]; simpa using ho10) (by
      rw [← HUP.out, HFF.out, HEE.out, HE9.out]
      exact ((HPS.out.take F).cef (CeF.of GW.out)).app ((PsW.nil _).app ((HPS.out.drop (F + 1)).cef (CeF.of GW.out)))) (by
      rw [← HUP.out, HFF.out, HEE.out, HE9.out]
      have := HLN.out
      simp [nowB]
      omega)
     subst e9
     refine bodyPost_end (results_none rfl _ _ _) rfl ?_
     exact ⟨rfl, ⟨_, _, _, heap_setCell_same w10 Q 0 _ _ _ hq10, mp_box hq10 m9⟩, grown_trans (grown_any (row := some Q) (grown_trans G0.out GW.out)) (grown_cell w10 Q 0 _)⟩
    ·rw [decide_eq_false hc] at HC
     rw [if_neg hc] at HE9
     go_wp2
     go_quiet ((go_at_call 12; exact Calls.quiet_of_same (HC.out _ rfl)))
     generalize hwd : w5.drewN _ = w6 at *
     have q6 : Qt w5 w6 := by rw [← hwd]; exact Qt.drewN _ _
     have QG := hid_intro (q6.grown none)
     have GQ := hid_intro (grown_trans G5.out QG.out)
     have O6 := hid_intro (own_kp O5.out QG.out)
     clear hwd q6
     go_upto_region 11 with fail
     refine does_r11 (E := F) (M := F) (n := n) (c := c) (a := (some ⟨b, off, none⟩)) (heap_kept HQ.out GQ.out) (HES.out.kept (by decide) (FrT.of GQ.out)) (by omega) hn (by omega) O6.out GQ.out.size (by have := WL.out; have := WB.out; omega) ?_
     intro v92 v93 v94 v95 v96 v97 v98 v99 v100 v101 v102 w10 v10 ho10 hg10 hq10
     have GW : Hid (w1.grownBy w10 none) := by
      cases hb : (Value.slice la (F) lc).ownBlock with
      | none => rw [hb] at hg10; exact grown_trans GQ.out hg10
      | some d => rw [hb] at hg10; exact grown_new GQ.out hg10 (own_lt10 O6.out hb).1
     obtain ⟨a9, c9', e9, m9⟩ := MpW.of (es := es.take F ++ ([] ++ es.drop F)) (L := updT L key (nowB key val true)) (by rw [List.flatten_append, List.flatten_append]; simpa using ho10) (by
      rw [← HUP.out, HFF.out, HEE.out, HE9.out]
      exact ((HPS.out.take F).cef (CeF.of GW.out)).app ((PsW.nil _).app ((HPS.out.drop F).cef (CeF.of GW.out)))) (by
      rw [← HUP.out, HFF.out, HEE.out, HE9.out]
      have := HLN.out
      simp [nowB]
      omega)
     subst e9
     refine bodyPost_end (results_none rfl _ _ _) rfl ?_
     exact ⟨rfl, ⟨_, _, _, heap_setCell_same w10 Q 0 _ _ _ hq10, mp_box hq10 m9⟩, grown_trans (grown_any (row := some Q) (grown_trans G0.out GW.out)) (grown_cell w10 Q 0 _)⟩
   ·have i1 : ¬ (F : Int) < (n : Int) := by omega
    have i2 : decide ((F : Int) < (n : Int)) = false := decide_eq_false i1
    have i3 : decide (F < n) = false := decide_eq_false hlt
    have HE9 := hid_intro (end_no (L := L) (key := key) (by rw [HFF.out]; have := HLN.out; omega))
    rw [HEE.out, HFF.out] at HE9
    go_wp2
    go_quiet (fail)
    generalize hwd : w5.drewN _ = w6 at *
    have q6 : Qt w5 w6 := by rw [← hwd]; exact Qt.drewN _ _
    have QG := hid_intro (q6.grown none)
    have GQ := hid_intro (grown_trans G5.out QG.out)
    have O6 := hid_intro (own_kp O5.out QG.out)
    clear hwd q6
    go_upto_region 11 with fail
    refine does_r11 (E := F) (M := F) (n := n) (c := c) (a := a) (heap_kept HQ.out GQ.out) (HES.out.kept (by decide) (FrT.of GQ.out)) (by omega) hn (by omega) O6.out GQ.out.size (by have := WL.out; have := WB.out; omega) ?_
    intro v92 v93 v94 v95 v96 v97 v98 v99 v100 v101 v102 w10 v10 ho10 hg10 hq10
    have GW : Hid (w1.grownBy w10 none) := by
     cases hb : (Value.slice la (F) lc).ownBlock with
     | none => rw [hb] at hg10; exact grown_trans GQ.out hg10
     | some d => rw [hb] at hg10; exact grown_new GQ.out hg10 (own_lt10 O6.out hb).1
    obtain ⟨a9, c9', e9, m9⟩ := MpW.of (es := es.take F ++ ([] ++ es.drop F)) (L := updT L key (nowB key val true)) (by rw [List.flatten_append, List.flatten_append]; simpa using ho10) (by
     rw [← HUP.out, HFF.out, HEE.out, HE9.out]
     exact ((HPS.out.take F).cef (CeF.of GW.out)).app ((PsW.nil _).app ((HPS.out.drop F).cef (CeF.of GW.out)))) (by
     rw [← HUP.out, HFF.out, HEE.out, HE9.out]
     have := HLN.out
     simp [nowB]
     omega)
    subst e9
    refine bodyPost_end (results_none rfl _ _ _) rfl ?_
    exact ⟨rfl, ⟨_, _, _, heap_setCell_same w10 Q 0 _ _ _ hq10, mp_box hq10 m9⟩, grown_trans (grown_any (row := some Q) (grown_trans G0.out GW.out)) (grown_cell w10 Q 0 _)⟩
 | false =>
  have hb' : ¬ kn < 1 ∧ ¬ 255 < kn ∧ ¬ 262144 < vn := by
   have : badB kn vn false = false := hbad
   simp [badB] at this
   omega
  obtain ⟨b1, b2, b3⟩ := hb'
  have k1 : ¬ (kn : Int) < 1 := by omega
  have k2 : ¬ (255 : Int) < (kn : Int) := by omega
  have k3 : ¬ (262144 : Int) < (vn : Int) := by omega
  go_upto_block 0 with fail
  go_cut [4] from 27 to 49 (fun s4 wx => s4 = .int .i64 (F : Nat) ∧ Qt w1 wx)
  case first =>
   go_wp2_with fail
   go_loopw [4] (fun s4 wr => ∃ k : Nat, k ≤ F ∧ s4 = .int .i64 (k : Nat) ∧ Qt w1 wr) (fun si _ => n - (intOf si).toNat)
   case atStart => exact ⟨0, Nat.zero_le _, rfl, Qt.refl _⟩
   case round =>
    obtain ⟨k, hkF, rfl, hq⟩ := hrel
    have HQT := hid_intro hq
    have e0 := (hq.cell _).trans d0
    have eq := (hq.cell _).trans dq
    by_cases hlt : k < n
    ·obtain ⟨p, hp⟩ : ∃ p, L[k]? = some p := ⟨_, List.getElem?_eq_getElem (by have := HLN.out; omega)⟩
     obtain ⟨b, off, pa, pc, qa, qc, rfl, c0, c1, b0, _⟩ := HMP.out.get hp
     have y0 := (hq.cell _).trans c0
     have HC := hid_intro (fun (W : World) (hW : W.heap = wr.heap) => lessW pa ka p.key.length kn pc kc p.key key W (b0.heap (hW.trans hq.heap)) (HK.out.heap (hW.trans hq.heap)) (HDL.out p (List.mem_of_getElem? hp)) bk)
     have HP := hid_intro hp
     have i0 : (0 : Int) ≤ (k : Int) := by omega
     have i1 : (k : Int) < (n : Int) := by omega
     have i2 : decide ((k : Int) < (n : Int)) = true := decide_eq_true i1
     have i3 : decide (k < n) = true := decide_eq_true hlt
     obtain ⟨pl, hpl⟩ : ∃ pl, p.key.length = pl := ⟨_, rfl⟩
     rw [hpl] at y0 HC
     clear hp c0 c1 b0 hq hpl
     by_cases hc : cmpZ p.key key < 0
     ·rw [decide_eq_true hc] at HC
      have hkF2 : k < F := by
       rcases Nat.lt_or_ge k F with h | h
       ·exact h
       ·have : k = F := by omega
        subst this
        have h9 := HP.out
        rw [← HFF.out] at h9
        exact absurd hc (find_ge h9)
      go_wp2
      go_quiet ((go_at_call 35; exact Calls.quiet_of_same (HC.out _ rfl)))
      go_wp2_with fail
      go_roundw
      case rel => exact ⟨k + 1, by omega, by go_num, HQT.out.trans (Qt.drewN _ _)⟩
      case measure => simp [intOf]; omega
     ·rw [decide_eq_false hc] at HC
      have hkF2 : k = F := by
       rcases Nat.lt_or_ge k F with h | h
       ·rw [← HFF.out] at h
        exact absurd (find_lt HP.out h) hc
       ·omega
      subst hkF2
      go_wp2
      go_quiet ((go_at_call 35; exact Calls.quiet_of_same (HC.out _ rfl)))
      go_wp2_with fail
      go_meet
      exact ⟨rfl, HQT.out.trans (Qt.drewN _ _)⟩
    ·have hkF2 : k = F := by omega
     have i1 : ¬ (k : Int) < (n : Int) := by omega
     have i2 : decide ((k : Int) < (n : Int)) = false := decide_eq_false i1
     have i3 : decide (k < n) = false := decide_eq_false hlt
     have HKF := hid_intro hkF2
     clear hkF2 hq
     go_wp2
     go_quiet (fail)
     go_wp2_with fail
     go_meet
     have := HKF.out
     subst this
     exact ⟨rfl, HQT.out.trans (Qt.drewN _ _)⟩
  case rest =>
   obtain ⟨rfl, hq⟩ := hcut
   have GQ := hid_intro (hq.grown none)
   have e0 := (hq.cell _).trans d0
   have e1 := (hq.cell _).trans d1
   have e2 := (hq.cell _).trans d2
   have eq := (hq.cell _).trans dq
   have hsq : w1.heap.size ≤ wc.heap.size := (hq.grown none).size
   have j0 : (0 : Int) ≤ (F : Int) := by omega
   have j1 : (F : Int) ≤ (n : Int) := by omega
   have j2 : (n : Int) ≤ (c : Int) := by omega
   have j3 : (F : Int) ≤ (c : Int) := by omega
   clear hq d0 d1 d2 dq
   go_wp2_with (at_builtin; refine append_es rfl _ _ 27 rfl w1.heap.size 40 ip (.agg #[.slice none 0 0, .slice none 0 0]) 2 48 Tryz.underlying27 hip hp0 hp1 hp2 rfl (by decide) (.slice none 0 0) 0 [] rfl ⟨rfl, .inl ⟨rfl, rfl⟩⟩ a F c (es.take F) rfl ?xf1 ?xf2 ?xf3 ?xf4 ?_)
   case xf1 => exact (HES.out.kept (by decide) (FrT.of GQ.out)).take hF
   case xf2 => unfold maxLen; omega
   case xf3 => omega
   try (case xf4 => exact hsq)
   intro v5 w5 ho5 hg5
   try rw [Nat.zero_add, List.nil_append] at ho5
   obtain ⟨la, lc, hv5⟩ := own_shape10 ho5
   subst hv5
   have O5 := hid_intro ho5
   have G5 : Hid (w1.grownBy w5 none) := grown_trans GQ.out (by simpa [Value.ownBlock] using hg5)
   have e0 := keep1 e0 (show wc.grownBy w5 none by simpa [Value.ownBlock] using hg5)
   have e1 := keep1 e1 (show wc.grownBy w5 none by simpa [Value.ownBlock] using hg5)
   have e2 := keep1 e2 (show wc.grownBy w5 none by simpa [Value.ownBlock] using hg5)
   have eq := keep1 eq (show wc.grownBy w5 none by simpa [Value.ownBlock] using hg5)
   have hs5 : w1.heap.size ≤ w5.heap.size := G5.out.size
   clear ho5 hg5 hsq GQ
   go_upto_region 8 with fail
   have hqB : Q ≠ B := by have := WL.out; omega
   go_cut [5] from 60 to 70 (fun s5 wx => ∃ l8 c8 K6 K7, s5 = .slice l8 (F + 1) c8 ∧ wx.ownsRow w1.heap.size 40 2 (.slice l8 (F + 1) c8) (F + 1) ((es.take F).flatten ++ [.slice (some ⟨K6, 0, none⟩) kn kn, .slice (some ⟨K7, 0, none⟩) vn vn]) ∧ BtyT wx (some ⟨K6, 0, none⟩) kn kn key ∧ BtyT wx (some ⟨K7, 0, none⟩) vn vn val ∧ w1.grownBy wx none)
   case first =>
    refine wp_region_noPanic ?_
    refine wp_region_held_drew (S := (fun w' => w'.cell? ⟨B, 0, none⟩ = some (.slice ka kn kc) ∧ w'.cell? ⟨B, 1, none⟩ = some (.slice va vn vc))) (by kernel_rfl) ⟨e0, e1⟩ (fun hHeld => ?_)
    have GD := hid_intro (show w1.grownBy w5.drew none from grown_trans G5.out ((Qt.refl w5).drew.grown none))
    have OD := hid_intro (show w5.drew.ownsRow w1.heap.size 40 2 (.slice la F lc) F (es.take F).flatten from O5.out.drew)
    have sD : w1.heap.size ≤ w5.drew.heap.size := hs5
    generalize w5.drew = wd at *
    refine wpAnyH_take (i := 0) (oi := { dst := some 60, op := Go.Op.move (Go.Operand.tmp 5), type := 27, pos := "free.go:63", after := #[], guard := none }) (v := ?_) rfl (by kernel_rfl) (by kernel_rfl) (by kernel_rfl) (fun _ _ _ h => h) (Or.inl ⟨by rfl, ?_⟩) (by assumption) ?_
    rotate_left
    ·intro w hSw; (try dsimp only at hSw); go_simp; (try with_reducible rfl)
    simp only [Act.put, List.setIfInBounds_toArray, List.set_cons_zero, List.set_cons_succ]
    refine wpAnyH_take (i := 1) (oi := { dst := some 61, op := Go.Op.fieldAddr 32 (Go.Operand.tmp 3) 0, type := 0, pos := "free.go:63", after := #[], guard := none }) (v := ?_) rfl (by kernel_rfl) (by kernel_rfl) (by kernel_rfl) (fun _ _ _ h => h) (Or.inl ⟨by rfl, ?_⟩) (by assumption) ?_
    rotate_left
    ·intro w hSw; (try dsimp only at hSw); go_simp; (try with_reducible rfl)
    simp only [Act.put, List.setIfInBounds_toArray, List.set_cons_zero, List.set_cons_succ]
    refine wpAnyH_take (i := 2) (oi := { dst := some 62, op := Go.Op.load 30 (Go.Operand.tmp 61), type := 30, pos := "free.go:63", after := #[{ on := 1, ground := Go.Ground.data }], guard := none }) (v := ?_) rfl (by kernel_rfl) (by kernel_rfl) (by kernel_rfl) (fun _ _ _ h => h) (Or.inl ⟨by rfl, ?_⟩) (by assumption) ?_
    rotate_left
    ·intro w hSw; (try dsimp only at hSw); go_simp; (try with_reducible rfl)
    simp only [Act.put, List.setIfInBounds_toArray, List.set_cons_zero, List.set_cons_succ]
    refine wpAnyH_take (i := 4) (oi := { dst := some 64, op := Go.Op.fieldAddr 32 (Go.Operand.tmp 3) 1, type := 0, pos := "free.go:63", after := #[], guard := none }) (v := ?_) rfl (by kernel_rfl) (by kernel_rfl) (by kernel_rfl) (fun _ _ _ h => h) (Or.inl ⟨by rfl, ?_⟩) (by assumption) ?_
    rotate_left
    ·intro w hSw; (try dsimp only at hSw); go_simp; (try with_reducible rfl)
    simp only [Act.put, List.setIfInBounds_toArray, List.set_cons_zero, List.set_cons_succ]
    refine wpAnyH_take (i := 5) (oi := { dst := some 65, op := Go.Op.load 30 (Go.Operand.tmp 64), type := 30, pos := "free.go:63", after := #[{ on := 4, ground := Go.Ground.data }], guard := none }) (v := ?_) rfl (by kernel_rfl) (by kernel_rfl) (by kernel_rfl) (fun _ _ _ h => h) (Or.inl ⟨by rfl, ?_⟩) (by assumption) ?_
    rotate_left
    ·intro w hSw; (try dsimp only at hSw); go_simp; (try with_reducible rfl)
    simp only [Act.put, List.setIfInBounds_toArray, List.set_cons_zero, List.set_cons_succ]
    refine wpAnyH_ready (rs := [3]) (by kernel_rfl) (by simp) ?_
    refine AllReadyH.cons (o := { dst := some 63, op := Go.Op.call { callee := Go.Callee.value (Go.Operand.func 36), args := #[Go.Operand.tmp 62], argTypes := #[30] }, type := 30, pos := "free.go:63", after := #[{ on := 2, ground := Go.Ground.data }], guard := none }) rfl (fun K2 hK2 => ?_) AllReadyH.nil
    go_simp
    go_at_call 36
    refine (refBytes_any ka kn kc key wd (HK.out.keptN GD.out) (by omega)).mono ?_
    rintro en w6 ⟨rfl, ho6, hg6, hs6⟩
    obtain ⟨K6, hK6⟩ : ∃ K, wd.heap.size = K := ⟨_, rfl⟩
    rw [hK6] at ho6 ⊢
    have T6 := And.intro (keep1 hHeld.1 hg6) (keep1 hHeld.2 hg6)
    have G6 := hid_intro (grown_trans GD.out hg6)
    have O6 := hid_intro (own_kp OD.out hg6)
    have B6 := hid_intro (BtyT.of_owns ho6)
    clear ho6 hg6 hs6
    refine hK2.out _ _ (T6) (fun hHeld => ?_)
    clear hK2 K2
    try simp only [Act.put, List.setIfInBounds_toArray, List.set_cons_zero, List.set_cons_succ]
    refine wpAnyH_ready (rs := [6]) (by kernel_rfl) (by simp) ?_
    refine AllReadyH.cons (o := { dst := some 66, op := Go.Op.call { callee := Go.Callee.value (Go.Operand.func 36), args := #[Go.Operand.tmp 65], argTypes := #[30] }, type := 30, pos := "free.go:63", after := #[{ on := 5, ground := Go.Ground.data }, { on := 3, ground := Go.Ground.chain }], guard := none }) rfl (fun K2 hK2 => ?_) AllReadyH.nil
    go_simp
    go_at_call 36
    refine (refBytes_any va vn vc val w6 (HV.out.keptN G6.out) (by omega)).mono ?_
    rintro en w7 ⟨rfl, ho7, hg7, hs7⟩
    obtain ⟨K7, hK7⟩ : ∃ K, w6.heap.size = K := ⟨_, rfl⟩
    rw [hK7] at ho7 ⊢
    have T7 := And.intro (keep1 T6.1 hg7) (keep1 T6.2 hg7)
    have G7 := hid_intro (grown_trans G6.out hg7)
    have O7 := hid_intro (own_kp O6.out hg7)
    have BK7 := hid_intro (B6.out.kept (FrT.of hg7))
    have BV7 := hid_intro (BtyT.of_owns ho7)
    clear ho7 hg7 hs7
    refine hK2.out _ _ (T7) (fun hHeld => ?_)
    clear hK2 K2
    try simp only [Act.put, List.setIfInBounds_toArray, List.set_cons_zero, List.set_cons_succ]
    refine wpAnyH_take (i := 7) (oi := { dst := some 67, op := Go.Op.build 40 #[(0, Go.Operand.tmp 63), (1, Go.Operand.tmp 66)], type := 40, pos := "free.go:63", after := #[{ on := 3, ground := Go.Ground.data }, { on := 6, ground := Go.Ground.data }], guard := none }) (v := ?_) rfl (by kernel_rfl) (by kernel_rfl) (by kernel_rfl) (fun _ _ _ h => h) (Or.inl ⟨by rfl, ?_⟩) (by assumption) ?_
    rotate_left
    ·intro w hSw; (try dsimp only at hSw); go_simp; (try with_reducible rfl)
    simp only [Act.put, List.setIfInBounds_toArray, List.set_cons_zero, List.set_cons_succ]
    refine wpAnyH_ready (rs := [8]) (by kernel_rfl) (by simp) ?_
    refine AllReadyH.cons (o := { dst := some 68, op := Go.Op.buildSlice 27 1 #[(0, Go.Operand.tmp 67)], type := 27, pos := "free.go:63", after := #[{ on := 7, ground := Go.Ground.data }], guard := none }) rfl (fun K2 hK2 => ?_) AllReadyH.nil
    go_simp
    refine hK2.out _ _ (And.intro (keep1 T7.1 (World.grownBy_alloc w7 _ none)) (keep1 T7.2 (World.grownBy_alloc w7 _ none))) (fun hHeld => ?_)
    clear hK2 K2
    try simp only [Act.put, List.setIfInBounds_toArray, List.set_cons_zero, List.set_cons_succ]
    have ga := World.grownBy_alloc w7 (.cells #[.slice (some ⟨K6, 0, none⟩) kn kn, .slice (some ⟨K7, 0, none⟩) vn vn] 40) none
    have O8 := hid_intro (own_kp O7.out ga)
    have G8 := hid_intro (grown_trans G7.out ga)
    have BK8 := hid_intro (BK7.out.kept (FrT.of ga))
    have BV8 := hid_intro (BV7.out.kept (FrT.of ga))
    have s8 : w1.heap.size ≤ (w7.alloc (.cells #[.slice (some ⟨K6, 0, none⟩) kn kn, .slice (some ⟨K7, 0, none⟩) vn vn] 40)).heap.size := G8.out.size
    have T8 := And.intro (keep1 T7.1 ga) (keep1 T7.2 ga)
    have N8 : Hid (∀ j u, [Value.slice (some ⟨K6, 0, none⟩) kn kn, Value.slice (some ⟨K7, 0, none⟩) vn vn][j]? = some u → (w7.alloc (.cells #[.slice (some ⟨K6, 0, none⟩) kn kn, .slice (some ⟨K7, 0, none⟩) vn vn] 40)).cell? ((⟨w7.heap.size, 0, none⟩ : Addr).add j) = some u) := by
     intro j u hu
     rw [Addr.add_lit, cell_of_row _ w7.heap.size _ _ _ (0, 0) (heap_alloc_new w7 _), Nat.zero_add]
     simpa using hu
    obtain ⟨D, hD⟩ : ∃ D, w7.heap.size = D := ⟨_, rfl⟩
    rw [hD] at N8 ⊢
    generalize w7.alloc (.cells #[.slice (some ⟨K6, 0, none⟩) kn kn, .slice (some ⟨K7, 0, none⟩) vn vn] 40) = w8 at *
    clear ga
    refine wpAnyH_ready (rs := [9]) (by kernel_rfl) (by simp) ?_
    refine AllReadyH.cons (o := { dst := some 69, op := Go.Op.call { callee := Go.Callee.builtin Go.Builtin.append, args := #[Go.Operand.tmp 60, Go.Operand.tmp 68], argTypes := #[27, 27] }, type := 27, pos := "free.go:63", after := #[{ on := 0, ground := Go.Ground.data }, { on := 8, ground := Go.Ground.data }, { on := 6, ground := Go.Ground.chain }], guard := none }) rfl (fun K2 hK2 => ?_) AllReadyH.nil
    refine step_ownT rfl (.tmp 60) (.tmp 68) 27 (by rfl) w1.heap.size 40 ip (.agg #[.slice none 0 0, .slice none 0 0]) 2 48 Tryz.underlying27 hip hp0 hp1 hp2 rfl (by decide) (.slice la F lc) F (es.take F).flatten (by rfl) O8.out ⟨D, 0, none⟩ 1 1 [.slice (some ⟨K6, 0, none⟩) kn kn, .slice (some ⟨K7, 0, none⟩) vn vn] (by rfl) (by rfl) N8.out (by simp [Value.oneCell']) (by unfold maxLen; omega) (by omega) s8 ?_
    intro v9 w9 ho9 hg9
    have G9x : Hid (w8.grownBy w9 none ∨ ∃ d, w8.grownBy w9 (some d) ∧ w1.heap.size ≤ d) := by
     cases hb : (Value.slice la F lc).ownBlock with
     | none => rw [hb] at hg9; exact .inl hg9
     | some d => rw [hb] at hg9; exact .inr ⟨d, hg9, (own_lt10 O8.out hb).1⟩
    have G9 : Hid (w1.grownBy w9 none) := by
     rcases G9x.out with h | ⟨d, h, h'⟩
     ·exact grown_trans G8.out h
     ·exact grown_new G8.out h h'
    obtain ⟨l9, c9, hv9⟩ := own_shape10 ho9
    subst hv9
    have O9 := hid_intro ho9
    have T9 : w9.cell? ⟨B, 0, none⟩ = some (.slice ka kn kc) ∧ w9.cell? ⟨B, 1, none⟩ = some (.slice va vn vc) := ⟨G9.out.cell (cell_heap (i := 0) X1.out rfl) (by simp), G9.out.cell (cell_heap (i := 1) X1.out rfl) (by simp)⟩
    have BK9 := hid_intro (BK8.out.keptX (by decide) (fr_own O8.out hg9))
    have BV9 := hid_intro (BV8.out.keptX (by decide) (fr_own O8.out hg9))
    clear ho9 hg9 G9x
    refine hK2.out _ _ (T9) (fun hHeld => ?_)
    clear hK2 K2
    try simp only [Act.put, List.setIfInBounds_toArray, List.set_cons_zero, List.set_cons_succ]
    refine wpAnyH_ready (rs := [10]) (by kernel_rfl) (by simp) ?_
    refine AllReadyH.cons (o := { dst := some 5, op := Go.Op.assign (Go.Operand.tmp 69), type := 27, pos := "free.go:63", after := #[{ on := 9, ground := Go.Ground.data }, { on := 9, ground := Go.Ground.chain }, { on := 0, ground := Go.Ground.phase }, { on := 1, ground := Go.Ground.phase }, { on := 2, ground := Go.Ground.phase }, { on := 3, ground := Go.Ground.phase }, { on := 4, ground := Go.Ground.phase }, { on := 5, ground := Go.Ground.phase }, { on := 6, ground := Go.Ground.phase }, { on := 7, ground := Go.Ground.phase }, { on := 8, ground := Go.Ground.phase }, { on := 9, ground := Go.Ground.phase }], guard := none }) rfl (fun K2 hK2 => ?_) AllReadyH.nil
    go_simp
    refine hK2.out _ _ (hHeld) (fun hHeld => ?_)
    clear hK2 K2
    try simp only [Act.put, List.setIfInBounds_toArray, List.set_cons_zero, List.set_cons_succ]
    refine wpAnyH_done (by kernel_rfl) ?_ _
    refine NoPanic.normal ?_
    go_wp2_with fail
    go_meet
    exact ⟨l9, c9, _, _, rfl, O9.out, BK9.out, BV9.out, G9.out⟩
   case rest =>
    obtain ⟨la, lc, K6, K7, rfl, ho8, hbk8, hbv8, hg8⟩ := hcut
    clear O5 G5 e0 e1 e2 eq hs5
    generalize wc = w5 at *
    have O5 := hid_intro ho8
    have G5 := hid_intro hg8
    have BK5 := hid_intro hbk8
    have BV5 := hid_intro hbv8
    have e0 := hg8.cell (cell_heap (i := 0) X1.out rfl) (by simp)
    have eq := hg8.cell (cell_heap (i := 0) HQ.out rfl) (by simp)
    have hs5 : w1.heap.size ≤ w5.heap.size := hg8.size
    clear ho8 hg8 hbk8 hbv8
    by_cases hlt : F < n
    ·obtain ⟨p, hp⟩ : ∃ p, L[F]? = some p := ⟨_, List.getElem?_eq_getElem (by have := HLN.out; omega)⟩
     obtain ⟨b, off, pa, pc, qa, qc, rfl, c0, c1, b0, _⟩ := HMP.out.get hp
     have y0 := G5.out.cell c0 (by simp)
     have HC := hid_intro (fun (W : World) (hW : W.heap = w5.heap) => sameW pa ka p.key.length kn pc kc p.key key W ((b0.keptN G5.out).heap hW) ((HK.out.keptN G5.out).heap hW) (HDL.out p (List.mem_of_getElem? hp)) bk)
     have i0 : (0 : Int) ≤ (F : Int) := by omega
     have i1 : (F : Int) < (n : Int) := by omega
     have i2 : decide ((F : Int) < (n : Int)) = true := decide_eq_true i1
     have i3 : decide (F < n) = true := decide_eq_true hlt
     have HE9 := hid_intro (end_has (key := key) (L := L) (p := p) (by rw [HFF.out]; exact hp))
     rw [HEE.out, HFF.out] at HE9
     obtain ⟨pl, hpl⟩ : ∃ pl, p.key.length = pl := ⟨_, rfl⟩
     rw [hpl] at y0 HC
     clear hp c0 c1 b0 hpl
     by_cases hc : p.key = key
     ·rw [decide_eq_true hc] at HC
      rw [if_pos hc] at HE9
      go_wp2
      go_quiet ((go_at_call 12; exact Calls.quiet_of_same (HC.out _ rfl)))
      generalize hwd : w5.drewN _ = w6 at *
      have q6 : Qt w5 w6 := by rw [← hwd]; exact Qt.drewN _ _
      have QG := hid_intro (q6.grown none)
      have GQ := hid_intro (grown_trans G5.out QG.out)
      have O6 := hid_intro (own_kp O5.out QG.out)
      clear hwd q6
      go_upto_region 11 with fail
      refine does_r11 (E := F + 1) (M := F + 1) (n := n) (c := c) (a := (some ⟨b, off, none⟩)) (heap_kept HQ.out GQ.out) (HES.out.kept (by decide) (FrT.of GQ.out)) (by omega) hn (by omega) O6.out GQ.out.size (by have := WL.out; have := WB.out; omega) ?_
      intro v92 v93 v94 v95 v96 v97 v98 v99 v100 v101 v102 w10 v10 ho10 hg10 hq10
      have GW : Hid (w1.grownBy w10 none) := by
       cases hb : (Value.slice la (F + 1) lc).ownBlock with
       | none => rw [hb] at hg10; exact grown_trans GQ.out hg10
       | some d => rw [hb] at hg10; exact grown_new GQ.out hg10 (own_lt10 O6.out hb).1
      have BP : Hid (BpW w10 [.slice (some ⟨K6, 0, none⟩) kn kn, .slice (some ⟨K7, 0, none⟩) vn vn] ⟨key, val, []⟩) := by
       have a1 := HKL.out
       have a2 := HVL.out
       have hk9 := (BK5.out.kept (FrT.of QG.out)).keptX (S := ScR) (by decide) (fr_own O6.out hg10)
       have hv9 := (BV5.out.kept (FrT.of QG.out)).keptX (S := ScR) (by decide) (fr_own O6.out hg10)
       subst a1 a2
       exact ⟨_, _, _, _, rfl, hk9.b, hv9.b⟩
      obtain ⟨a9, c9', e9, m9⟩ := MpW.of (es := es.take F ++ ([[.slice (some ⟨K6, 0, none⟩) kn kn, .slice (some ⟨K7, 0, none⟩) vn vn]] ++ es.drop (F + 1))) (L := updT L key (nowB key val false)) (by rw [List.flatten_append, List.flatten_append]; simpa using ho10) (by
       rw [← HUP.out, HFF.out, HEE.out, HE9.out]
       exact ((HPS.out.take F).cef (CeF.of GW.out)).app ((PsW.one BP.out).app ((HPS.out.drop (F + 1)).cef (CeF.of GW.out)))) (by
       rw [← HUP.out, HFF.out, HEE.out, HE9.out]
       have := HLN.out
       simp [nowB]
       omega)
      subst e9
      refine bodyPost_end (results_none rfl _ _ _) rfl ?_
      exact ⟨rfl, ⟨_, _, _, heap_setCell_same w10 Q 0 _ _ _ hq10, mp_box hq10 m9⟩, grown_trans (grown_any (row := some Q) (grown_trans G0.out GW.out)) (grown_cell w10 Q 0 _)⟩
     ·rw [decide_eq_false hc] at HC
      rw [if_neg hc] at HE9
      go_wp2
      go_quiet ((go_at_call 12; exact Calls.quiet_of_same (HC.out _ rfl)))
      generalize hwd : w5.drewN _ = w6 at *
      have q6 : Qt w5 w6 := by rw [← hwd]; exact Qt.drewN _ _
      have QG := hid_intro (q6.grown none)
      have GQ := hid_intro (grown_trans G5.out QG.out)
      have O6 := hid_intro (own_kp O5.out QG.out)
      clear hwd q6
      go_upto_region 11 with fail
      refine does_r11 (E := F) (M := F + 1) (n := n) (c := c) (a := (some ⟨b, off, none⟩)) (heap_kept HQ.out GQ.out) (HES.out.kept (by decide) (FrT.of GQ.out)) (by omega) hn (by omega) O6.out GQ.out.size (by have := WL.out; have := WB.out; omega) ?_
      intro v92 v93 v94 v95 v96 v97 v98 v99 v100 v101 v102 w10 v10 ho10 hg10 hq10
      have GW : Hid (w1.grownBy w10 none) := by
       cases hb : (Value.slice la (F + 1) lc).ownBlock with
       | none => rw [hb] at hg10; exact grown_trans GQ.out hg10
       | some d => rw [hb] at hg10; exact grown_new GQ.out hg10 (own_lt10 O6.out hb).1
      have BP : Hid (BpW w10 [.slice (some ⟨K6, 0, none⟩) kn kn, .slice (some ⟨K7, 0, none⟩) vn vn] ⟨key, val, []⟩) := by
       have a1 := HKL.out
       have a2 := HVL.out
       have hk9 := (BK5.out.kept (FrT.of QG.out)).keptX (S := ScR) (by decide) (fr_own O6.out hg10)
       have hv9 := (BV5.out.kept (FrT.of QG.out)).keptX (S := ScR) (by decide) (fr_own O6.out hg10)
       subst a1 a2
       exact ⟨_, _, _, _, rfl, hk9.b, hv9.b⟩
      obtain ⟨a9, c9', e9, m9⟩ := MpW.of (es := es.take F ++ ([[.slice (some ⟨K6, 0, none⟩) kn kn, .slice (some ⟨K7, 0, none⟩) vn vn]] ++ es.drop F)) (L := updT L key (nowB key val false)) (by rw [List.flatten_append, List.flatten_append]; simpa using ho10) (by
       rw [← HUP.out, HFF.out, HEE.out, HE9.out]
       exact ((HPS.out.take F).cef (CeF.of GW.out)).app ((PsW.one BP.out).app ((HPS.out.drop F).cef (CeF.of GW.out)))) (by
       rw [← HUP.out, HFF.out, HEE.out, HE9.out]
       have := HLN.out
       simp [nowB]
       omega)
      subst e9
      refine bodyPost_end (results_none rfl _ _ _) rfl ?_
      exact ⟨rfl, ⟨_, _, _, heap_setCell_same w10 Q 0 _ _ _ hq10, mp_box hq10 m9⟩, grown_trans (grown_any (row := some Q) (grown_trans G0.out GW.out)) (grown_cell w10 Q 0 _)⟩
    ·have i1 : ¬ (F : Int) < (n : Int) := by omega
     have i2 : decide ((F : Int) < (n : Int)) = false := decide_eq_false i1
     have i3 : decide (F < n) = false := decide_eq_false hlt
     have HE9 := hid_intro (end_no (L := L) (key := key) (by rw [HFF.out]; have := HLN.out; omega))
     rw [HEE.out, HFF.out] at HE9
     go_wp2
     go_quiet (fail)
     generalize hwd : w5.drewN _ = w6 at *
     have q6 : Qt w5 w6 := by rw [← hwd]; exact Qt.drewN _ _
     have QG := hid_intro (q6.grown none)
     have GQ := hid_intro (grown_trans G5.out QG.out)
     have O6 := hid_intro (own_kp O5.out QG.out)
     clear hwd q6
     go_upto_region 11 with fail
     refine does_r11 (E := F) (M := F + 1) (n := n) (c := c) (a := a) (heap_kept HQ.out GQ.out) (HES.out.kept (by decide) (FrT.of GQ.out)) (by omega) hn (by omega) O6.out GQ.out.size (by have := WL.out; have := WB.out; omega) ?_
     intro v92 v93 v94 v95 v96 v97 v98 v99 v100 v101 v102 w10 v10 ho10 hg10 hq10
     have GW : Hid (w1.grownBy w10 none) := by
      cases hb : (Value.slice la (F + 1) lc).ownBlock with
      | none => rw [hb] at hg10; exact grown_trans GQ.out hg10
      | some d => rw [hb] at hg10; exact grown_new GQ.out hg10 (own_lt10 O6.out hb).1
     have BP : Hid (BpW w10 [.slice (some ⟨K6, 0, none⟩) kn kn, .slice (some ⟨K7, 0, none⟩) vn vn] ⟨key, val, []⟩) := by
      have a1 := HKL.out
      have a2 := HVL.out
      have hk9 := (BK5.out.kept (FrT.of QG.out)).keptX (S := ScR) (by decide) (fr_own O6.out hg10)
      have hv9 := (BV5.out.kept (FrT.of QG.out)).keptX (S := ScR) (by decide) (fr_own O6.out hg10)
      subst a1 a2
      exact ⟨_, _, _, _, rfl, hk9.b, hv9.b⟩
     obtain ⟨a9, c9', e9, m9⟩ := MpW.of (es := es.take F ++ ([[.slice (some ⟨K6, 0, none⟩) kn kn, .slice (some ⟨K7, 0, none⟩) vn vn]] ++ es.drop F)) (L := updT L key (nowB key val false)) (by rw [List.flatten_append, List.flatten_append]; simpa using ho10) (by
      rw [← HUP.out, HFF.out, HEE.out, HE9.out]
      exact ((HPS.out.take F).cef (CeF.of GW.out)).app ((PsW.one BP.out).app ((HPS.out.drop F).cef (CeF.of GW.out)))) (by
      rw [← HUP.out, HFF.out, HEE.out, HE9.out]
      have := HLN.out
      simp [nowB]
      omega)
     subst e9
     refine bodyPost_end (results_none rfl _ _ _) rfl ?_
     exact ⟨rfl, ⟨_, _, _, heap_setCell_same w10 Q 0 _ _ _ hq10, mp_box hq10 m9⟩, grown_trans (grown_any (row := some Q) (grown_trans G0.out GW.out)) (grown_cell w10 Q 0 _)⟩
end Go.Proofs.YtepcgckapoljpaaGreat
