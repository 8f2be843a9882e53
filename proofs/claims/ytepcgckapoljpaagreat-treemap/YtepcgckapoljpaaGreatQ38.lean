import Derived.Test.YtepcgckapoljpaaGreatQ21
namespace Go.Proofs.YtepcgckapoljpaaGreat
open Go.RowKit
def bjOps : Array Oper := #[{ dst := some 12, op := Op.move (Operand.tmp 0), type := 134, pos := "branch.go:57", after := #[], guard := none }, { dst := some 13, op := Op.nilCheck (Operand.tmp 12), type := 0, pos := "branch.go:57", after := #[{ on := 0, ground := Ground.data }], guard := none }, { dst := some 14, op := Op.fieldAddr 136 (Operand.tmp 13) 1, type := 0, pos := "branch.go:57", after := #[{ on := 1, ground := Ground.data }], guard := none }, { dst := some 15, op := Op.fieldAddr 77 (Operand.tmp 14) 0, type := 0, pos := "branch.go:57", after := #[{ on := 2, ground := Ground.data }], guard := none }, { dst := some 16, op := Op.load 75 (Operand.tmp 15), type := 75, pos := "branch.go:57", after := #[{ on := 3, ground := Ground.data }], guard := none }, { dst := some 17, op := Op.move (Operand.tmp 7), type := 134, pos := "branch.go:57", after := #[], guard := none }, { dst := some 18, op := Op.nilCheck (Operand.tmp 17), type := 0, pos := "branch.go:57", after := #[{ on := 5, ground := Ground.data }], guard := none }, { dst := some 19, op := Op.fieldAddr 136 (Operand.tmp 18) 1, type := 0, pos := "branch.go:57", after := #[{ on := 6, ground := Ground.data }], guard := none }, { dst := some 20, op := Op.fieldAddr 77 (Operand.tmp 19) 0, type := 0, pos := "branch.go:57", after := #[{ on := 7, ground := Ground.data }], guard := none }, { dst := some 21, op := Op.load 75 (Operand.tmp 20), type := 75, pos := "branch.go:57", after := #[{ on := 8, ground := Ground.data }], guard := none }, { dst := some 22, op := Op.buildSlice 204 2 #[(0, Operand.tmp 16), (1, Operand.tmp 21)], type := 204, pos := "branch.go:57", after := #[{ on := 4, ground := Ground.data }, { on := 9, ground := Ground.data }], guard := none }, { dst := some 23, op := Op.call { callee := Callee.value (Operand.func 172), args := #[Operand.tmp 22], argTypes := #[204] }, type := 75, pos := "branch.go:58", after := #[{ on := 10, ground := Ground.data }], guard := none }, { dst := some 24, op := Op.move (Operand.tmp 0), type := 134, pos := "branch.go:57", after := #[], guard := none }, { dst := some 25, op := Op.nilCheck (Operand.tmp 24), type := 0, pos := "branch.go:57", after := #[{ on := 12, ground := Ground.data }], guard := none }, { dst := some 26, op := Op.fieldAddr 136 (Operand.tmp 25) 1, type := 0, pos := "branch.go:57", after := #[{ on := 13, ground := Ground.data }], guard := none }, { dst := some 27, op := Op.fieldAddr 77 (Operand.tmp 26) 1, type := 0, pos := "branch.go:57", after := #[{ on := 14, ground := Ground.data }], guard := none }, { dst := some 28, op := Op.load 51 (Operand.tmp 27), type := 51, pos := "branch.go:57", after := #[{ on := 15, ground := Ground.data }], guard := none }, { dst := some 29, op := Op.move (Operand.tmp 1), type := 30, pos := "branch.go:57", after := #[], guard := none }, { dst := some 30, op := Op.buildSlice 51 1 #[(0, Operand.tmp 29)], type := 51, pos := "branch.go:57", after := #[{ on := 17, ground := Ground.data }], guard := none }, { dst := some 31, op := Op.move (Operand.tmp 7), type := 134, pos := "branch.go:57", after := #[], guard := none }, { dst := some 32, op := Op.nilCheck (Operand.tmp 31), type := 0, pos := "branch.go:57", after := #[{ on := 19, ground := Ground.data }], guard := none }, { dst := some 33, op := Op.fieldAddr 136 (Operand.tmp 32) 1, type := 0, pos := "branch.go:57", after := #[{ on := 20, ground := Ground.data }], guard := none }, { dst := some 34, op := Op.fieldAddr 77 (Operand.tmp 33) 1, type := 0, pos := "branch.go:57", after := #[{ on := 21, ground := Ground.data }], guard := none }, { dst := some 35, op := Op.load 51 (Operand.tmp 34), type := 51, pos := "branch.go:57", after := #[{ on := 22, ground := Ground.data }], guard := none }, { dst := some 36, op := Op.buildSlice 206 3 #[(0, Operand.tmp 28), (1, Operand.tmp 30), (2, Operand.tmp 35)], type := 206, pos := "branch.go:57", after := #[{ on := 16, ground := Ground.data }, { on := 18, ground := Ground.data }, { on := 23, ground := Ground.data }], guard := none }, { dst := some 37, op := Op.call { callee := Callee.value (Operand.func 173), args := #[Operand.tmp 36], argTypes := #[206] }, type := 51, pos := "branch.go:59", after := #[{ on := 24, ground := Ground.data }, { on := 11, ground := Ground.chain }], guard := none }, { dst := some 38, op := Op.build 77 #[(0, Operand.tmp 23), (1, Operand.tmp 37)], type := 77, pos := "branch.go:57", after := #[{ on := 11, ground := Ground.data }, { on := 25, ground := Ground.data }], guard := none }, { dst := some 8, op := Op.alloc 77, type := 0, pos := "branch.go:57", after := #[], guard := none }, { dst := none, op := Op.store 77 (Operand.tmp 8) (Operand.tmp 38), type := 0, pos := "branch.go:57", after := #[{ on := 27, ground := Ground.data }, { on := 26, ground := Ground.data }, { on := 25, ground := Ground.chain }, { on := 0, ground := Ground.phase }, { on := 1, ground := Ground.phase }, { on := 2, ground := Ground.phase }, { on := 3, ground := Ground.phase }, { on := 4, ground := Ground.phase }, { on := 5, ground := Ground.phase }, { on := 6, ground := Ground.phase }, { on := 7, ground := Ground.phase }, { on := 8, ground := Ground.phase }, { on := 9, ground := Ground.phase }, { on := 10, ground := Ground.phase }, { on := 11, ground := Ground.phase }, { on := 12, ground := Ground.phase }, { on := 13, ground := Ground.phase }, { on := 14, ground := Ground.phase }, { on := 15, ground := Ground.phase }, { on := 16, ground := Ground.phase }, { on := 17, ground := Ground.phase }, { on := 18, ground := Ground.phase }, { on := 19, ground := Ground.phase }, { on := 20, ground := Ground.phase }, { on := 21, ground := Ground.phase }, { on := 22, ground := Ground.phase }, { on := 23, ground := Ground.phase }, { on := 24, ground := Ground.phase }, { on := 25, ground := Ground.phase }, { on := 26, ground := Ground.phase }, { on := 27, ground := Ground.phase }], guard := none }]
def SbJ (b d : Nat) (a : Option Addr) (m c : Nat) (sa : Option Addr) (sm sc1 : Nat) (a2 : Option Addr) (m2 c2 : Nat) (sa2 : Option Addr) (sm2 sc2 : Nat) (w' : World) : Prop := w'.cell? ⟨b, 1, none⟩ = some (.slice a m c) ∧ w'.cell? ⟨b, 2, none⟩ = some (.slice sa sm sc1) ∧ w'.cell? ⟨d, 1, none⟩ = some (.slice a2 m2 c2) ∧ w'.cell? ⟨d, 2, none⟩ = some (.slice sa2 sm2 sc2)
structure GbJ (n : Nat) (w0 : World) (b d : Nat) (a : Option Addr) (m c : Nat) (a2 : Option Addr) (m2 c2 : Nat) (sa : Option Addr) (sm sc1 : Nat) (sa2 : Option Addr) (sm2 sc2 : Nat) (so : Option Addr) (sn sc : Nat) (xs ys : List (NdT n)) (ss ts : List (List Int)) (s : List Int) (Q : Exit → Act → World → Prop) (ds : List Deferred) (u0 u1 u2 u3 u4 u5 u6 u7 u9 u10 u11 u39 u40 u41 u42 u43 u44 u45 u46 u47 u48 u49 u50 u51 u52 : Value) : Prop where
 cells : (SbJ b d a m c sa sm sc1 a2 m2 c2 sa2 sm2 sc2) w0
 cn : ∀ (W : World) (q : Nat), w0.grownBy W none → W.heap[q]? = some (.cells #[.slice a m c, .slice a2 m2 c2] 75 (0, 0)) → Calls Tryz.prog 172 #[.slice (some ⟨q, 0, none⟩) 2 2] W fun en w' => (∃ a N c, en = .returned (.slice a N c) ∧ NsT n w' a N c (xs ++ ys)) ∧ W.grownBy w' none
 cs : ∀ (W : World) (q : Nat), w0.grownBy W none → (∃ p, W.heap[q]? = some (.cells #[.slice sa sm sc1, .slice (some ⟨p, 0, none⟩) 1 1, .slice sa2 sm2 sc2] 51 (0, 0)) ∧ W.heap[p]? = some (.cells #[.slice so sn sc] 30 (0, 0))) → Calls Tryz.prog 173 #[.slice (some ⟨q, 0, none⟩) 3 3] W fun en w' => (∃ a N c, en = .returned (.slice a N c) ∧ SsT w' a N c (ss ++ ([s] ++ ts))) ∧ W.grownBy w' none
 pan : ∀ (c : List PanicEntry) (f : Act) (t : Option Tmp) (v : Value) (W : World), Q (.panic c) (f.put t v) W → Q (.panic c) f W
 fin : ∀ (u8 u12 u13 u14 u15 u16 u17 u18 u19 u20 u21 u22 u23 u24 u25 u26 u27 u28 u29 u30 u31 u32 u33 u34 u35 u36 u37 u38 : Value) (W : World), BoxR n w0 ⟨(xs ++ ys), (ss ++ ([s] ++ ts))⟩ u8 W → Q .normal { tmps := #[u0, u1, u2, u3, u4, u5, u6, u7, u8, u9, u10, u11, u12, u13, u14, u15, u16, u17, u18, u19, u20, u21, u22, u23, u24, u25, u26, u27, u28, u29, u30, u31, u32, u33, u34, u35, u36, u37, u38, u39, u40, u41, u42, u43, u44, u45, u46, u47, u48, u49, u50, u51, u52], defers := ds } W
theorem box_grown {n : Nat} {w : World} {r : RwT (NdT n)} {v : Value} {wx : World} (h : BoxR n w r v wx) : w.grownBy wx none := by
 obtain ⟨_, _, _, _, _, _, _, _, _, _, hg⟩ := h
 exact hg
theorem two_kept {w w' : World} {q : Nat} {x y : Value} {z : Value} {t t' : TypeId} (h : ∃ p, w.heap[q]? = some (.cells #[x, .slice (some ⟨p, 0, none⟩) 1 1, y] t (0, 0)) ∧ w.heap[p]? = some (.cells #[z] t' (0, 0))) (hg : w.grownBy w' none) : ∃ p, w'.heap[q]? = some (.cells #[x, .slice (some ⟨p, 0, none⟩) 1 1, y] t (0, 0)) ∧ w'.heap[p]? = some (.cells #[z] t' (0, 0)) := by
 obtain ⟨p, h1, h2⟩ := h
 exact ⟨p, heap_kept h1 hg, heap_kept h2 hg⟩
section
variable {n : Nat} {w0 : World} {b d : Nat} {a : Option Addr} {m c : Nat} {a2 : Option Addr} {m2 c2 : Nat} {sa : Option Addr} {sm sc1 : Nat} {sa2 : Option Addr} {sm2 sc2 : Nat} {so : Option Addr} {sn sc : Nat} {xs ys : List (NdT n)} {ss ts : List (List Int)} {s : List Int} {Q : Exit → Act → World → Prop} {ds : List Deferred} {u0 u1 u2 u3 u4 u5 u6 u7 u9 u10 u11 u39 u40 u41 u42 u43 u44 u45 u46 u47 u48 u49 u50 u51 u52 : Value}
theorem GbJ.keep (h : GbJ n w0 b d a m c a2 m2 c2 sa sm sc1 sa2 sm2 sc2 so sn sc xs ys ss ts s Q ds u0 u1 u2 u3 u4 u5 u6 u7 u9 u10 u11 u39 u40 u41 u42 u43 u44 u45 u46 u47 u48 u49 u50 u51 u52) {W : World} (hg : w0.grownBy W none) : (SbJ b d a m c sa sm sc1 a2 m2 c2 sa2 sm2 sc2) W := ⟨keep1 h.cells.1 hg, keep1 h.cells.2.1 hg, keep1 h.cells.2.2.1 hg, keep1 h.cells.2.2.2 hg⟩
set_option maxHeartbeats 2000000 in
set_option maxRecDepth 100000 in
theorem bj_2212 (H : GbJ n w0 b d a m c a2 m2 c2 sa sm sc1 sa2 sm2 sc2 so sn sc xs ys ss ts s Q ds u0 u1 u2 u3 u4 u5 u6 u7 u9 u10 u11 u39 u40 u41 u42 u43 u44 u45 u46 u47 u48 u49 u50 u51 u52) {w : World} {u12 u13 u14 u15 u17 u18 u19 u20 u22 u24 u25 u26 u27 u30 u31 u32 u33 u34 u36 : Value} {a5 : Option Addr} {n5 c5 : Nat} {a7 : Option Addr} {n7 c7 : Nat} {G : Nat} (l : Array Bool) (hl : l = #[true, true, true, true, true, true, true, true, true, true, true, true, true, true, true, true, true, true, true, true, true, true, true, true, true, true, true, true, false]) (hg : w0.grownBy w none) (h5 : NsT n w a5 n5 c5 (xs ++ ys)) (h7 : SsT w a7 n7 c7 (ss ++ ([s] ++ ts))) (h8 : BxT w G ∧ w0.heap.size ≤ G) :
  wpAnyH Tryz.prog .any bjOps Q (SbJ b d a m c sa sm sc1 a2 m2 c2 sa2 sm2 sc2) 1 l { tmps := #[u0, u1, u2, u3, u4, u5, u6, u7, .pointer (some ⟨G, 0, none⟩), u9, u10, u11, u12, u13, u14, u15, .slice a m c, u17, u18, u19, u20, .slice a2 m2 c2, u22, .slice a5 n5 c5, u24, u25, u26, u27, .slice sa sm sc1, .slice so sn sc, u30, u31, u32, u33, u34, .slice sa2 sm2 sc2, u36, .slice a7 n7 c7, .agg #[.slice a5 n5 c5, .slice a7 n7 c7], u39, u40, u41, u42, u43, u44, u45, u46, u47, u48, u49, u50, u51, u52], defers := ds } w := by
 subst hl
 have H' := hid_intro H
 have G' := hid_intro hg
 have Kh5 := hid_intro h5
 have Kh7 := hid_intro h7
 have Kh8 := hid_intro h8
 clear H hg h5 h7 h8
 refine wpAnyH_ready (rs := [28]) (by kernel_rfl) (by simp) ?_
 refine AllReadyH.cons (o := { dst := none, op := Op.store 77 (Operand.tmp 8) (Operand.tmp 38), type := 0, pos := "branch.go:57", after := #[{ on := 27, ground := Ground.data }, { on := 26, ground := Ground.data }, { on := 25, ground := Ground.chain }, { on := 0, ground := Ground.phase }, { on := 1, ground := Ground.phase }, { on := 2, ground := Ground.phase }, { on := 3, ground := Ground.phase }, { on := 4, ground := Ground.phase }, { on := 5, ground := Ground.phase }, { on := 6, ground := Ground.phase }, { on := 7, ground := Ground.phase }, { on := 8, ground := Ground.phase }, { on := 9, ground := Ground.phase }, { on := 10, ground := Ground.phase }, { on := 11, ground := Ground.phase }, { on := 12, ground := Ground.phase }, { on := 13, ground := Ground.phase }, { on := 14, ground := Ground.phase }, { on := 15, ground := Ground.phase }, { on := 16, ground := Ground.phase }, { on := 17, ground := Ground.phase }, { on := 18, ground := Ground.phase }, { on := 19, ground := Ground.phase }, { on := 20, ground := Ground.phase }, { on := 21, ground := Ground.phase }, { on := 22, ground := Ground.phase }, { on := 23, ground := Ground.phase }, { on := 24, ground := Ground.phase }, { on := 25, ground := Ground.phase }, { on := 26, ground := Ground.phase }, { on := 27, ground := Ground.phase }], guard := none }) rfl (fun K hK => ?_) AllReadyH.nil
 obtain ⟨⟨x1, cx⟩, ⟨y1, cy⟩, z1, z2⟩ := Kh8.out.1.cells
 go_simp
 have BR := hid_intro (box_put (n := n) (r := ⟨(xs ++ ys), (ss ++ ([s] ++ ts))⟩) Kh8.out.1 ⟨Kh5.out, Kh7.out⟩ G'.out Kh8.out.2)
 have GR := box_grown BR.out
 refine hK.out _ _ (H'.out.keep GR) (fun hHeld => ?_)
 clear hK K
 refine wpAnyH_done (by kernel_rfl) ?_ _
 exact H'.out.fin _ _ _ _ _ _ _ _ _ _ _ _ _ _ _ _ _ _ _ _ _ _ _ _ _ _ _ _ _ BR.out
set_option maxHeartbeats 2000000 in
set_option maxRecDepth 100000 in
theorem bj_2202 (H : GbJ n w0 b d a m c a2 m2 c2 sa sm sc1 sa2 sm2 sc2 so sn sc xs ys ss ts s Q ds u0 u1 u2 u3 u4 u5 u6 u7 u9 u10 u11 u39 u40 u41 u42 u43 u44 u45 u46 u47 u48 u49 u50 u51 u52) {w : World} {u8 u12 u13 u14 u15 u17 u18 u19 u20 u22 u24 u25 u26 u27 u30 u31 u32 u33 u34 u36 : Value} {a5 : Option Addr} {n5 c5 : Nat} {a7 : Option Addr} {n7 c7 : Nat} (l : Array Bool) (hl : l = #[true, true, true, true, true, true, true, true, true, true, true, true, true, true, true, true, true, true, true, true, true, true, true, true, true, true, true, false, false]) (hg : w0.grownBy w none) (h5 : NsT n w a5 n5 c5 (xs ++ ys)) (h7 : SsT w a7 n7 c7 (ss ++ ([s] ++ ts))) :
  wpAnyH Tryz.prog .any bjOps Q (SbJ b d a m c sa sm sc1 a2 m2 c2 sa2 sm2 sc2) 2 l { tmps := #[u0, u1, u2, u3, u4, u5, u6, u7, u8, u9, u10, u11, u12, u13, u14, u15, .slice a m c, u17, u18, u19, u20, .slice a2 m2 c2, u22, .slice a5 n5 c5, u24, u25, u26, u27, .slice sa sm sc1, .slice so sn sc, u30, u31, u32, u33, u34, .slice sa2 sm2 sc2, u36, .slice a7 n7 c7, .agg #[.slice a5 n5 c5, .slice a7 n7 c7], u39, u40, u41, u42, u43, u44, u45, u46, u47, u48, u49, u50, u51, u52], defers := ds } w := by
 subst hl
 have H' := hid_intro H
 have G' := hid_intro hg
 have Kh5 := hid_intro h5
 have Kh7 := hid_intro h7
 clear H hg h5 h7
 refine wpAnyH_ready (rs := [27]) (by kernel_rfl) (by simp) ?_
 refine AllReadyH.cons (o := { dst := some 8, op := Op.alloc 77, type := 0, pos := "branch.go:57", after := #[], guard := none }) rfl (fun K hK => ?_) AllReadyH.nil
 go_simp
 refine hK.out _ _ (H'.out.keep (grown_trans G'.out (World.grownBy_alloc w _ none))) (fun hHeld => ?_)
 clear hK K
 try simp only [List.setIfInBounds_toArray, List.set_cons_zero, List.set_cons_succ]
 exact bj_2212 H'.out _ (by kernel_rfl) (grown_trans G'.out (World.grownBy_alloc w _ none)) (NsT.kept Kh5.out (FrT.of (World.grownBy_alloc w _ none))) (SsT.kept Kh7.out (FrT.of (World.grownBy_alloc w _ none))) (⟨BxT.new w _ _, G'.out.size⟩)
set_option maxHeartbeats 2000000 in
set_option maxRecDepth 100000 in
theorem bj_2211 (H : GbJ n w0 b d a m c a2 m2 c2 sa sm sc1 sa2 sm2 sc2 so sn sc xs ys ss ts s Q ds u0 u1 u2 u3 u4 u5 u6 u7 u9 u10 u11 u39 u40 u41 u42 u43 u44 u45 u46 u47 u48 u49 u50 u51 u52) {w : World} {u12 u13 u14 u15 u17 u18 u19 u20 u22 u24 u25 u26 u27 u30 u31 u32 u33 u34 u36 u38 : Value} {a5 : Option Addr} {n5 c5 : Nat} {a7 : Option Addr} {n7 c7 : Nat} {G : Nat} (l : Array Bool) (hl : l = #[true, true, true, true, true, true, true, true, true, true, true, true, true, true, true, true, true, true, true, true, true, true, true, true, true, true, false, true, false]) (hg : w0.grownBy w none) (h5 : NsT n w a5 n5 c5 (xs ++ ys)) (h7 : SsT w a7 n7 c7 (ss ++ ([s] ++ ts))) (h8 : BxT w G ∧ w0.heap.size ≤ G) :
  wpAnyH Tryz.prog .any bjOps Q (SbJ b d a m c sa sm sc1 a2 m2 c2 sa2 sm2 sc2) 2 l { tmps := #[u0, u1, u2, u3, u4, u5, u6, u7, .pointer (some ⟨G, 0, none⟩), u9, u10, u11, u12, u13, u14, u15, .slice a m c, u17, u18, u19, u20, .slice a2 m2 c2, u22, .slice a5 n5 c5, u24, u25, u26, u27, .slice sa sm sc1, .slice so sn sc, u30, u31, u32, u33, u34, .slice sa2 sm2 sc2, u36, .slice a7 n7 c7, u38, u39, u40, u41, u42, u43, u44, u45, u46, u47, u48, u49, u50, u51, u52], defers := ds } w := by
 subst hl
 have H' := hid_intro H
 have G' := hid_intro hg
 have Kh5 := hid_intro h5
 have Kh7 := hid_intro h7
 have Kh8 := hid_intro h8
 clear H hg h5 h7 h8
 refine wpAnyH_ready (rs := [26]) (by kernel_rfl) (by simp) ?_
 refine AllReadyH.cons (o := { dst := some 38, op := Op.build 77 #[(0, Operand.tmp 23), (1, Operand.tmp 37)], type := 77, pos := "branch.go:57", after := #[{ on := 11, ground := Ground.data }, { on := 25, ground := Ground.data }], guard := none }) rfl (fun K hK => ?_) AllReadyH.nil
 go_simp
 refine hK.out _ _ (H'.out.keep G'.out) (fun hHeld => ?_)
 clear hK K
 try simp only [List.setIfInBounds_toArray, List.set_cons_zero, List.set_cons_succ]
 exact bj_2212 H'.out _ (by kernel_rfl) G'.out Kh5.out Kh7.out Kh8.out
set_option maxHeartbeats 2000000 in
set_option maxRecDepth 100000 in
theorem bj_2201 (H : GbJ n w0 b d a m c a2 m2 c2 sa sm sc1 sa2 sm2 sc2 so sn sc xs ys ss ts s Q ds u0 u1 u2 u3 u4 u5 u6 u7 u9 u10 u11 u39 u40 u41 u42 u43 u44 u45 u46 u47 u48 u49 u50 u51 u52) {w : World} {u8 u12 u13 u14 u15 u17 u18 u19 u20 u22 u24 u25 u26 u27 u30 u31 u32 u33 u34 u36 u38 : Value} {a5 : Option Addr} {n5 c5 : Nat} {a7 : Option Addr} {n7 c7 : Nat} (l : Array Bool) (hl : l = #[true, true, true, true, true, true, true, true, true, true, true, true, true, true, true, true, true, true, true, true, true, true, true, true, true, true, false, false, false]) (hg : w0.grownBy w none) (h5 : NsT n w a5 n5 c5 (xs ++ ys)) (h7 : SsT w a7 n7 c7 (ss ++ ([s] ++ ts))) :
  wpAnyH Tryz.prog .any bjOps Q (SbJ b d a m c sa sm sc1 a2 m2 c2 sa2 sm2 sc2) 3 l { tmps := #[u0, u1, u2, u3, u4, u5, u6, u7, u8, u9, u10, u11, u12, u13, u14, u15, .slice a m c, u17, u18, u19, u20, .slice a2 m2 c2, u22, .slice a5 n5 c5, u24, u25, u26, u27, .slice sa sm sc1, .slice so sn sc, u30, u31, u32, u33, u34, .slice sa2 sm2 sc2, u36, .slice a7 n7 c7, u38, u39, u40, u41, u42, u43, u44, u45, u46, u47, u48, u49, u50, u51, u52], defers := ds } w := by
 subst hl
 have H' := hid_intro H
 have G' := hid_intro hg
 have Kh5 := hid_intro h5
 have Kh7 := hid_intro h7
 clear H hg h5 h7
 refine wpAnyH_ready (rs := [26, 27]) (by kernel_rfl) (by simp) ?_
 refine AllReadyH.cons (o := { dst := some 38, op := Op.build 77 #[(0, Operand.tmp 23), (1, Operand.tmp 37)], type := 77, pos := "branch.go:57", after := #[{ on := 11, ground := Ground.data }, { on := 25, ground := Ground.data }], guard := none }) rfl (fun K hK => ?_) ?_
 ·go_simp
  refine hK.out _ _ (H'.out.keep G'.out) (fun hHeld => ?_)
  clear hK K
  try simp only [List.setIfInBounds_toArray, List.set_cons_zero, List.set_cons_succ]
  exact bj_2202 H'.out _ (by kernel_rfl) G'.out Kh5.out Kh7.out
 refine AllReadyH.cons (o := { dst := some 8, op := Op.alloc 77, type := 0, pos := "branch.go:57", after := #[], guard := none }) rfl (fun K hK => ?_) AllReadyH.nil
 go_simp
 refine hK.out _ _ (H'.out.keep (grown_trans G'.out (World.grownBy_alloc w _ none))) (fun hHeld => ?_)
 clear hK K
 try simp only [List.setIfInBounds_toArray, List.set_cons_zero, List.set_cons_succ]
 exact bj_2211 H'.out _ (by kernel_rfl) (grown_trans G'.out (World.grownBy_alloc w _ none)) (NsT.kept Kh5.out (FrT.of (World.grownBy_alloc w _ none))) (SsT.kept Kh7.out (FrT.of (World.grownBy_alloc w _ none))) (⟨BxT.new w _ _, G'.out.size⟩)
set_option maxHeartbeats 2000000 in
set_option maxRecDepth 100000 in
theorem bj_2210 (H : GbJ n w0 b d a m c a2 m2 c2 sa sm sc1 sa2 sm2 sc2 so sn sc xs ys ss ts s Q ds u0 u1 u2 u3 u4 u5 u6 u7 u9 u10 u11 u39 u40 u41 u42 u43 u44 u45 u46 u47 u48 u49 u50 u51 u52) {w : World} {u12 u13 u14 u15 u17 u18 u19 u20 u22 u24 u25 u26 u27 u30 u31 u32 u33 u34 u37 u38 : Value} {a5 : Option Addr} {n5 c5 : Nat} {q6 : Nat} {G : Nat} (l : Array Bool) (hl : l = #[true, true, true, true, true, true, true, true, true, true, true, true, true, true, true, true, true, true, true, true, true, true, true, true, true, false, false, true, false]) (hg : w0.grownBy w none) (h5 : NsT n w a5 n5 c5 (xs ++ ys)) (h6 : ∃ p, w.heap[q6]? = some (.cells #[.slice sa sm sc1, .slice (some ⟨p, 0, none⟩) 1 1, .slice sa2 sm2 sc2] 51 (0, 0)) ∧ w.heap[p]? = some (.cells #[.slice so sn sc] 30 (0, 0))) (h8 : BxT w G ∧ w0.heap.size ≤ G) :
  wpAnyH Tryz.prog .any bjOps Q (SbJ b d a m c sa sm sc1 a2 m2 c2 sa2 sm2 sc2) 3 l { tmps := #[u0, u1, u2, u3, u4, u5, u6, u7, .pointer (some ⟨G, 0, none⟩), u9, u10, u11, u12, u13, u14, u15, .slice a m c, u17, u18, u19, u20, .slice a2 m2 c2, u22, .slice a5 n5 c5, u24, u25, u26, u27, .slice sa sm sc1, .slice so sn sc, u30, u31, u32, u33, u34, .slice sa2 sm2 sc2, .slice (some ⟨q6, 0, none⟩) 3 3, u37, u38, u39, u40, u41, u42, u43, u44, u45, u46, u47, u48, u49, u50, u51, u52], defers := ds } w := by
 subst hl
 have H' := hid_intro H
 have G' := hid_intro hg
 have Kh5 := hid_intro h5
 have Kh6 := hid_intro h6
 have Kh8 := hid_intro h8
 clear H hg h5 h6 h8
 refine wpAnyH_ready (rs := [25]) (by kernel_rfl) (by simp) ?_
 refine AllReadyH.cons (o := { dst := some 37, op := Op.call { callee := Callee.value (Operand.func 173), args := #[Operand.tmp 36], argTypes := #[206] }, type := 51, pos := "branch.go:59", after := #[{ on := 24, ground := Ground.data }, { on := 11, ground := Ground.chain }], guard := none }) rfl (fun K hK => ?_) AllReadyH.nil
 go_simp
 (with_reducible refine (H'.out.cs _ _ G'.out Kh6.out).mono ?_)
 rintro en w' ⟨⟨a9, n9, c9, rfl, hN⟩, hg'⟩
 refine hK.out _ _ (H'.out.keep (grown_trans G'.out hg')) (fun hHeld => ?_)
 clear hK K
 try simp only [List.setIfInBounds_toArray, List.set_cons_zero, List.set_cons_succ]
 exact bj_2211 H'.out _ (by kernel_rfl) (grown_trans G'.out hg') (NsT.kept Kh5.out (FrT.of hg')) (hN) (And.intro (Kh8.out.1.keptN hg') Kh8.out.2)
set_option maxHeartbeats 2000000 in
set_option maxRecDepth 100000 in
theorem bj_2200 (H : GbJ n w0 b d a m c a2 m2 c2 sa sm sc1 sa2 sm2 sc2 so sn sc xs ys ss ts s Q ds u0 u1 u2 u3 u4 u5 u6 u7 u9 u10 u11 u39 u40 u41 u42 u43 u44 u45 u46 u47 u48 u49 u50 u51 u52) {w : World} {u8 u12 u13 u14 u15 u17 u18 u19 u20 u22 u24 u25 u26 u27 u30 u31 u32 u33 u34 u37 u38 : Value} {a5 : Option Addr} {n5 c5 : Nat} {q6 : Nat} (l : Array Bool) (hl : l = #[true, true, true, true, true, true, true, true, true, true, true, true, true, true, true, true, true, true, true, true, true, true, true, true, true, false, false, false, false]) (hg : w0.grownBy w none) (h5 : NsT n w a5 n5 c5 (xs ++ ys)) (h6 : ∃ p, w.heap[q6]? = some (.cells #[.slice sa sm sc1, .slice (some ⟨p, 0, none⟩) 1 1, .slice sa2 sm2 sc2] 51 (0, 0)) ∧ w.heap[p]? = some (.cells #[.slice so sn sc] 30 (0, 0))) :
  wpAnyH Tryz.prog .any bjOps Q (SbJ b d a m c sa sm sc1 a2 m2 c2 sa2 sm2 sc2) 4 l { tmps := #[u0, u1, u2, u3, u4, u5, u6, u7, u8, u9, u10, u11, u12, u13, u14, u15, .slice a m c, u17, u18, u19, u20, .slice a2 m2 c2, u22, .slice a5 n5 c5, u24, u25, u26, u27, .slice sa sm sc1, .slice so sn sc, u30, u31, u32, u33, u34, .slice sa2 sm2 sc2, .slice (some ⟨q6, 0, none⟩) 3 3, u37, u38, u39, u40, u41, u42, u43, u44, u45, u46, u47, u48, u49, u50, u51, u52], defers := ds } w := by
 subst hl
 have H' := hid_intro H
 have G' := hid_intro hg
 have Kh5 := hid_intro h5
 have Kh6 := hid_intro h6
 clear H hg h5 h6
 refine wpAnyH_ready (rs := [25, 27]) (by kernel_rfl) (by simp) ?_
 refine AllReadyH.cons (o := { dst := some 37, op := Op.call { callee := Callee.value (Operand.func 173), args := #[Operand.tmp 36], argTypes := #[206] }, type := 51, pos := "branch.go:59", after := #[{ on := 24, ground := Ground.data }, { on := 11, ground := Ground.chain }], guard := none }) rfl (fun K hK => ?_) ?_
 ·go_simp
  (with_reducible refine (H'.out.cs _ _ G'.out Kh6.out).mono ?_)
  rintro en w' ⟨⟨a9, n9, c9, rfl, hN⟩, hg'⟩
  refine hK.out _ _ (H'.out.keep (grown_trans G'.out hg')) (fun hHeld => ?_)
  clear hK K
  try simp only [List.setIfInBounds_toArray, List.set_cons_zero, List.set_cons_succ]
  exact bj_2201 H'.out _ (by kernel_rfl) (grown_trans G'.out hg') (NsT.kept Kh5.out (FrT.of hg')) (hN)
 refine AllReadyH.cons (o := { dst := some 8, op := Op.alloc 77, type := 0, pos := "branch.go:57", after := #[], guard := none }) rfl (fun K hK => ?_) AllReadyH.nil
 go_simp
 refine hK.out _ _ (H'.out.keep (grown_trans G'.out (World.grownBy_alloc w _ none))) (fun hHeld => ?_)
 clear hK K
 try simp only [List.setIfInBounds_toArray, List.set_cons_zero, List.set_cons_succ]
 exact bj_2210 H'.out _ (by kernel_rfl) (grown_trans G'.out (World.grownBy_alloc w _ none)) (NsT.kept Kh5.out (FrT.of (World.grownBy_alloc w _ none))) (two_kept Kh6.out (World.grownBy_alloc w _ none)) (⟨BxT.new w _ _, G'.out.size⟩)
set_option maxHeartbeats 2000000 in
set_option maxRecDepth 100000 in
theorem bj_2110 (H : GbJ n w0 b d a m c a2 m2 c2 sa sm sc1 sa2 sm2 sc2 so sn sc xs ys ss ts s Q ds u0 u1 u2 u3 u4 u5 u6 u7 u9 u10 u11 u39 u40 u41 u42 u43 u44 u45 u46 u47 u48 u49 u50 u51 u52) {w : World} {u12 u13 u14 u15 u17 u18 u19 u20 u22 u24 u25 u26 u27 u31 u32 u33 u34 u36 u37 u38 : Value} {a5 : Option Addr} {n5 c5 : Nat} {p3 : Nat} {G : Nat} (l : Array Bool) (hl : l = #[true, true, true, true, true, true, true, true, true, true, true, true, true, true, true, true, true, true, true, true, true, true, true, true, false, false, false, true, false]) (hg : w0.grownBy w none) (h5 : NsT n w a5 n5 c5 (xs ++ ys)) (h3 : w.heap[p3]? = some (.cells #[.slice so sn sc] 30 (0, 0))) (h8 : BxT w G ∧ w0.heap.size ≤ G) :
  wpAnyH Tryz.prog .any bjOps Q (SbJ b d a m c sa sm sc1 a2 m2 c2 sa2 sm2 sc2) 4 l { tmps := #[u0, u1, u2, u3, u4, u5, u6, u7, .pointer (some ⟨G, 0, none⟩), u9, u10, u11, u12, u13, u14, u15, .slice a m c, u17, u18, u19, u20, .slice a2 m2 c2, u22, .slice a5 n5 c5, u24, u25, u26, u27, .slice sa sm sc1, .slice so sn sc, .slice (some ⟨p3, 0, none⟩) 1 1, u31, u32, u33, u34, .slice sa2 sm2 sc2, u36, u37, u38, u39, u40, u41, u42, u43, u44, u45, u46, u47, u48, u49, u50, u51, u52], defers := ds } w := by
 subst hl
 have H' := hid_intro H
 have G' := hid_intro hg
 have Kh5 := hid_intro h5
 have Kh3 := hid_intro h3
 have Kh8 := hid_intro h8
 clear H hg h5 h3 h8
 refine wpAnyH_ready (rs := [24]) (by kernel_rfl) (by simp) ?_
 refine AllReadyH.cons (o := { dst := some 36, op := Op.buildSlice 206 3 #[(0, Operand.tmp 28), (1, Operand.tmp 30), (2, Operand.tmp 35)], type := 206, pos := "branch.go:57", after := #[{ on := 16, ground := Ground.data }, { on := 18, ground := Ground.data }, { on := 23, ground := Ground.data }], guard := none }) rfl (fun K hK => ?_) AllReadyH.nil
 go_simp
 refine hK.out _ _ (H'.out.keep (grown_trans G'.out (World.grownBy_alloc w _ none))) (fun hHeld => ?_)
 clear hK K
 try simp only [List.setIfInBounds_toArray, List.set_cons_zero, List.set_cons_succ]
 exact bj_2210 H'.out _ (by kernel_rfl) (grown_trans G'.out (World.grownBy_alloc w _ none)) (NsT.kept Kh5.out (FrT.of (World.grownBy_alloc w _ none))) (⟨p3, heap_at0 w _ _, heap_kept Kh3.out (World.grownBy_alloc w _ none)⟩) (And.intro (Kh8.out.1.keptN (World.grownBy_alloc w _ none)) Kh8.out.2)
set_option maxHeartbeats 2000000 in
set_option maxRecDepth 100000 in
theorem bj_2100 (H : GbJ n w0 b d a m c a2 m2 c2 sa sm sc1 sa2 sm2 sc2 so sn sc xs ys ss ts s Q ds u0 u1 u2 u3 u4 u5 u6 u7 u9 u10 u11 u39 u40 u41 u42 u43 u44 u45 u46 u47 u48 u49 u50 u51 u52) {w : World} {u8 u12 u13 u14 u15 u17 u18 u19 u20 u22 u24 u25 u26 u27 u31 u32 u33 u34 u36 u37 u38 : Value} {a5 : Option Addr} {n5 c5 : Nat} {p3 : Nat} (l : Array Bool) (hl : l = #[true, true, true, true, true, true, true, true, true, true, true, true, true, true, true, true, true, true, true, true, true, true, true, true, false, false, false, false, false]) (hg : w0.grownBy w none) (h5 : NsT n w a5 n5 c5 (xs ++ ys)) (h3 : w.heap[p3]? = some (.cells #[.slice so sn sc] 30 (0, 0))) :
  wpAnyH Tryz.prog .any bjOps Q (SbJ b d a m c sa sm sc1 a2 m2 c2 sa2 sm2 sc2) 5 l { tmps := #[u0, u1, u2, u3, u4, u5, u6, u7, u8, u9, u10, u11, u12, u13, u14, u15, .slice a m c, u17, u18, u19, u20, .slice a2 m2 c2, u22, .slice a5 n5 c5, u24, u25, u26, u27, .slice sa sm sc1, .slice so sn sc, .slice (some ⟨p3, 0, none⟩) 1 1, u31, u32, u33, u34, .slice sa2 sm2 sc2, u36, u37, u38, u39, u40, u41, u42, u43, u44, u45, u46, u47, u48, u49, u50, u51, u52], defers := ds } w := by
 subst hl
 have H' := hid_intro H
 have G' := hid_intro hg
 have Kh5 := hid_intro h5
 have Kh3 := hid_intro h3
 clear H hg h5 h3
 refine wpAnyH_ready (rs := [24, 27]) (by kernel_rfl) (by simp) ?_
 refine AllReadyH.cons (o := { dst := some 36, op := Op.buildSlice 206 3 #[(0, Operand.tmp 28), (1, Operand.tmp 30), (2, Operand.tmp 35)], type := 206, pos := "branch.go:57", after := #[{ on := 16, ground := Ground.data }, { on := 18, ground := Ground.data }, { on := 23, ground := Ground.data }], guard := none }) rfl (fun K hK => ?_) ?_
 ·go_simp
  refine hK.out _ _ (H'.out.keep (grown_trans G'.out (World.grownBy_alloc w _ none))) (fun hHeld => ?_)
  clear hK K
  try simp only [List.setIfInBounds_toArray, List.set_cons_zero, List.set_cons_succ]
  exact bj_2200 H'.out _ (by kernel_rfl) (grown_trans G'.out (World.grownBy_alloc w _ none)) (NsT.kept Kh5.out (FrT.of (World.grownBy_alloc w _ none))) (⟨p3, heap_at0 w _ _, heap_kept Kh3.out (World.grownBy_alloc w _ none)⟩)
 refine AllReadyH.cons (o := { dst := some 8, op := Op.alloc 77, type := 0, pos := "branch.go:57", after := #[], guard := none }) rfl (fun K hK => ?_) AllReadyH.nil
 go_simp
 refine hK.out _ _ (H'.out.keep (grown_trans G'.out (World.grownBy_alloc w _ none))) (fun hHeld => ?_)
 clear hK K
 try simp only [List.setIfInBounds_toArray, List.set_cons_zero, List.set_cons_succ]
 exact bj_2110 H'.out _ (by kernel_rfl) (grown_trans G'.out (World.grownBy_alloc w _ none)) (NsT.kept Kh5.out (FrT.of (World.grownBy_alloc w _ none))) (heap_kept Kh3.out (World.grownBy_alloc w _ none)) (⟨BxT.new w _ _, G'.out.size⟩)
set_option maxHeartbeats 2000000 in
set_option maxRecDepth 100000 in
theorem bj_2010 (H : GbJ n w0 b d a m c a2 m2 c2 sa sm sc1 sa2 sm2 sc2 so sn sc xs ys ss ts s Q ds u0 u1 u2 u3 u4 u5 u6 u7 u9 u10 u11 u39 u40 u41 u42 u43 u44 u45 u46 u47 u48 u49 u50 u51 u52) {w : World} {u12 u13 u14 u15 u17 u18 u19 u20 u22 u24 u25 u26 u27 u30 u31 u32 u33 u34 u36 u37 u38 : Value} {a5 : Option Addr} {n5 c5 : Nat} {G : Nat} (l : Array Bool) (hl : l = #[true, true, true, true, true, true, true, true, true, true, true, true, true, true, true, true, true, true, false, true, true, true, true, true, false, false, false, true, false]) (hg : w0.grownBy w none) (h5 : NsT n w a5 n5 c5 (xs ++ ys)) (h8 : BxT w G ∧ w0.heap.size ≤ G) :
  wpAnyH Tryz.prog .any bjOps Q (SbJ b d a m c sa sm sc1 a2 m2 c2 sa2 sm2 sc2) 5 l { tmps := #[u0, u1, u2, u3, u4, u5, u6, u7, .pointer (some ⟨G, 0, none⟩), u9, u10, u11, u12, u13, u14, u15, .slice a m c, u17, u18, u19, u20, .slice a2 m2 c2, u22, .slice a5 n5 c5, u24, u25, u26, u27, .slice sa sm sc1, .slice so sn sc, u30, u31, u32, u33, u34, .slice sa2 sm2 sc2, u36, u37, u38, u39, u40, u41, u42, u43, u44, u45, u46, u47, u48, u49, u50, u51, u52], defers := ds } w := by
 subst hl
 have H' := hid_intro H
 have G' := hid_intro hg
 have Kh5 := hid_intro h5
 have Kh8 := hid_intro h8
 clear H hg h5 h8
 refine wpAnyH_ready (rs := [18]) (by kernel_rfl) (by simp) ?_
 refine AllReadyH.cons (o := { dst := some 30, op := Op.buildSlice 51 1 #[(0, Operand.tmp 29)], type := 51, pos := "branch.go:57", after := #[{ on := 17, ground := Ground.data }], guard := none }) rfl (fun K hK => ?_) AllReadyH.nil
 go_simp
 refine hK.out _ _ (H'.out.keep (grown_trans G'.out (World.grownBy_alloc w _ none))) (fun hHeld => ?_)
 clear hK K
 try simp only [List.setIfInBounds_toArray, List.set_cons_zero, List.set_cons_succ]
 exact bj_2110 H'.out _ (by kernel_rfl) (grown_trans G'.out (World.grownBy_alloc w _ none)) (NsT.kept Kh5.out (FrT.of (World.grownBy_alloc w _ none))) (heap_at0 w _ _) (And.intro (Kh8.out.1.keptN (World.grownBy_alloc w _ none)) Kh8.out.2)
set_option maxHeartbeats 2000000 in
set_option maxRecDepth 100000 in
theorem bj_2000 (H : GbJ n w0 b d a m c a2 m2 c2 sa sm sc1 sa2 sm2 sc2 so sn sc xs ys ss ts s Q ds u0 u1 u2 u3 u4 u5 u6 u7 u9 u10 u11 u39 u40 u41 u42 u43 u44 u45 u46 u47 u48 u49 u50 u51 u52) {w : World} {u8 u12 u13 u14 u15 u17 u18 u19 u20 u22 u24 u25 u26 u27 u30 u31 u32 u33 u34 u36 u37 u38 : Value} {a5 : Option Addr} {n5 c5 : Nat} (l : Array Bool) (hl : l = #[true, true, true, true, true, true, true, true, true, true, true, true, true, true, true, true, true, true, false, true, true, true, true, true, false, false, false, false, false]) (hg : w0.grownBy w none) (h5 : NsT n w a5 n5 c5 (xs ++ ys)) :
  wpAnyH Tryz.prog .any bjOps Q (SbJ b d a m c sa sm sc1 a2 m2 c2 sa2 sm2 sc2) 6 l { tmps := #[u0, u1, u2, u3, u4, u5, u6, u7, u8, u9, u10, u11, u12, u13, u14, u15, .slice a m c, u17, u18, u19, u20, .slice a2 m2 c2, u22, .slice a5 n5 c5, u24, u25, u26, u27, .slice sa sm sc1, .slice so sn sc, u30, u31, u32, u33, u34, .slice sa2 sm2 sc2, u36, u37, u38, u39, u40, u41, u42, u43, u44, u45, u46, u47, u48, u49, u50, u51, u52], defers := ds } w := by
 subst hl
 have H' := hid_intro H
 have G' := hid_intro hg
 have Kh5 := hid_intro h5
 clear H hg h5
 refine wpAnyH_ready (rs := [18, 27]) (by kernel_rfl) (by simp) ?_
 refine AllReadyH.cons (o := { dst := some 30, op := Op.buildSlice 51 1 #[(0, Operand.tmp 29)], type := 51, pos := "branch.go:57", after := #[{ on := 17, ground := Ground.data }], guard := none }) rfl (fun K hK => ?_) ?_
 ·go_simp
  refine hK.out _ _ (H'.out.keep (grown_trans G'.out (World.grownBy_alloc w _ none))) (fun hHeld => ?_)
  clear hK K
  try simp only [List.setIfInBounds_toArray, List.set_cons_zero, List.set_cons_succ]
  exact bj_2100 H'.out _ (by kernel_rfl) (grown_trans G'.out (World.grownBy_alloc w _ none)) (NsT.kept Kh5.out (FrT.of (World.grownBy_alloc w _ none))) (heap_at0 w _ _)
 refine AllReadyH.cons (o := { dst := some 8, op := Op.alloc 77, type := 0, pos := "branch.go:57", after := #[], guard := none }) rfl (fun K hK => ?_) AllReadyH.nil
 go_simp
 refine hK.out _ _ (H'.out.keep (grown_trans G'.out (World.grownBy_alloc w _ none))) (fun hHeld => ?_)
 clear hK K
 try simp only [List.setIfInBounds_toArray, List.set_cons_zero, List.set_cons_succ]
 exact bj_2010 H'.out _ (by kernel_rfl) (grown_trans G'.out (World.grownBy_alloc w _ none)) (NsT.kept Kh5.out (FrT.of (World.grownBy_alloc w _ none))) (⟨BxT.new w _ _, G'.out.size⟩)
set_option maxHeartbeats 2000000 in
set_option maxRecDepth 100000 in
theorem bj_1210 (H : GbJ n w0 b d a m c a2 m2 c2 sa sm sc1 sa2 sm2 sc2 so sn sc xs ys ss ts s Q ds u0 u1 u2 u3 u4 u5 u6 u7 u9 u10 u11 u39 u40 u41 u42 u43 u44 u45 u46 u47 u48 u49 u50 u51 u52) {w : World} {u12 u13 u14 u15 u17 u18 u19 u20 u23 u24 u25 u26 u27 u30 u31 u32 u33 u34 u37 u38 : Value} {q2 : Nat} {q6 : Nat} {G : Nat} (l : Array Bool) (hl : l = #[true, true, true, true, true, true, true, true, true, true, true, false, true, true, true, true, true, true, true, true, true, true, true, true, true, false, false, true, false]) (hg : w0.grownBy w none) (h2 : w.heap[q2]? = some (.cells #[.slice a m c, .slice a2 m2 c2] 75 (0, 0))) (h6 : ∃ p, w.heap[q6]? = some (.cells #[.slice sa sm sc1, .slice (some ⟨p, 0, none⟩) 1 1, .slice sa2 sm2 sc2] 51 (0, 0)) ∧ w.heap[p]? = some (.cells #[.slice so sn sc] 30 (0, 0))) (h8 : BxT w G ∧ w0.heap.size ≤ G) :
  wpAnyH Tryz.prog .any bjOps Q (SbJ b d a m c sa sm sc1 a2 m2 c2 sa2 sm2 sc2) 4 l { tmps := #[u0, u1, u2, u3, u4, u5, u6, u7, .pointer (some ⟨G, 0, none⟩), u9, u10, u11, u12, u13, u14, u15, .slice a m c, u17, u18, u19, u20, .slice a2 m2 c2, .slice (some ⟨q2, 0, none⟩) 2 2, u23, u24, u25, u26, u27, .slice sa sm sc1, .slice so sn sc, u30, u31, u32, u33, u34, .slice sa2 sm2 sc2, .slice (some ⟨q6, 0, none⟩) 3 3, u37, u38, u39, u40, u41, u42, u43, u44, u45, u46, u47, u48, u49, u50, u51, u52], defers := ds } w := by
 subst hl
 have H' := hid_intro H
 have G' := hid_intro hg
 have Kh2 := hid_intro h2
 have Kh6 := hid_intro h6
 have Kh8 := hid_intro h8
 clear H hg h2 h6 h8
 refine wpAnyH_ready (rs := [11]) (by kernel_rfl) (by simp) ?_
 refine AllReadyH.cons (o := { dst := some 23, op := Op.call { callee := Callee.value (Operand.func 172), args := #[Operand.tmp 22], argTypes := #[204] }, type := 75, pos := "branch.go:58", after := #[{ on := 10, ground := Ground.data }], guard := none }) rfl (fun K hK => ?_) AllReadyH.nil
 go_simp
 (with_reducible refine (H'.out.cn _ _ G'.out Kh2.out).mono ?_)
 rintro en w' ⟨⟨a9, n9, c9, rfl, hN⟩, hg'⟩
 refine hK.out _ _ (H'.out.keep (grown_trans G'.out hg')) (fun hHeld => ?_)
 clear hK K
 try simp only [List.setIfInBounds_toArray, List.set_cons_zero, List.set_cons_succ]
 exact bj_2210 H'.out _ (by kernel_rfl) (grown_trans G'.out hg') (hN) (two_kept Kh6.out hg') (And.intro (Kh8.out.1.keptN hg') Kh8.out.2)
set_option maxHeartbeats 2000000 in
set_option maxRecDepth 100000 in
theorem bj_1200 (H : GbJ n w0 b d a m c a2 m2 c2 sa sm sc1 sa2 sm2 sc2 so sn sc xs ys ss ts s Q ds u0 u1 u2 u3 u4 u5 u6 u7 u9 u10 u11 u39 u40 u41 u42 u43 u44 u45 u46 u47 u48 u49 u50 u51 u52) {w : World} {u8 u12 u13 u14 u15 u17 u18 u19 u20 u23 u24 u25 u26 u27 u30 u31 u32 u33 u34 u37 u38 : Value} {q2 : Nat} {q6 : Nat} (l : Array Bool) (hl : l = #[true, true, true, true, true, true, true, true, true, true, true, false, true, true, true, true, true, true, true, true, true, true, true, true, true, false, false, false, false]) (hg : w0.grownBy w none) (h2 : w.heap[q2]? = some (.cells #[.slice a m c, .slice a2 m2 c2] 75 (0, 0))) (h6 : ∃ p, w.heap[q6]? = some (.cells #[.slice sa sm sc1, .slice (some ⟨p, 0, none⟩) 1 1, .slice sa2 sm2 sc2] 51 (0, 0)) ∧ w.heap[p]? = some (.cells #[.slice so sn sc] 30 (0, 0))) :
  wpAnyH Tryz.prog .any bjOps Q (SbJ b d a m c sa sm sc1 a2 m2 c2 sa2 sm2 sc2) 5 l { tmps := #[u0, u1, u2, u3, u4, u5, u6, u7, u8, u9, u10, u11, u12, u13, u14, u15, .slice a m c, u17, u18, u19, u20, .slice a2 m2 c2, .slice (some ⟨q2, 0, none⟩) 2 2, u23, u24, u25, u26, u27, .slice sa sm sc1, .slice so sn sc, u30, u31, u32, u33, u34, .slice sa2 sm2 sc2, .slice (some ⟨q6, 0, none⟩) 3 3, u37, u38, u39, u40, u41, u42, u43, u44, u45, u46, u47, u48, u49, u50, u51, u52], defers := ds } w := by
 subst hl
 have H' := hid_intro H
 have G' := hid_intro hg
 have Kh2 := hid_intro h2
 have Kh6 := hid_intro h6
 clear H hg h2 h6
 refine wpAnyH_ready (rs := [11, 27]) (by kernel_rfl) (by simp) ?_
 refine AllReadyH.cons (o := { dst := some 23, op := Op.call { callee := Callee.value (Operand.func 172), args := #[Operand.tmp 22], argTypes := #[204] }, type := 75, pos := "branch.go:58", after := #[{ on := 10, ground := Ground.data }], guard := none }) rfl (fun K hK => ?_) ?_
 ·go_simp
  (with_reducible refine (H'.out.cn _ _ G'.out Kh2.out).mono ?_)
  rintro en w' ⟨⟨a9, n9, c9, rfl, hN⟩, hg'⟩
  refine hK.out _ _ (H'.out.keep (grown_trans G'.out hg')) (fun hHeld => ?_)
  clear hK K
  try simp only [List.setIfInBounds_toArray, List.set_cons_zero, List.set_cons_succ]
  exact bj_2200 H'.out _ (by kernel_rfl) (grown_trans G'.out hg') (hN) (two_kept Kh6.out hg')
 refine AllReadyH.cons (o := { dst := some 8, op := Op.alloc 77, type := 0, pos := "branch.go:57", after := #[], guard := none }) rfl (fun K hK => ?_) AllReadyH.nil
 go_simp
 refine hK.out _ _ (H'.out.keep (grown_trans G'.out (World.grownBy_alloc w _ none))) (fun hHeld => ?_)
 clear hK K
 try simp only [List.setIfInBounds_toArray, List.set_cons_zero, List.set_cons_succ]
 exact bj_1210 H'.out _ (by kernel_rfl) (grown_trans G'.out (World.grownBy_alloc w _ none)) (heap_kept Kh2.out (World.grownBy_alloc w _ none)) (two_kept Kh6.out (World.grownBy_alloc w _ none)) (⟨BxT.new w _ _, G'.out.size⟩)
set_option maxHeartbeats 2000000 in
set_option maxRecDepth 100000 in
theorem bj_1110 (H : GbJ n w0 b d a m c a2 m2 c2 sa sm sc1 sa2 sm2 sc2 so sn sc xs ys ss ts s Q ds u0 u1 u2 u3 u4 u5 u6 u7 u9 u10 u11 u39 u40 u41 u42 u43 u44 u45 u46 u47 u48 u49 u50 u51 u52) {w : World} {u12 u13 u14 u15 u17 u18 u19 u20 u23 u24 u25 u26 u27 u31 u32 u33 u34 u36 u37 u38 : Value} {q2 : Nat} {p3 : Nat} {G : Nat} (l : Array Bool) (hl : l = #[true, true, true, true, true, true, true, true, true, true, true, false, true, true, true, true, true, true, true, true, true, true, true, true, false, false, false, true, false]) (hg : w0.grownBy w none) (h2 : w.heap[q2]? = some (.cells #[.slice a m c, .slice a2 m2 c2] 75 (0, 0))) (h3 : w.heap[p3]? = some (.cells #[.slice so sn sc] 30 (0, 0))) (h8 : BxT w G ∧ w0.heap.size ≤ G) :
  wpAnyH Tryz.prog .any bjOps Q (SbJ b d a m c sa sm sc1 a2 m2 c2 sa2 sm2 sc2) 5 l { tmps := #[u0, u1, u2, u3, u4, u5, u6, u7, .pointer (some ⟨G, 0, none⟩), u9, u10, u11, u12, u13, u14, u15, .slice a m c, u17, u18, u19, u20, .slice a2 m2 c2, .slice (some ⟨q2, 0, none⟩) 2 2, u23, u24, u25, u26, u27, .slice sa sm sc1, .slice so sn sc, .slice (some ⟨p3, 0, none⟩) 1 1, u31, u32, u33, u34, .slice sa2 sm2 sc2, u36, u37, u38, u39, u40, u41, u42, u43, u44, u45, u46, u47, u48, u49, u50, u51, u52], defers := ds } w := by
 subst hl
 have H' := hid_intro H
 have G' := hid_intro hg
 have Kh2 := hid_intro h2
 have Kh3 := hid_intro h3
 have Kh8 := hid_intro h8
 clear H hg h2 h3 h8
 refine wpAnyH_ready (rs := [11, 24]) (by kernel_rfl) (by simp) ?_
 refine AllReadyH.cons (o := { dst := some 23, op := Op.call { callee := Callee.value (Operand.func 172), args := #[Operand.tmp 22], argTypes := #[204] }, type := 75, pos := "branch.go:58", after := #[{ on := 10, ground := Ground.data }], guard := none }) rfl (fun K hK => ?_) ?_
 ·go_simp
  (with_reducible refine (H'.out.cn _ _ G'.out Kh2.out).mono ?_)
  rintro en w' ⟨⟨a9, n9, c9, rfl, hN⟩, hg'⟩
  refine hK.out _ _ (H'.out.keep (grown_trans G'.out hg')) (fun hHeld => ?_)
  clear hK K
  try simp only [List.setIfInBounds_toArray, List.set_cons_zero, List.set_cons_succ]
  exact bj_2110 H'.out _ (by kernel_rfl) (grown_trans G'.out hg') (hN) (heap_kept Kh3.out hg') (And.intro (Kh8.out.1.keptN hg') Kh8.out.2)
 refine AllReadyH.cons (o := { dst := some 36, op := Op.buildSlice 206 3 #[(0, Operand.tmp 28), (1, Operand.tmp 30), (2, Operand.tmp 35)], type := 206, pos := "branch.go:57", after := #[{ on := 16, ground := Ground.data }, { on := 18, ground := Ground.data }, { on := 23, ground := Ground.data }], guard := none }) rfl (fun K hK => ?_) AllReadyH.nil
 go_simp
 refine hK.out _ _ (H'.out.keep (grown_trans G'.out (World.grownBy_alloc w _ none))) (fun hHeld => ?_)
 clear hK K
 try simp only [List.setIfInBounds_toArray, List.set_cons_zero, List.set_cons_succ]
 exact bj_1210 H'.out _ (by kernel_rfl) (grown_trans G'.out (World.grownBy_alloc w _ none)) (heap_kept Kh2.out (World.grownBy_alloc w _ none)) (⟨p3, heap_at0 w _ _, heap_kept Kh3.out (World.grownBy_alloc w _ none)⟩) (And.intro (Kh8.out.1.keptN (World.grownBy_alloc w _ none)) Kh8.out.2)
set_option maxHeartbeats 2000000 in
set_option maxRecDepth 100000 in
theorem bj_1100 (H : GbJ n w0 b d a m c a2 m2 c2 sa sm sc1 sa2 sm2 sc2 so sn sc xs ys ss ts s Q ds u0 u1 u2 u3 u4 u5 u6 u7 u9 u10 u11 u39 u40 u41 u42 u43 u44 u45 u46 u47 u48 u49 u50 u51 u52) {w : World} {u8 u12 u13 u14 u15 u17 u18 u19 u20 u23 u24 u25 u26 u27 u31 u32 u33 u34 u36 u37 u38 : Value} {q2 : Nat} {p3 : Nat} (l : Array Bool) (hl : l = #[true, true, true, true, true, true, true, true, true, true, true, false, true, true, true, true, true, true, true, true, true, true, true, true, false, false, false, false, false]) (hg : w0.grownBy w none) (h2 : w.heap[q2]? = some (.cells #[.slice a m c, .slice a2 m2 c2] 75 (0, 0))) (h3 : w.heap[p3]? = some (.cells #[.slice so sn sc] 30 (0, 0))) :
  wpAnyH Tryz.prog .any bjOps Q (SbJ b d a m c sa sm sc1 a2 m2 c2 sa2 sm2 sc2) 6 l { tmps := #[u0, u1, u2, u3, u4, u5, u6, u7, u8, u9, u10, u11, u12, u13, u14, u15, .slice a m c, u17, u18, u19, u20, .slice a2 m2 c2, .slice (some ⟨q2, 0, none⟩) 2 2, u23, u24, u25, u26, u27, .slice sa sm sc1, .slice so sn sc, .slice (some ⟨p3, 0, none⟩) 1 1, u31, u32, u33, u34, .slice sa2 sm2 sc2, u36, u37, u38, u39, u40, u41, u42, u43, u44, u45, u46, u47, u48, u49, u50, u51, u52], defers := ds } w := by
 subst hl
 have H' := hid_intro H
 have G' := hid_intro hg
 have Kh2 := hid_intro h2
 have Kh3 := hid_intro h3
 clear H hg h2 h3
 refine wpAnyH_ready (rs := [11, 24, 27]) (by kernel_rfl) (by simp) ?_
 refine AllReadyH.cons (o := { dst := some 23, op := Op.call { callee := Callee.value (Operand.func 172), args := #[Operand.tmp 22], argTypes := #[204] }, type := 75, pos := "branch.go:58", after := #[{ on := 10, ground := Ground.data }], guard := none }) rfl (fun K hK => ?_) ?_
 ·go_simp
  (with_reducible refine (H'.out.cn _ _ G'.out Kh2.out).mono ?_)
  rintro en w' ⟨⟨a9, n9, c9, rfl, hN⟩, hg'⟩
  refine hK.out _ _ (H'.out.keep (grown_trans G'.out hg')) (fun hHeld => ?_)
  clear hK K
  try simp only [List.setIfInBounds_toArray, List.set_cons_zero, List.set_cons_succ]
  exact bj_2100 H'.out _ (by kernel_rfl) (grown_trans G'.out hg') (hN) (heap_kept Kh3.out hg')
 refine AllReadyH.cons (o := { dst := some 36, op := Op.buildSlice 206 3 #[(0, Operand.tmp 28), (1, Operand.tmp 30), (2, Operand.tmp 35)], type := 206, pos := "branch.go:57", after := #[{ on := 16, ground := Ground.data }, { on := 18, ground := Ground.data }, { on := 23, ground := Ground.data }], guard := none }) rfl (fun K hK => ?_) ?_
 ·go_simp
  refine hK.out _ _ (H'.out.keep (grown_trans G'.out (World.grownBy_alloc w _ none))) (fun hHeld => ?_)
  clear hK K
  try simp only [List.setIfInBounds_toArray, List.set_cons_zero, List.set_cons_succ]
  exact bj_1200 H'.out _ (by kernel_rfl) (grown_trans G'.out (World.grownBy_alloc w _ none)) (heap_kept Kh2.out (World.grownBy_alloc w _ none)) (⟨p3, heap_at0 w _ _, heap_kept Kh3.out (World.grownBy_alloc w _ none)⟩)
 refine AllReadyH.cons (o := { dst := some 8, op := Op.alloc 77, type := 0, pos := "branch.go:57", after := #[], guard := none }) rfl (fun K hK => ?_) AllReadyH.nil
 go_simp
 refine hK.out _ _ (H'.out.keep (grown_trans G'.out (World.grownBy_alloc w _ none))) (fun hHeld => ?_)
 clear hK K
 try simp only [List.setIfInBounds_toArray, List.set_cons_zero, List.set_cons_succ]
 exact bj_1110 H'.out _ (by kernel_rfl) (grown_trans G'.out (World.grownBy_alloc w _ none)) (heap_kept Kh2.out (World.grownBy_alloc w _ none)) (heap_kept Kh3.out (World.grownBy_alloc w _ none)) (⟨BxT.new w _ _, G'.out.size⟩)
set_option maxHeartbeats 2000000 in
set_option maxRecDepth 100000 in
theorem bj_1010 (H : GbJ n w0 b d a m c a2 m2 c2 sa sm sc1 sa2 sm2 sc2 so sn sc xs ys ss ts s Q ds u0 u1 u2 u3 u4 u5 u6 u7 u9 u10 u11 u39 u40 u41 u42 u43 u44 u45 u46 u47 u48 u49 u50 u51 u52) {w : World} {u12 u13 u14 u15 u17 u18 u19 u20 u23 u24 u25 u26 u27 u30 u31 u32 u33 u34 u36 u37 u38 : Value} {q2 : Nat} {G : Nat} (l : Array Bool) (hl : l = #[true, true, true, true, true, true, true, true, true, true, true, false, true, true, true, true, true, true, false, true, true, true, true, true, false, false, false, true, false]) (hg : w0.grownBy w none) (h2 : w.heap[q2]? = some (.cells #[.slice a m c, .slice a2 m2 c2] 75 (0, 0))) (h8 : BxT w G ∧ w0.heap.size ≤ G) :
  wpAnyH Tryz.prog .any bjOps Q (SbJ b d a m c sa sm sc1 a2 m2 c2 sa2 sm2 sc2) 6 l { tmps := #[u0, u1, u2, u3, u4, u5, u6, u7, .pointer (some ⟨G, 0, none⟩), u9, u10, u11, u12, u13, u14, u15, .slice a m c, u17, u18, u19, u20, .slice a2 m2 c2, .slice (some ⟨q2, 0, none⟩) 2 2, u23, u24, u25, u26, u27, .slice sa sm sc1, .slice so sn sc, u30, u31, u32, u33, u34, .slice sa2 sm2 sc2, u36, u37, u38, u39, u40, u41, u42, u43, u44, u45, u46, u47, u48, u49, u50, u51, u52], defers := ds } w := by
 subst hl
 have H' := hid_intro H
 have G' := hid_intro hg
 have Kh2 := hid_intro h2
 have Kh8 := hid_intro h8
 clear H hg h2 h8
 refine wpAnyH_ready (rs := [11, 18]) (by kernel_rfl) (by simp) ?_
 refine AllReadyH.cons (o := { dst := some 23, op := Op.call { callee := Callee.value (Operand.func 172), args := #[Operand.tmp 22], argTypes := #[204] }, type := 75, pos := "branch.go:58", after := #[{ on := 10, ground := Ground.data }], guard := none }) rfl (fun K hK => ?_) ?_
 ·go_simp
  (with_reducible refine (H'.out.cn _ _ G'.out Kh2.out).mono ?_)
  rintro en w' ⟨⟨a9, n9, c9, rfl, hN⟩, hg'⟩
  refine hK.out _ _ (H'.out.keep (grown_trans G'.out hg')) (fun hHeld => ?_)
  clear hK K
  try simp only [List.setIfInBounds_toArray, List.set_cons_zero, List.set_cons_succ]
  exact bj_2010 H'.out _ (by kernel_rfl) (grown_trans G'.out hg') (hN) (And.intro (Kh8.out.1.keptN hg') Kh8.out.2)
 refine AllReadyH.cons (o := { dst := some 30, op := Op.buildSlice 51 1 #[(0, Operand.tmp 29)], type := 51, pos := "branch.go:57", after := #[{ on := 17, ground := Ground.data }], guard := none }) rfl (fun K hK => ?_) AllReadyH.nil
 go_simp
 refine hK.out _ _ (H'.out.keep (grown_trans G'.out (World.grownBy_alloc w _ none))) (fun hHeld => ?_)
 clear hK K
 try simp only [List.setIfInBounds_toArray, List.set_cons_zero, List.set_cons_succ]
 exact bj_1110 H'.out _ (by kernel_rfl) (grown_trans G'.out (World.grownBy_alloc w _ none)) (heap_kept Kh2.out (World.grownBy_alloc w _ none)) (heap_at0 w _ _) (And.intro (Kh8.out.1.keptN (World.grownBy_alloc w _ none)) Kh8.out.2)
set_option maxHeartbeats 2000000 in
set_option maxRecDepth 100000 in
theorem bj_1000 (H : GbJ n w0 b d a m c a2 m2 c2 sa sm sc1 sa2 sm2 sc2 so sn sc xs ys ss ts s Q ds u0 u1 u2 u3 u4 u5 u6 u7 u9 u10 u11 u39 u40 u41 u42 u43 u44 u45 u46 u47 u48 u49 u50 u51 u52) {w : World} {u8 u12 u13 u14 u15 u17 u18 u19 u20 u23 u24 u25 u26 u27 u30 u31 u32 u33 u34 u36 u37 u38 : Value} {q2 : Nat} (l : Array Bool) (hl : l = #[true, true, true, true, true, true, true, true, true, true, true, false, true, true, true, true, true, true, false, true, true, true, true, true, false, false, false, false, false]) (hg : w0.grownBy w none) (h2 : w.heap[q2]? = some (.cells #[.slice a m c, .slice a2 m2 c2] 75 (0, 0))) :
  wpAnyH Tryz.prog .any bjOps Q (SbJ b d a m c sa sm sc1 a2 m2 c2 sa2 sm2 sc2) 7 l { tmps := #[u0, u1, u2, u3, u4, u5, u6, u7, u8, u9, u10, u11, u12, u13, u14, u15, .slice a m c, u17, u18, u19, u20, .slice a2 m2 c2, .slice (some ⟨q2, 0, none⟩) 2 2, u23, u24, u25, u26, u27, .slice sa sm sc1, .slice so sn sc, u30, u31, u32, u33, u34, .slice sa2 sm2 sc2, u36, u37, u38, u39, u40, u41, u42, u43, u44, u45, u46, u47, u48, u49, u50, u51, u52], defers := ds } w := by
 subst hl
 have H' := hid_intro H
 have G' := hid_intro hg
 have Kh2 := hid_intro h2
 clear H hg h2
 refine wpAnyH_ready (rs := [11, 18, 27]) (by kernel_rfl) (by simp) ?_
 refine AllReadyH.cons (o := { dst := some 23, op := Op.call { callee := Callee.value (Operand.func 172), args := #[Operand.tmp 22], argTypes := #[204] }, type := 75, pos := "branch.go:58", after := #[{ on := 10, ground := Ground.data }], guard := none }) rfl (fun K hK => ?_) ?_
 ·go_simp
  (with_reducible refine (H'.out.cn _ _ G'.out Kh2.out).mono ?_)
  rintro en w' ⟨⟨a9, n9, c9, rfl, hN⟩, hg'⟩
  refine hK.out _ _ (H'.out.keep (grown_trans G'.out hg')) (fun hHeld => ?_)
  clear hK K
  try simp only [List.setIfInBounds_toArray, List.set_cons_zero, List.set_cons_succ]
  exact bj_2000 H'.out _ (by kernel_rfl) (grown_trans G'.out hg') (hN)
 refine AllReadyH.cons (o := { dst := some 30, op := Op.buildSlice 51 1 #[(0, Operand.tmp 29)], type := 51, pos := "branch.go:57", after := #[{ on := 17, ground := Ground.data }], guard := none }) rfl (fun K hK => ?_) ?_
 ·go_simp
  refine hK.out _ _ (H'.out.keep (grown_trans G'.out (World.grownBy_alloc w _ none))) (fun hHeld => ?_)
  clear hK K
  try simp only [List.setIfInBounds_toArray, List.set_cons_zero, List.set_cons_succ]
  exact bj_1100 H'.out _ (by kernel_rfl) (grown_trans G'.out (World.grownBy_alloc w _ none)) (heap_kept Kh2.out (World.grownBy_alloc w _ none)) (heap_at0 w _ _)
 refine AllReadyH.cons (o := { dst := some 8, op := Op.alloc 77, type := 0, pos := "branch.go:57", after := #[], guard := none }) rfl (fun K hK => ?_) AllReadyH.nil
 go_simp
 refine hK.out _ _ (H'.out.keep (grown_trans G'.out (World.grownBy_alloc w _ none))) (fun hHeld => ?_)
 clear hK K
 try simp only [List.setIfInBounds_toArray, List.set_cons_zero, List.set_cons_succ]
 exact bj_1010 H'.out _ (by kernel_rfl) (grown_trans G'.out (World.grownBy_alloc w _ none)) (heap_kept Kh2.out (World.grownBy_alloc w _ none)) (⟨BxT.new w _ _, G'.out.size⟩)
set_option maxHeartbeats 2000000 in
set_option maxRecDepth 100000 in
theorem bj_0210 (H : GbJ n w0 b d a m c a2 m2 c2 sa sm sc1 sa2 sm2 sc2 so sn sc xs ys ss ts s Q ds u0 u1 u2 u3 u4 u5 u6 u7 u9 u10 u11 u39 u40 u41 u42 u43 u44 u45 u46 u47 u48 u49 u50 u51 u52) {w : World} {u12 u13 u14 u15 u17 u18 u19 u20 u22 u23 u24 u25 u26 u27 u30 u31 u32 u33 u34 u37 u38 : Value} {q6 : Nat} {G : Nat} (l : Array Bool) (hl : l = #[true, true, true, true, true, true, true, true, true, true, false, false, true, true, true, true, true, true, true, true, true, true, true, true, true, false, false, true, false]) (hg : w0.grownBy w none) (h6 : ∃ p, w.heap[q6]? = some (.cells #[.slice sa sm sc1, .slice (some ⟨p, 0, none⟩) 1 1, .slice sa2 sm2 sc2] 51 (0, 0)) ∧ w.heap[p]? = some (.cells #[.slice so sn sc] 30 (0, 0))) (h8 : BxT w G ∧ w0.heap.size ≤ G) :
  wpAnyH Tryz.prog .any bjOps Q (SbJ b d a m c sa sm sc1 a2 m2 c2 sa2 sm2 sc2) 5 l { tmps := #[u0, u1, u2, u3, u4, u5, u6, u7, .pointer (some ⟨G, 0, none⟩), u9, u10, u11, u12, u13, u14, u15, .slice a m c, u17, u18, u19, u20, .slice a2 m2 c2, u22, u23, u24, u25, u26, u27, .slice sa sm sc1, .slice so sn sc, u30, u31, u32, u33, u34, .slice sa2 sm2 sc2, .slice (some ⟨q6, 0, none⟩) 3 3, u37, u38, u39, u40, u41, u42, u43, u44, u45, u46, u47, u48, u49, u50, u51, u52], defers := ds } w := by
 subst hl
 have H' := hid_intro H
 have G' := hid_intro hg
 have Kh6 := hid_intro h6
 have Kh8 := hid_intro h8
 clear H hg h6 h8
 refine wpAnyH_ready (rs := [10]) (by kernel_rfl) (by simp) ?_
 refine AllReadyH.cons (o := { dst := some 22, op := Op.buildSlice 204 2 #[(0, Operand.tmp 16), (1, Operand.tmp 21)], type := 204, pos := "branch.go:57", after := #[{ on := 4, ground := Ground.data }, { on := 9, ground := Ground.data }], guard := none }) rfl (fun K hK => ?_) AllReadyH.nil
 go_simp
 refine hK.out _ _ (H'.out.keep (grown_trans G'.out (World.grownBy_alloc w _ none))) (fun hHeld => ?_)
 clear hK K
 try simp only [List.setIfInBounds_toArray, List.set_cons_zero, List.set_cons_succ]
 exact bj_1210 H'.out _ (by kernel_rfl) (grown_trans G'.out (World.grownBy_alloc w _ none)) (heap_at0 w _ _) (two_kept Kh6.out (World.grownBy_alloc w _ none)) (And.intro (Kh8.out.1.keptN (World.grownBy_alloc w _ none)) Kh8.out.2)
set_option maxHeartbeats 2000000 in
set_option maxRecDepth 100000 in
theorem bj_0200 (H : GbJ n w0 b d a m c a2 m2 c2 sa sm sc1 sa2 sm2 sc2 so sn sc xs ys ss ts s Q ds u0 u1 u2 u3 u4 u5 u6 u7 u9 u10 u11 u39 u40 u41 u42 u43 u44 u45 u46 u47 u48 u49 u50 u51 u52) {w : World} {u8 u12 u13 u14 u15 u17 u18 u19 u20 u22 u23 u24 u25 u26 u27 u30 u31 u32 u33 u34 u37 u38 : Value} {q6 : Nat} (l : Array Bool) (hl : l = #[true, true, true, true, true, true, true, true, true, true, false, false, true, true, true, true, true, true, true, true, true, true, true, true, true, false, false, false, false]) (hg : w0.grownBy w none) (h6 : ∃ p, w.heap[q6]? = some (.cells #[.slice sa sm sc1, .slice (some ⟨p, 0, none⟩) 1 1, .slice sa2 sm2 sc2] 51 (0, 0)) ∧ w.heap[p]? = some (.cells #[.slice so sn sc] 30 (0, 0))) :
  wpAnyH Tryz.prog .any bjOps Q (SbJ b d a m c sa sm sc1 a2 m2 c2 sa2 sm2 sc2) 6 l { tmps := #[u0, u1, u2, u3, u4, u5, u6, u7, u8, u9, u10, u11, u12, u13, u14, u15, .slice a m c, u17, u18, u19, u20, .slice a2 m2 c2, u22, u23, u24, u25, u26, u27, .slice sa sm sc1, .slice so sn sc, u30, u31, u32, u33, u34, .slice sa2 sm2 sc2, .slice (some ⟨q6, 0, none⟩) 3 3, u37, u38, u39, u40, u41, u42, u43, u44, u45, u46, u47, u48, u49, u50, u51, u52], defers := ds } w := by
 subst hl
 have H' := hid_intro H
 have G' := hid_intro hg
 have Kh6 := hid_intro h6
 clear H hg h6
 refine wpAnyH_ready (rs := [10, 27]) (by kernel_rfl) (by simp) ?_
 refine AllReadyH.cons (o := { dst := some 22, op := Op.buildSlice 204 2 #[(0, Operand.tmp 16), (1, Operand.tmp 21)], type := 204, pos := "branch.go:57", after := #[{ on := 4, ground := Ground.data }, { on := 9, ground := Ground.data }], guard := none }) rfl (fun K hK => ?_) ?_
 ·go_simp
  refine hK.out _ _ (H'.out.keep (grown_trans G'.out (World.grownBy_alloc w _ none))) (fun hHeld => ?_)
  clear hK K
  try simp only [List.setIfInBounds_toArray, List.set_cons_zero, List.set_cons_succ]
  exact bj_1200 H'.out _ (by kernel_rfl) (grown_trans G'.out (World.grownBy_alloc w _ none)) (heap_at0 w _ _) (two_kept Kh6.out (World.grownBy_alloc w _ none))
 refine AllReadyH.cons (o := { dst := some 8, op := Op.alloc 77, type := 0, pos := "branch.go:57", after := #[], guard := none }) rfl (fun K hK => ?_) AllReadyH.nil
 go_simp
 refine hK.out _ _ (H'.out.keep (grown_trans G'.out (World.grownBy_alloc w _ none))) (fun hHeld => ?_)
 clear hK K
 try simp only [List.setIfInBounds_toArray, List.set_cons_zero, List.set_cons_succ]
 exact bj_0210 H'.out _ (by kernel_rfl) (grown_trans G'.out (World.grownBy_alloc w _ none)) (two_kept Kh6.out (World.grownBy_alloc w _ none)) (⟨BxT.new w _ _, G'.out.size⟩)
set_option maxHeartbeats 2000000 in
set_option maxRecDepth 100000 in
theorem bj_0110 (H : GbJ n w0 b d a m c a2 m2 c2 sa sm sc1 sa2 sm2 sc2 so sn sc xs ys ss ts s Q ds u0 u1 u2 u3 u4 u5 u6 u7 u9 u10 u11 u39 u40 u41 u42 u43 u44 u45 u46 u47 u48 u49 u50 u51 u52) {w : World} {u12 u13 u14 u15 u17 u18 u19 u20 u22 u23 u24 u25 u26 u27 u31 u32 u33 u34 u36 u37 u38 : Value} {p3 : Nat} {G : Nat} (l : Array Bool) (hl : l = #[true, true, true, true, true, true, true, true, true, true, false, false, true, true, true, true, true, true, true, true, true, true, true, true, false, false, false, true, false]) (hg : w0.grownBy w none) (h3 : w.heap[p3]? = some (.cells #[.slice so sn sc] 30 (0, 0))) (h8 : BxT w G ∧ w0.heap.size ≤ G) :
  wpAnyH Tryz.prog .any bjOps Q (SbJ b d a m c sa sm sc1 a2 m2 c2 sa2 sm2 sc2) 6 l { tmps := #[u0, u1, u2, u3, u4, u5, u6, u7, .pointer (some ⟨G, 0, none⟩), u9, u10, u11, u12, u13, u14, u15, .slice a m c, u17, u18, u19, u20, .slice a2 m2 c2, u22, u23, u24, u25, u26, u27, .slice sa sm sc1, .slice so sn sc, .slice (some ⟨p3, 0, none⟩) 1 1, u31, u32, u33, u34, .slice sa2 sm2 sc2, u36, u37, u38, u39, u40, u41, u42, u43, u44, u45, u46, u47, u48, u49, u50, u51, u52], defers := ds } w := by
 subst hl
 have H' := hid_intro H
 have G' := hid_intro hg
 have Kh3 := hid_intro h3
 have Kh8 := hid_intro h8
 clear H hg h3 h8
 refine wpAnyH_ready (rs := [10, 24]) (by kernel_rfl) (by simp) ?_
 refine AllReadyH.cons (o := { dst := some 22, op := Op.buildSlice 204 2 #[(0, Operand.tmp 16), (1, Operand.tmp 21)], type := 204, pos := "branch.go:57", after := #[{ on := 4, ground := Ground.data }, { on := 9, ground := Ground.data }], guard := none }) rfl (fun K hK => ?_) ?_
 ·go_simp
  refine hK.out _ _ (H'.out.keep (grown_trans G'.out (World.grownBy_alloc w _ none))) (fun hHeld => ?_)
  clear hK K
  try simp only [List.setIfInBounds_toArray, List.set_cons_zero, List.set_cons_succ]
  exact bj_1110 H'.out _ (by kernel_rfl) (grown_trans G'.out (World.grownBy_alloc w _ none)) (heap_at0 w _ _) (heap_kept Kh3.out (World.grownBy_alloc w _ none)) (And.intro (Kh8.out.1.keptN (World.grownBy_alloc w _ none)) Kh8.out.2)
 refine AllReadyH.cons (o := { dst := some 36, op := Op.buildSlice 206 3 #[(0, Operand.tmp 28), (1, Operand.tmp 30), (2, Operand.tmp 35)], type := 206, pos := "branch.go:57", after := #[{ on := 16, ground := Ground.data }, { on := 18, ground := Ground.data }, { on := 23, ground := Ground.data }], guard := none }) rfl (fun K hK => ?_) AllReadyH.nil
 go_simp
 refine hK.out _ _ (H'.out.keep (grown_trans G'.out (World.grownBy_alloc w _ none))) (fun hHeld => ?_)
 clear hK K
 try simp only [List.setIfInBounds_toArray, List.set_cons_zero, List.set_cons_succ]
 exact bj_0210 H'.out _ (by kernel_rfl) (grown_trans G'.out (World.grownBy_alloc w _ none)) (⟨p3, heap_at0 w _ _, heap_kept Kh3.out (World.grownBy_alloc w _ none)⟩) (And.intro (Kh8.out.1.keptN (World.grownBy_alloc w _ none)) Kh8.out.2)
set_option maxHeartbeats 2000000 in
set_option maxRecDepth 100000 in
theorem bj_0100 (H : GbJ n w0 b d a m c a2 m2 c2 sa sm sc1 sa2 sm2 sc2 so sn sc xs ys ss ts s Q ds u0 u1 u2 u3 u4 u5 u6 u7 u9 u10 u11 u39 u40 u41 u42 u43 u44 u45 u46 u47 u48 u49 u50 u51 u52) {w : World} {u8 u12 u13 u14 u15 u17 u18 u19 u20 u22 u23 u24 u25 u26 u27 u31 u32 u33 u34 u36 u37 u38 : Value} {p3 : Nat} (l : Array Bool) (hl : l = #[true, true, true, true, true, true, true, true, true, true, false, false, true, true, true, true, true, true, true, true, true, true, true, true, false, false, false, false, false]) (hg : w0.grownBy w none) (h3 : w.heap[p3]? = some (.cells #[.slice so sn sc] 30 (0, 0))) :
  wpAnyH Tryz.prog .any bjOps Q (SbJ b d a m c sa sm sc1 a2 m2 c2 sa2 sm2 sc2) 7 l { tmps := #[u0, u1, u2, u3, u4, u5, u6, u7, u8, u9, u10, u11, u12, u13, u14, u15, .slice a m c, u17, u18, u19, u20, .slice a2 m2 c2, u22, u23, u24, u25, u26, u27, .slice sa sm sc1, .slice so sn sc, .slice (some ⟨p3, 0, none⟩) 1 1, u31, u32, u33, u34, .slice sa2 sm2 sc2, u36, u37, u38, u39, u40, u41, u42, u43, u44, u45, u46, u47, u48, u49, u50, u51, u52], defers := ds } w := by
 subst hl
 have H' := hid_intro H
 have G' := hid_intro hg
 have Kh3 := hid_intro h3
 clear H hg h3
 refine wpAnyH_ready (rs := [10, 24, 27]) (by kernel_rfl) (by simp) ?_
 refine AllReadyH.cons (o := { dst := some 22, op := Op.buildSlice 204 2 #[(0, Operand.tmp 16), (1, Operand.tmp 21)], type := 204, pos := "branch.go:57", after := #[{ on := 4, ground := Ground.data }, { on := 9, ground := Ground.data }], guard := none }) rfl (fun K hK => ?_) ?_
 ·go_simp
  refine hK.out _ _ (H'.out.keep (grown_trans G'.out (World.grownBy_alloc w _ none))) (fun hHeld => ?_)
  clear hK K
  try simp only [List.setIfInBounds_toArray, List.set_cons_zero, List.set_cons_succ]
  exact bj_1100 H'.out _ (by kernel_rfl) (grown_trans G'.out (World.grownBy_alloc w _ none)) (heap_at0 w _ _) (heap_kept Kh3.out (World.grownBy_alloc w _ none))
 refine AllReadyH.cons (o := { dst := some 36, op := Op.buildSlice 206 3 #[(0, Operand.tmp 28), (1, Operand.tmp 30), (2, Operand.tmp 35)], type := 206, pos := "branch.go:57", after := #[{ on := 16, ground := Ground.data }, { on := 18, ground := Ground.data }, { on := 23, ground := Ground.data }], guard := none }) rfl (fun K hK => ?_) ?_
 ·go_simp
  refine hK.out _ _ (H'.out.keep (grown_trans G'.out (World.grownBy_alloc w _ none))) (fun hHeld => ?_)
  clear hK K
  try simp only [List.setIfInBounds_toArray, List.set_cons_zero, List.set_cons_succ]
  exact bj_0200 H'.out _ (by kernel_rfl) (grown_trans G'.out (World.grownBy_alloc w _ none)) (⟨p3, heap_at0 w _ _, heap_kept Kh3.out (World.grownBy_alloc w _ none)⟩)
 refine AllReadyH.cons (o := { dst := some 8, op := Op.alloc 77, type := 0, pos := "branch.go:57", after := #[], guard := none }) rfl (fun K hK => ?_) AllReadyH.nil
 go_simp
 refine hK.out _ _ (H'.out.keep (grown_trans G'.out (World.grownBy_alloc w _ none))) (fun hHeld => ?_)
 clear hK K
 try simp only [List.setIfInBounds_toArray, List.set_cons_zero, List.set_cons_succ]
 exact bj_0110 H'.out _ (by kernel_rfl) (grown_trans G'.out (World.grownBy_alloc w _ none)) (heap_kept Kh3.out (World.grownBy_alloc w _ none)) (⟨BxT.new w _ _, G'.out.size⟩)
set_option maxHeartbeats 2000000 in
set_option maxRecDepth 100000 in
theorem bj_0010 (H : GbJ n w0 b d a m c a2 m2 c2 sa sm sc1 sa2 sm2 sc2 so sn sc xs ys ss ts s Q ds u0 u1 u2 u3 u4 u5 u6 u7 u9 u10 u11 u39 u40 u41 u42 u43 u44 u45 u46 u47 u48 u49 u50 u51 u52) {w : World} {u12 u13 u14 u15 u17 u18 u19 u20 u22 u23 u24 u25 u26 u27 u30 u31 u32 u33 u34 u36 u37 u38 : Value} {G : Nat} (l : Array Bool) (hl : l = #[true, true, true, true, true, true, true, true, true, true, false, false, true, true, true, true, true, true, false, true, true, true, true, true, false, false, false, true, false]) (hg : w0.grownBy w none) (h8 : BxT w G ∧ w0.heap.size ≤ G) :
  wpAnyH Tryz.prog .any bjOps Q (SbJ b d a m c sa sm sc1 a2 m2 c2 sa2 sm2 sc2) 7 l { tmps := #[u0, u1, u2, u3, u4, u5, u6, u7, .pointer (some ⟨G, 0, none⟩), u9, u10, u11, u12, u13, u14, u15, .slice a m c, u17, u18, u19, u20, .slice a2 m2 c2, u22, u23, u24, u25, u26, u27, .slice sa sm sc1, .slice so sn sc, u30, u31, u32, u33, u34, .slice sa2 sm2 sc2, u36, u37, u38, u39, u40, u41, u42, u43, u44, u45, u46, u47, u48, u49, u50, u51, u52], defers := ds } w := by
 subst hl
 have H' := hid_intro H
 have G' := hid_intro hg
 have Kh8 := hid_intro h8
 clear H hg h8
 refine wpAnyH_ready (rs := [10, 18]) (by kernel_rfl) (by simp) ?_
 refine AllReadyH.cons (o := { dst := some 22, op := Op.buildSlice 204 2 #[(0, Operand.tmp 16), (1, Operand.tmp 21)], type := 204, pos := "branch.go:57", after := #[{ on := 4, ground := Ground.data }, { on := 9, ground := Ground.data }], guard := none }) rfl (fun K hK => ?_) ?_
 ·go_simp
  refine hK.out _ _ (H'.out.keep (grown_trans G'.out (World.grownBy_alloc w _ none))) (fun hHeld => ?_)
  clear hK K
  try simp only [List.setIfInBounds_toArray, List.set_cons_zero, List.set_cons_succ]
  exact bj_1010 H'.out _ (by kernel_rfl) (grown_trans G'.out (World.grownBy_alloc w _ none)) (heap_at0 w _ _) (And.intro (Kh8.out.1.keptN (World.grownBy_alloc w _ none)) Kh8.out.2)
 refine AllReadyH.cons (o := { dst := some 30, op := Op.buildSlice 51 1 #[(0, Operand.tmp 29)], type := 51, pos := "branch.go:57", after := #[{ on := 17, ground := Ground.data }], guard := none }) rfl (fun K hK => ?_) AllReadyH.nil
 go_simp
 refine hK.out _ _ (H'.out.keep (grown_trans G'.out (World.grownBy_alloc w _ none))) (fun hHeld => ?_)
 clear hK K
 try simp only [List.setIfInBounds_toArray, List.set_cons_zero, List.set_cons_succ]
 exact bj_0110 H'.out _ (by kernel_rfl) (grown_trans G'.out (World.grownBy_alloc w _ none)) (heap_at0 w _ _) (And.intro (Kh8.out.1.keptN (World.grownBy_alloc w _ none)) Kh8.out.2)
set_option maxHeartbeats 2000000 in
set_option maxRecDepth 100000 in
theorem bj_0000 (H : GbJ n w0 b d a m c a2 m2 c2 sa sm sc1 sa2 sm2 sc2 so sn sc xs ys ss ts s Q ds u0 u1 u2 u3 u4 u5 u6 u7 u9 u10 u11 u39 u40 u41 u42 u43 u44 u45 u46 u47 u48 u49 u50 u51 u52) {w : World} {u8 u12 u13 u14 u15 u17 u18 u19 u20 u22 u23 u24 u25 u26 u27 u30 u31 u32 u33 u34 u36 u37 u38 : Value}  (l : Array Bool) (hl : l = #[true, true, true, true, true, true, true, true, true, true, false, false, true, true, true, true, true, true, false, true, true, true, true, true, false, false, false, false, false]) (hg : w0.grownBy w none)  :
  wpAnyH Tryz.prog .any bjOps Q (SbJ b d a m c sa sm sc1 a2 m2 c2 sa2 sm2 sc2) 8 l { tmps := #[u0, u1, u2, u3, u4, u5, u6, u7, u8, u9, u10, u11, u12, u13, u14, u15, .slice a m c, u17, u18, u19, u20, .slice a2 m2 c2, u22, u23, u24, u25, u26, u27, .slice sa sm sc1, .slice so sn sc, u30, u31, u32, u33, u34, .slice sa2 sm2 sc2, u36, u37, u38, u39, u40, u41, u42, u43, u44, u45, u46, u47, u48, u49, u50, u51, u52], defers := ds } w := by
 subst hl
 have H' := hid_intro H
 have G' := hid_intro hg
 clear H hg 
 refine wpAnyH_ready (rs := [10, 18, 27]) (by kernel_rfl) (by simp) ?_
 refine AllReadyH.cons (o := { dst := some 22, op := Op.buildSlice 204 2 #[(0, Operand.tmp 16), (1, Operand.tmp 21)], type := 204, pos := "branch.go:57", after := #[{ on := 4, ground := Ground.data }, { on := 9, ground := Ground.data }], guard := none }) rfl (fun K hK => ?_) ?_
 ·go_simp
  refine hK.out _ _ (H'.out.keep (grown_trans G'.out (World.grownBy_alloc w _ none))) (fun hHeld => ?_)
  clear hK K
  try simp only [List.setIfInBounds_toArray, List.set_cons_zero, List.set_cons_succ]
  exact bj_1000 H'.out _ (by kernel_rfl) (grown_trans G'.out (World.grownBy_alloc w _ none)) (heap_at0 w _ _)
 refine AllReadyH.cons (o := { dst := some 30, op := Op.buildSlice 51 1 #[(0, Operand.tmp 29)], type := 51, pos := "branch.go:57", after := #[{ on := 17, ground := Ground.data }], guard := none }) rfl (fun K hK => ?_) ?_
 ·go_simp
  refine hK.out _ _ (H'.out.keep (grown_trans G'.out (World.grownBy_alloc w _ none))) (fun hHeld => ?_)
  clear hK K
  try simp only [List.setIfInBounds_toArray, List.set_cons_zero, List.set_cons_succ]
  exact bj_0100 H'.out _ (by kernel_rfl) (grown_trans G'.out (World.grownBy_alloc w _ none)) (heap_at0 w _ _)
 refine AllReadyH.cons (o := { dst := some 8, op := Op.alloc 77, type := 0, pos := "branch.go:57", after := #[], guard := none }) rfl (fun K hK => ?_) AllReadyH.nil
 go_simp
 refine hK.out _ _ (H'.out.keep (grown_trans G'.out (World.grownBy_alloc w _ none))) (fun hHeld => ?_)
 clear hK K
 try simp only [List.setIfInBounds_toArray, List.set_cons_zero, List.set_cons_succ]
 exact bj_0010 H'.out _ (by kernel_rfl) (grown_trans G'.out (World.grownBy_alloc w _ none)) (⟨BxT.new w _ _, G'.out.size⟩)
set_option maxHeartbeats 8000000 in
set_option maxRecDepth 100000 in
theorem bj_region {u8 u12 u13 u14 u15 u16 u17 u18 u19 u20 u21 u22 u23 u24 u25 u26 u27 u28 u29 u30 u31 u32 u33 u34 u35 u36 u37 u38 : Value} (H : GbJ n w0 b d a m c a2 m2 c2 sa sm sc1 sa2 sm2 sc2 so sn sc xs ys ss ts s Q ds (.pointer (some ⟨b, 0, none⟩)) (.slice so sn sc) u2 u3 u4 u5 u6 (.pointer (some ⟨d, 0, none⟩)) u9 u10 u11 u39 u40 u41 u42 u43 u44 u45 u46 u47 u48 u49 u50 u51 u52) :
  (Code.region 2 bjOps true).wp Tryz.prog Q { tmps := #[.pointer (some ⟨b, 0, none⟩), .slice so sn sc, u2, u3, u4, u5, u6, .pointer (some ⟨d, 0, none⟩), u8, u9, u10, u11, u12, u13, u14, u15, u16, u17, u18, u19, u20, u21, u22, u23, u24, u25, u26, u27, u28, u29, u30, u31, u32, u33, u34, u35, u36, u37, u38, u39, u40, u41, u42, u43, u44, u45, u46, u47, u48, u49, u50, u51, u52], defers := ds } w0 := by
 refine wp_region_held_drew (S := (SbJ b d a m c sa sm sc1 a2 m2 c2 sa2 sm2 sc2)) (by kernel_rfl) (H.keep ((Qt.refl w0).drew.grown none)) (fun hHeld => ?_)
 refine wpAnyH_take (i := 0) (oi := { dst := some 12, op := Op.move (Operand.tmp 0), type := 134, pos := "branch.go:57", after := #[], guard := none }) (v := ?_) rfl (by kernel_rfl) (by kernel_rfl) (by kernel_rfl) (fun c f W h => H.pan c f _ _ W h) (Or.inl ⟨by rfl, ?_⟩) (by assumption) ?_
 rotate_left
 ·intro w hSw; obtain ⟨hs1, hs2, hs3, hs4⟩ := hSw; go_simp; (try with_reducible rfl)
 simp only [Act.put, List.setIfInBounds_toArray, List.set_cons_zero, List.set_cons_succ]
 refine wpAnyH_take (i := 1) (oi := { dst := some 13, op := Op.nilCheck (Operand.tmp 12), type := 0, pos := "branch.go:57", after := #[{ on := 0, ground := Ground.data }], guard := none }) (v := ?_) rfl (by kernel_rfl) (by kernel_rfl) (by kernel_rfl) (fun c f W h => H.pan c f _ _ W h) (Or.inl ⟨by rfl, ?_⟩) (by assumption) ?_
 rotate_left
 ·intro w hSw; obtain ⟨hs1, hs2, hs3, hs4⟩ := hSw; go_simp; (try with_reducible rfl)
 simp only [Act.put, List.setIfInBounds_toArray, List.set_cons_zero, List.set_cons_succ]
 refine wpAnyH_take (i := 2) (oi := { dst := some 14, op := Op.fieldAddr 136 (Operand.tmp 13) 1, type := 0, pos := "branch.go:57", after := #[{ on := 1, ground := Ground.data }], guard := none }) (v := ?_) rfl (by kernel_rfl) (by kernel_rfl) (by kernel_rfl) (fun c f W h => H.pan c f _ _ W h) (Or.inl ⟨by rfl, ?_⟩) (by assumption) ?_
 rotate_left
 ·intro w hSw; obtain ⟨hs1, hs2, hs3, hs4⟩ := hSw; go_simp; (try with_reducible rfl)
 simp only [Act.put, List.setIfInBounds_toArray, List.set_cons_zero, List.set_cons_succ]
 refine wpAnyH_take (i := 3) (oi := { dst := some 15, op := Op.fieldAddr 77 (Operand.tmp 14) 0, type := 0, pos := "branch.go:57", after := #[{ on := 2, ground := Ground.data }], guard := none }) (v := ?_) rfl (by kernel_rfl) (by kernel_rfl) (by kernel_rfl) (fun c f W h => H.pan c f _ _ W h) (Or.inl ⟨by rfl, ?_⟩) (by assumption) ?_
 rotate_left
 ·intro w hSw; obtain ⟨hs1, hs2, hs3, hs4⟩ := hSw; go_simp; (try with_reducible rfl)
 simp only [Act.put, List.setIfInBounds_toArray, List.set_cons_zero, List.set_cons_succ]
 refine wpAnyH_take (i := 4) (oi := { dst := some 16, op := Op.load 75 (Operand.tmp 15), type := 75, pos := "branch.go:57", after := #[{ on := 3, ground := Ground.data }], guard := none }) (v := ?_) rfl (by kernel_rfl) (by kernel_rfl) (by kernel_rfl) (fun c f W h => H.pan c f _ _ W h) (Or.inl ⟨by rfl, ?_⟩) (by assumption) ?_
 rotate_left
 ·intro w hSw; obtain ⟨hs1, hs2, hs3, hs4⟩ := hSw; go_simp; (try with_reducible rfl)
 simp only [Act.put, List.setIfInBounds_toArray, List.set_cons_zero, List.set_cons_succ]
 refine wpAnyH_take (i := 5) (oi := { dst := some 17, op := Op.move (Operand.tmp 7), type := 134, pos := "branch.go:57", after := #[], guard := none }) (v := ?_) rfl (by kernel_rfl) (by kernel_rfl) (by kernel_rfl) (fun c f W h => H.pan c f _ _ W h) (Or.inl ⟨by rfl, ?_⟩) (by assumption) ?_
 rotate_left
 ·intro w hSw; obtain ⟨hs1, hs2, hs3, hs4⟩ := hSw; go_simp; (try with_reducible rfl)
 simp only [Act.put, List.setIfInBounds_toArray, List.set_cons_zero, List.set_cons_succ]
 refine wpAnyH_take (i := 6) (oi := { dst := some 18, op := Op.nilCheck (Operand.tmp 17), type := 0, pos := "branch.go:57", after := #[{ on := 5, ground := Ground.data }], guard := none }) (v := ?_) rfl (by kernel_rfl) (by kernel_rfl) (by kernel_rfl) (fun c f W h => H.pan c f _ _ W h) (Or.inl ⟨by rfl, ?_⟩) (by assumption) ?_
 rotate_left
 ·intro w hSw; obtain ⟨hs1, hs2, hs3, hs4⟩ := hSw; go_simp; (try with_reducible rfl)
 simp only [Act.put, List.setIfInBounds_toArray, List.set_cons_zero, List.set_cons_succ]
 refine wpAnyH_take (i := 7) (oi := { dst := some 19, op := Op.fieldAddr 136 (Operand.tmp 18) 1, type := 0, pos := "branch.go:57", after := #[{ on := 6, ground := Ground.data }], guard := none }) (v := ?_) rfl (by kernel_rfl) (by kernel_rfl) (by kernel_rfl) (fun c f W h => H.pan c f _ _ W h) (Or.inl ⟨by rfl, ?_⟩) (by assumption) ?_
 rotate_left
 ·intro w hSw; obtain ⟨hs1, hs2, hs3, hs4⟩ := hSw; go_simp; (try with_reducible rfl)
 simp only [Act.put, List.setIfInBounds_toArray, List.set_cons_zero, List.set_cons_succ]
 refine wpAnyH_take (i := 8) (oi := { dst := some 20, op := Op.fieldAddr 77 (Operand.tmp 19) 0, type := 0, pos := "branch.go:57", after := #[{ on := 7, ground := Ground.data }], guard := none }) (v := ?_) rfl (by kernel_rfl) (by kernel_rfl) (by kernel_rfl) (fun c f W h => H.pan c f _ _ W h) (Or.inl ⟨by rfl, ?_⟩) (by assumption) ?_
 rotate_left
 ·intro w hSw; obtain ⟨hs1, hs2, hs3, hs4⟩ := hSw; go_simp; (try with_reducible rfl)
 simp only [Act.put, List.setIfInBounds_toArray, List.set_cons_zero, List.set_cons_succ]
 refine wpAnyH_take (i := 9) (oi := { dst := some 21, op := Op.load 75 (Operand.tmp 20), type := 75, pos := "branch.go:57", after := #[{ on := 8, ground := Ground.data }], guard := none }) (v := ?_) rfl (by kernel_rfl) (by kernel_rfl) (by kernel_rfl) (fun c f W h => H.pan c f _ _ W h) (Or.inl ⟨by rfl, ?_⟩) (by assumption) ?_
 rotate_left
 ·intro w hSw; obtain ⟨hs1, hs2, hs3, hs4⟩ := hSw; go_simp; (try with_reducible rfl)
 simp only [Act.put, List.setIfInBounds_toArray, List.set_cons_zero, List.set_cons_succ]
 refine wpAnyH_take (i := 12) (oi := { dst := some 24, op := Op.move (Operand.tmp 0), type := 134, pos := "branch.go:57", after := #[], guard := none }) (v := ?_) rfl (by kernel_rfl) (by kernel_rfl) (by kernel_rfl) (fun c f W h => H.pan c f _ _ W h) (Or.inl ⟨by rfl, ?_⟩) (by assumption) ?_
 rotate_left
 ·intro w hSw; obtain ⟨hs1, hs2, hs3, hs4⟩ := hSw; go_simp; (try with_reducible rfl)
 simp only [Act.put, List.setIfInBounds_toArray, List.set_cons_zero, List.set_cons_succ]
 refine wpAnyH_take (i := 13) (oi := { dst := some 25, op := Op.nilCheck (Operand.tmp 24), type := 0, pos := "branch.go:57", after := #[{ on := 12, ground := Ground.data }], guard := none }) (v := ?_) rfl (by kernel_rfl) (by kernel_rfl) (by kernel_rfl) (fun c f W h => H.pan c f _ _ W h) (Or.inl ⟨by rfl, ?_⟩) (by assumption) ?_
 rotate_left
 ·intro w hSw; obtain ⟨hs1, hs2, hs3, hs4⟩ := hSw; go_simp; (try with_reducible rfl)
 simp only [Act.put, List.setIfInBounds_toArray, List.set_cons_zero, List.set_cons_succ]
 refine wpAnyH_take (i := 14) (oi := { dst := some 26, op := Op.fieldAddr 136 (Operand.tmp 25) 1, type := 0, pos := "branch.go:57", after := #[{ on := 13, ground := Ground.data }], guard := none }) (v := ?_) rfl (by kernel_rfl) (by kernel_rfl) (by kernel_rfl) (fun c f W h => H.pan c f _ _ W h) (Or.inl ⟨by rfl, ?_⟩) (by assumption) ?_
 rotate_left
 ·intro w hSw; obtain ⟨hs1, hs2, hs3, hs4⟩ := hSw; go_simp; (try with_reducible rfl)
 simp only [Act.put, List.setIfInBounds_toArray, List.set_cons_zero, List.set_cons_succ]
 refine wpAnyH_take (i := 15) (oi := { dst := some 27, op := Op.fieldAddr 77 (Operand.tmp 26) 1, type := 0, pos := "branch.go:57", after := #[{ on := 14, ground := Ground.data }], guard := none }) (v := ?_) rfl (by kernel_rfl) (by kernel_rfl) (by kernel_rfl) (fun c f W h => H.pan c f _ _ W h) (Or.inl ⟨by rfl, ?_⟩) (by assumption) ?_
 rotate_left
 ·intro w hSw; obtain ⟨hs1, hs2, hs3, hs4⟩ := hSw; go_simp; (try with_reducible rfl)
 simp only [Act.put, List.setIfInBounds_toArray, List.set_cons_zero, List.set_cons_succ]
 refine wpAnyH_take (i := 16) (oi := { dst := some 28, op := Op.load 51 (Operand.tmp 27), type := 51, pos := "branch.go:57", after := #[{ on := 15, ground := Ground.data }], guard := none }) (v := ?_) rfl (by kernel_rfl) (by kernel_rfl) (by kernel_rfl) (fun c f W h => H.pan c f _ _ W h) (Or.inl ⟨by rfl, ?_⟩) (by assumption) ?_
 rotate_left
 ·intro w hSw; obtain ⟨hs1, hs2, hs3, hs4⟩ := hSw; go_simp; (try with_reducible rfl)
 simp only [Act.put, List.setIfInBounds_toArray, List.set_cons_zero, List.set_cons_succ]
 refine wpAnyH_take (i := 17) (oi := { dst := some 29, op := Op.move (Operand.tmp 1), type := 30, pos := "branch.go:57", after := #[], guard := none }) (v := ?_) rfl (by kernel_rfl) (by kernel_rfl) (by kernel_rfl) (fun c f W h => H.pan c f _ _ W h) (Or.inl ⟨by rfl, ?_⟩) (by assumption) ?_
 rotate_left
 ·intro w hSw; obtain ⟨hs1, hs2, hs3, hs4⟩ := hSw; go_simp; (try with_reducible rfl)
 simp only [Act.put, List.setIfInBounds_toArray, List.set_cons_zero, List.set_cons_succ]
 refine wpAnyH_take (i := 19) (oi := { dst := some 31, op := Op.move (Operand.tmp 7), type := 134, pos := "branch.go:57", after := #[], guard := none }) (v := ?_) rfl (by kernel_rfl) (by kernel_rfl) (by kernel_rfl) (fun c f W h => H.pan c f _ _ W h) (Or.inl ⟨by rfl, ?_⟩) (by assumption) ?_
 rotate_left
 ·intro w hSw; obtain ⟨hs1, hs2, hs3, hs4⟩ := hSw; go_simp; (try with_reducible rfl)
 simp only [Act.put, List.setIfInBounds_toArray, List.set_cons_zero, List.set_cons_succ]
 refine wpAnyH_take (i := 20) (oi := { dst := some 32, op := Op.nilCheck (Operand.tmp 31), type := 0, pos := "branch.go:57", after := #[{ on := 19, ground := Ground.data }], guard := none }) (v := ?_) rfl (by kernel_rfl) (by kernel_rfl) (by kernel_rfl) (fun c f W h => H.pan c f _ _ W h) (Or.inl ⟨by rfl, ?_⟩) (by assumption) ?_
 rotate_left
 ·intro w hSw; obtain ⟨hs1, hs2, hs3, hs4⟩ := hSw; go_simp; (try with_reducible rfl)
 simp only [Act.put, List.setIfInBounds_toArray, List.set_cons_zero, List.set_cons_succ]
 refine wpAnyH_take (i := 21) (oi := { dst := some 33, op := Op.fieldAddr 136 (Operand.tmp 32) 1, type := 0, pos := "branch.go:57", after := #[{ on := 20, ground := Ground.data }], guard := none }) (v := ?_) rfl (by kernel_rfl) (by kernel_rfl) (by kernel_rfl) (fun c f W h => H.pan c f _ _ W h) (Or.inl ⟨by rfl, ?_⟩) (by assumption) ?_
 rotate_left
 ·intro w hSw; obtain ⟨hs1, hs2, hs3, hs4⟩ := hSw; go_simp; (try with_reducible rfl)
 simp only [Act.put, List.setIfInBounds_toArray, List.set_cons_zero, List.set_cons_succ]
 refine wpAnyH_take (i := 22) (oi := { dst := some 34, op := Op.fieldAddr 77 (Operand.tmp 33) 1, type := 0, pos := "branch.go:57", after := #[{ on := 21, ground := Ground.data }], guard := none }) (v := ?_) rfl (by kernel_rfl) (by kernel_rfl) (by kernel_rfl) (fun c f W h => H.pan c f _ _ W h) (Or.inl ⟨by rfl, ?_⟩) (by assumption) ?_
 rotate_left
 ·intro w hSw; obtain ⟨hs1, hs2, hs3, hs4⟩ := hSw; go_simp; (try with_reducible rfl)
 simp only [Act.put, List.setIfInBounds_toArray, List.set_cons_zero, List.set_cons_succ]
 refine wpAnyH_take (i := 23) (oi := { dst := some 35, op := Op.load 51 (Operand.tmp 34), type := 51, pos := "branch.go:57", after := #[{ on := 22, ground := Ground.data }], guard := none }) (v := ?_) rfl (by kernel_rfl) (by kernel_rfl) (by kernel_rfl) (fun c f W h => H.pan c f _ _ W h) (Or.inl ⟨by rfl, ?_⟩) (by assumption) ?_
 rotate_left
 ·intro w hSw; obtain ⟨hs1, hs2, hs3, hs4⟩ := hSw; go_simp; (try with_reducible rfl)
 simp only [Act.put, List.setIfInBounds_toArray, List.set_cons_zero, List.set_cons_succ]
 exact bj_0000 H _ (by kernel_rfl) ((Qt.refl w0).drew.grown none)
end
end Go.Proofs.YtepcgckapoljpaaGreat
