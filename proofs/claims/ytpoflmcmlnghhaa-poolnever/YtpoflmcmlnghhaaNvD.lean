import Derived.Test.YtpoflmcmlnghhaaNv9
import Derived.Test.YtpoflmcmlnghhaaTuIn17
import Derived.Deep.DeepCutAuto
import Derived.Deep.CutRange
import Derived.Deep.CutBlock
import Derived.Deep.QuietTactic
namespace Go.Proofs.Ytpoflmcmlnghhaa
open Go.RowKit Go.Maps

/-- A life since w0: all that it writes on is new. -/
structure Nm (w0 w : World) (X B s q : Nat) (p : Po) (ls : Fin 4 → List Int) (ver : Int) (F : Nat → Prop) (vs : Fin 4 → Value) : Prop where
  lv : Lv w F X B vs ls ver
  pl : Pl w B s q p
  bF : ∀ i, Bk B s q i → ¬ F i
  nF : ∀ i, F i → w0.heap.size ≤ i
  nB : ∀ i, Bk B s q i → w0.heap.size ≤ i
  gr : w0.grownBy w none
def NmE (w0 w : World) (X B s q : Nat) (p : Po) (ls : Fin 4 → List Int) (ver : Int) : Prop := ∃ F vs, Nm w0 w X B s q p ls ver F vs
theorem Nm.keptN {w0 w w' : World} {X B s q : Nat} {p : Po} {ls : Fin 4 → List Int} {ver : Int} {F : Nat → Prop} {vs : Fin 4 → Value} (h : Nm w0 w X B s q p ls ver F vs) (hg : w.grownBy w' none) : Nm w0 w' X B s q p ls ver F vs :=
  ⟨h.lv.keptN hg, h.pl.keptN hg, h.bF, h.nF, h.nB, grown_trans h.gr hg⟩
theorem Nm.turned {w0 w w' : World} {X B s q P : Nat} {t : Tq} {p p' : Po} {ls ls' : Fin 4 → List Int} {ver ver' : Int} {F : Nat → Prop} {vs : Fin 4 → Value} (h : Nm w0 w X B s q p ls ver F vs) (k : StE w F X B s q P t w' p' ls' ver') : NmE w0 w' X B s q p' ls' ver' := by
  obtain ⟨F', vs', k⟩ := k
  have h0 := h.gr.size
  refine ⟨F', vs', k.lv, k.pl, k.bF, fun i hi => ?_, h.nB, grown_fr h.gr k.fr (fun i hi => ?_)⟩
  · rcases k.oF i hi with e | e
    · exact h.nF i e
    · omega
  · rcases hi with e | e
    · exact h.nF i e
    · exact h.nB i e
theorem Nm.app {w0 w V w8 : World} {X B s q : Nat} {p : Po} {ls : Fin 4 → List Int} {ver : Int} {F : Nat → Prop} {vs : Fin 4 → Value} (h : Nm w0 w X B s q p ls ver F vs) (k : Fin 4) (o : Obj) (hg : V.grownBy w8 (vs k).ownBlock) (hq : Qt (w.alloc o) V) (v8 : Value) (ys : List Int) (ho : Ow w8 0 v8 ys) (hl : ∀ g, v8.ownBlock = some g → (vs k).ownBlock = some g ∨ V.heap.size ≤ g) :
    NmE w0 (w8.setCell ⟨X, k.val + 1, none⟩ v8) X B s q p (upd ls k ys) ver ∧ w8.cell? ⟨X, k.val + 1, none⟩ = some (vs k) ∧ w8.frozen? ⟨X, k.val + 1, none⟩ = false := by
  have h3 := h.lv.app k o hg hq v8 ys ho hl
  have h0 := h.gr.size
  refine ⟨⟨_, _, h3.1, h3.2.1.pl h.pl (fun i hi => h.bF i hi), fun i hi e => ?_, fun i hi => ?_, h.nB, grown_fr h.gr h3.2.1 h.nF⟩, h3.2.2⟩
  · rcases e with e | e
    · exact h.bF i hi e
    · have := bk_low h.pl i hi
      omega
  · rcases hi with e | e
    · exact h.nF i e
    · omega
theorem Nm.start {w0 w : World} {B s q : Nat} {p : Po} (hp : Pl w B s q p) (hb : ∀ i, Bk B s q i → w0.heap.size ≤ i) (hg : w0.grownBy w none) : NmE w0 (w.alloc (.cells (lcell B (fun _ => .slice none 0 0) 0) 42)) w.heap.size B s q p (fun _ => []) 0 := by
  have ga := World.grownBy_alloc w (.cells (lcell B (fun _ => .slice none 0 0) 0) 42) none
  have hs := hg.size
  refine ⟨fun i => i = w.heap.size, fun _ => .slice none 0 0, ⟨heap_alloc_new w _, fun k => Ow.nil _ _, rfl, (fun k g e => (by cases e)), (fun j k g e => (by cases e)), fun i hi => ?_⟩, hp.keptN ga, fun i hi e => ?_, fun i hi => ?_, hb, grown_trans hg ga⟩
  · subst hi
    simp
  · have := bk_low hp i hi
    omega
  · omega
theorem ups_snoc (c : Int) (n : Nat) : ups c n ++ [c + n] = ups c (n + 1) := by
  unfold ups
  rw [List.range_succ, List.map_append]
  rfl
theorem upd_again {T : Type} (f : Fin 4 → T) (k : Fin 4) (v u : T) : upd (upd f k v) k u = upd f k u := by
  funext j
  unfold upd
  split <;> rfl
theorem upd_zero (n : Nat) (h : n = 0) : upd (fun _ => ([] : List Int)) 0 (ups 2 n) = fun _ => [] := by
  subst h
  funext j
  unfold upd
  split <;> rfl
theorem Lt.begin (c k : Int) (h2 : 2 ≤ c) (hc : c ≤ k) (hk : k ≤ 20000) : Lt (newP c k []) (upd (fun _ => []) 0 (ups 2 (c - 2).toNat)) := by
  refine ⟨⟨h2, hc, by show k ≤ _; omega, fun x hx => by cases hx⟩, List.Pairwise.nil, ?_, fun m hm => ?_, rfl, List.nodup_nil, fun x => ?_, ?_⟩
  · rw [upd_same]
    exact ris_nodup (ups_ris _ _)
  · rw [upd_same, mem_ups] at hm
    obtain ⟨i, hi, rfl⟩ := hm
    exact ⟨by omega, by show 2 + (i : Int) < c; omega, rfl⟩
  · show x ∈ ([] : List Int).zip [] ↔ x ∈ ([] : List (Int × Int))
    simp
  · exact Pq.nil
/-- What a life tells at its end. -/
theorem Lt.tell {p : Po} {ls : Fin 4 → List Int} (h : Lt p ls) {j : Nat} (hj : j < (ls 1).length) : (ls 1).getD j 0 ∈ p.l.map (·.1) ∧ decide ((ls 1).getD j 0 ∈ us p) = !pnd (ls 3) ((ls 2).getD j 0) := by
  have hj2 : j < (ls 2).length := by rw [h.len]; exact hj
  have hz : ((ls 1)[j], (ls 2)[j]) ∈ (ls 1).zip (ls 2) := by
    rw [← List.getElem_zip (h := by rw [List.length_zip]; omega)]
    exact List.getElem_mem _
  have hp := (h.mem _).1 hz
  have e1 : (ls 1).getD j 0 = (ls 1)[j] := by simp [List.getD, List.getElem?_eq_getElem hj]
  have e2 : (ls 2).getD j 0 = (ls 2)[j] := by simp [List.getD, List.getElem?_eq_getElem hj2]
  rw [e1, e2]
  refine ⟨List.mem_map.2 ⟨_, hp, rfl⟩, ?_⟩
  rw [Bool.eq_iff_iff, decide_eq_true_eq, mem_us]
  unfold pnd
  rw [Bool.not_eq_true', List.any_eq_false]
  constructor
  · rintro ⟨y, hy, e3, hq⟩ z hz2
    have e4 : y = ((ls 1)[j], (ls 2)[j]) := h.ris.uniq hy hp e3
    obtain ⟨x, hx, rfl⟩ := (h.pq.has z).1 hz2
    have := hq x hx
    rw [e4] at this
    simp only at this
    simp; omega
  · intro hq
    refine ⟨_, hp, rfl, fun z hz2 => ?_⟩
    have := hq z.1 ((h.pq.has z.1).2 ⟨z, hz2, rfl⟩)
    simp at this
    exact this
set_option maxHeartbeats 16000000 in
set_option maxRecDepth 100000 in
theorem never0 {y1 y2 y3 y4 y5 y6 y7 y10 y11 y12 y13 y14 y15 y16 y17 y18 y19 y20 y21 y22 y23 y24 y25 y26 y27 y28 y29 y30 y31 y32 y33 y34 y35 y36 y37 y38 y39 y40 y41 y42 y43 y44 y45 y46 y47 y48 y49 y50 y51 y52 y53 y54 y55 y56 y57 y58 y59 y60 y61 y62 y63 y64 y65 y66 y67 y68 y69 y70 y71 y72 y73 y74 y75 y76 y77 y78 y79 y80 y81 y82 y83 y84 y85 y86 y87 y88 y89 y90 y91 y92 y93 y94 y95 y96 y97 y98 y99 y100 y101 y102 y103 y104 y105 y106 y107 y108 y109 y110 y111 y112 y113 y114 y115 y116 y117 y118 y119 y120 y121 y122 y123 y124 y125 y126 y127 y128 y129 y130 y131 y132 y133 y134 y135 y136 y137 y138 y139 y140 y141 y142 y143 y144 y145 y146 y147 y148 y149 y150 y151 y152 y153 y154 y155 y156 y157 y158 y159 y160 y161 y162 y163 y164 y165 y166 y167 y168 y169 y170 y171 y172 y173 y174 y175 y176 y177 y178 y179 : Value} {w : World} {X B s q : Nat} {p : Po} {c : Int} (h2 : 2 ≤ c) (hc : c ≤ 2000) {wc : World} (HN : Hid (NmE w wc X B s q p (fun _ => []) 0)) {K : Act → World → Prop} {Q' : Exit → Act → World → Prop}
    (hK : ∀ (v9 v47 v48 v49 v50 v51 v52 v53 v54 v55 v56 v57 v58 v59 v60 v61 : Value) (wx : World), (NmE w wx X B s q p (upd (fun _ => []) 0 (ups 2 (c - 2).toNat)) 0) → K ⟨#[.int .i64 c, y1, y2, y3, y4, y5, y6, y7, .pointer (some ⟨X, 0, none⟩), v9, y10, y11, y12, y13, y14, y15, y16, y17, y18, y19, y20, y21, y22, y23, y24, y25, y26, y27, y28, y29, y30, y31, y32, y33, y34, y35, y36, y37, y38, y39, y40, y41, y42, y43, y44, y45, y46, v47, v48, v49, v50, v51, v52, v53, v54, v55, v56, v57, v58, v59, v60, v61, y62, y63, y64, y65, y66, y67, y68, y69, y70, y71, y72, y73, y74, y75, y76, y77, y78, y79, y80, y81, y82, y83, y84, y85, y86, y87, y88, y89, y90, y91, y92, y93, y94, y95, y96, y97, y98, y99, y100, y101, y102, y103, y104, y105, y106, y107, y108, y109, y110, y111, y112, y113, y114, y115, y116, y117, y118, y119, y120, y121, y122, y123, y124, y125, y126, y127, y128, y129, y130, y131, y132, y133, y134, y135, y136, y137, y138, y139, y140, y141, y142, y143, y144, y145, y146, y147, y148, y149, y150, y151, y152, y153, y154, y155, y156, y157, y158, y159, y160, y161, y162, y163, y164, y165, y166, y167, y168, y169, y170, y171, y172, y173, y174, y175, y176, y177, y178, y179], []⟩ wx) :
    Code.wp Try.prog (Go.Code.block 0 (((Go.Code.region 8 #[{ dst := some 47, op := Go.Op.move (Go.Operand.tmp 9), type := 3, pos := "free.go:151", after := #[], guard := none }, { dst := some 48, op := Go.Op.move (Go.Operand.tmp 0), type := 3, pos := "free.go:151", after := #[], guard := none }, { dst := some 49, op := Go.Op.binOp Go.BinOp.lss 3 (Go.Operand.tmp 47) (Go.Operand.tmp 48) 3, type := 4, pos := "free.go:151", after := #[{ on := 0, ground := Go.Ground.data }, { on := 1, ground := Go.Ground.data }], guard := none }] false).seq (Go.Code.cond (Go.Operand.tmp 49) Go.Code.skip (Go.Code.exit 0))).seq ((Go.Code.block 1 (Go.Code.region 10 #[{ dst := some 52, op := Go.Op.move (Go.Operand.tmp 8), type := 39, pos := "free.go:152", after := #[], guard := none }, { dst := some 53, op := Go.Op.move (Go.Operand.tmp 8), type := 39, pos := "free.go:152", after := #[], guard := none }, { dst := some 54, op := Go.Op.nilCheck (Go.Operand.tmp 53), type := 0, pos := "free.go:152", after := #[{ on := 1, ground := Go.Ground.data }], guard := none }, { dst := some 55, op := Go.Op.fieldAddr 42 (Go.Operand.tmp 54) 1, type := 0, pos := "free.go:152", after := #[{ on := 2, ground := Go.Ground.data }], guard := none }, { dst := some 56, op := Go.Op.load 22 (Go.Operand.tmp 55), type := 22, pos := "free.go:152", after := #[{ on := 3, ground := Go.Ground.data }], guard := none }, { dst := some 57, op := Go.Op.move (Go.Operand.tmp 9), type := 3, pos := "free.go:152", after := #[], guard := none }, { dst := some 58, op := Go.Op.buildSlice 22 1 #[(0, Go.Operand.tmp 57)], type := 22, pos := "free.go:152", after := #[{ on := 5, ground := Go.Ground.data }], guard := none }, { dst := some 59, op := Go.Op.call { callee := Go.Callee.builtin Go.Builtin.append, args := #[Go.Operand.tmp 56, Go.Operand.tmp 58], argTypes := #[22, 22] }, type := 22, pos := "free.go:152", after := #[{ on := 4, ground := Go.Ground.data }, { on := 6, ground := Go.Ground.data }], guard := none }, { dst := some 60, op := Go.Op.nilCheck (Go.Operand.tmp 52), type := 0, pos := "free.go:152", after := #[{ on := 0, ground := Go.Ground.data }, { on := 0, ground := Go.Ground.phase }, { on := 1, ground := Go.Ground.phase }, { on := 2, ground := Go.Ground.phase }, { on := 3, ground := Go.Ground.phase }, { on := 4, ground := Go.Ground.phase }, { on := 5, ground := Go.Ground.phase }, { on := 6, ground := Go.Ground.phase }, { on := 7, ground := Go.Ground.phase }], guard := none }, { dst := some 61, op := Go.Op.fieldAddr 42 (Go.Operand.tmp 60) 1, type := 0, pos := "free.go:152", after := #[{ on := 8, ground := Go.Ground.data }, { on := 0, ground := Go.Ground.phase }, { on := 1, ground := Go.Ground.phase }, { on := 2, ground := Go.Ground.phase }, { on := 3, ground := Go.Ground.phase }, { on := 4, ground := Go.Ground.phase }, { on := 5, ground := Go.Ground.phase }, { on := 6, ground := Go.Ground.phase }, { on := 7, ground := Go.Ground.phase }], guard := none }, { dst := none, op := Go.Op.store 22 (Go.Operand.tmp 61) (Go.Operand.tmp 59), type := 0, pos := "free.go:152", after := #[{ on := 9, ground := Go.Ground.data }, { on := 7, ground := Go.Ground.data }, { on := 7, ground := Go.Ground.chain }, { on := 0, ground := Go.Ground.phase }, { on := 1, ground := Go.Ground.phase }, { on := 2, ground := Go.Ground.phase }, { on := 3, ground := Go.Ground.phase }, { on := 4, ground := Go.Ground.phase }, { on := 5, ground := Go.Ground.phase }, { on := 6, ground := Go.Ground.phase }, { on := 7, ground := Go.Ground.phase }], guard := none }] false)).seq (Go.Code.region 9 #[{ dst := some 50, op := Go.Op.move (Go.Operand.tmp 9), type := 3, pos := "free.go:151", after := #[], guard := none }, { dst := some 51, op := Go.Op.binOp Go.BinOp.add 3 (Go.Operand.tmp 50) (Go.Operand.const (Go.Value.int Go.IntKind.i64 1)) 3, type := 3, pos := "free.go:151", after := #[{ on := 0, ground := Go.Ground.data }], guard := none }, { dst := some 9, op := Go.Op.assign (Go.Operand.tmp 51), type := 3, pos := "free.go:151", after := #[{ on := 1, ground := Go.Ground.data }, { on := 0, ground := Go.Ground.phase }, { on := 1, ground := Go.Ground.phase }], guard := none }] false))).loop) (Exit.then K Q') ⟨#[.int .i64 c, y1, y2, y3, y4, y5, y6, y7, .pointer (some ⟨X, 0, none⟩), .int .i64 2, y10, y11, y12, y13, y14, y15, y16, y17, y18, y19, y20, y21, y22, y23, y24, y25, y26, y27, y28, y29, y30, y31, y32, y33, y34, y35, y36, y37, y38, y39, y40, y41, y42, y43, y44, y45, y46, y47, y48, y49, y50, y51, y52, y53, y54, y55, y56, y57, y58, y59, y60, y61, y62, y63, y64, y65, y66, y67, y68, y69, y70, y71, y72, y73, y74, y75, y76, y77, y78, y79, y80, y81, y82, y83, y84, y85, y86, y87, y88, y89, y90, y91, y92, y93, y94, y95, y96, y97, y98, y99, y100, y101, y102, y103, y104, y105, y106, y107, y108, y109, y110, y111, y112, y113, y114, y115, y116, y117, y118, y119, y120, y121, y122, y123, y124, y125, y126, y127, y128, y129, y130, y131, y132, y133, y134, y135, y136, y137, y138, y139, y140, y141, y142, y143, y144, y145, y146, y147, y148, y149, y150, y151, y152, y153, y154, y155, y156, y157, y158, y159, y160, y161, y162, y163, y164, y165, y166, y167, y168, y169, y170, y171, y172, y173, y174, y175, y176, y177, y178, y179], []⟩ wc := by
  have HK := hid_intro hK
  clear hK
  dsimp only
  go_wp2_with fail
  go_loopw [9] (fun si wr => ∃ n : Nat, (n : Int) + 2 ≤ c ∧ si = .int .i64 ((n + 2 : Nat) : Int) ∧ NmE w wr X B s q p (upd (fun _ => []) 0 (ups 2 n)) 0) (fun si _ => (c - zOf si).toNat)
  case atStart => exact ⟨0, by omega, rfl, by rw [upd_zero 0 rfl]; exact HN.out⟩
  case round =>
    obtain ⟨n, hn, rfl, F, vs, hnm⟩ := hrel
    have HM := hid_intro hnm
    clear hnm
    obtain ⟨k, hk⟩ : ∃ k : Nat, k = n + 2 := ⟨_, rfl⟩
    have hk2 : 2 + (n : Int) = (k : Int) := by omega
    rw [← hk]
    have HKN := hid_intro hk
    clear hk
    by_cases hlt : (k : Int) < c
    · obtain ⟨po, pc, ev, pnt, pc1, pc2⟩ := (HM.out.lv.own 0).shape
      have c1 := HM.out.lv.c1
      rw [ev] at c1
      have hl0 : (upd (fun _ => ([] : List Int)) 0 (ups 2 n) 0).length = n := by rw [upd_same]; simp [ups]
      rw [hl0] at c1 ev
      have ga := World.grownBy_alloc wr (.cells #[.int .i64 (k : Int)] 3) none
      have c1a := ga.cell c1 (by simp)
      have HOA : Hid (∀ V : World, V.heap = (wr.alloc (.cells #[.int .i64 (k : Int)] 3)).heap → Ow V 0 (.slice po n pc) (ups 2 n)) := fun V e => by
        have h1 := HM.out.lv.own 0
        rw [ev, upd_same] at h1
        exact own_same (h1.keptN ga) (fun g _ => by rw [e])
      have HNA : Hid (∀ V : World, V.heap = (wr.alloc (.cells #[.int .i64 (k : Int)] 3)).heap → Nt V (some ⟨wr.heap.size, 0, none⟩) [(k : Int)]) := fun V e => (Nt.lit wr 3 #[.int .i64 (k : Int)] [(k : Int)] rfl).heap e
      have HZ : Hid (∀ (V w8 : World) (v8 : Value), V.grownBy w8 (Value.slice po n pc).ownBlock → Qt (wr.alloc (.cells #[.int .i64 (k : Int)] 3)) V → Ow w8 0 v8 (ups 2 n ++ [(k : Int)]) → (∀ g, v8.ownBlock = some g → (Value.slice po n pc).ownBlock = some g ∨ V.heap.size ≤ g) → NmE w (w8.setCell ⟨X, 1, none⟩ v8) X B s q p (upd (fun _ => []) 0 (ups 2 (n + 1))) 0 ∧ w8.cell? ⟨X, 1, none⟩ = some (.slice po n pc) ∧ w8.frozen? ⟨X, 1, none⟩ = false) := fun V w8 v8 hg hq ho hl => by
        rw [← ev] at hg hl ⊢
        have h3 := HM.out.app 0 _ hg hq v8 _ ho hl
        rw [← hk2, ups_snoc, upd_again] at h3
        exact h3
      have HLN : Hid ((ups 2 n).length + 1 ≤ 2000000) := by show _ ≤ _; rw [show (ups 2 n).length = n by simp [ups]]; omega
      clear ga ev pnt pc1 HM hk2 hl0
      go_wp2_with (at_builtin; go_loud (refine app17 rfl _ _ rfl 0 (.slice po n pc) (ups 2 n) rfl (HOA.out _ rfl) (some ⟨wr.heap.size, 0, none⟩) 1 1 rfl [(k : Int)] (HNA.out _ rfl) rfl (by simp) HLN.out (Nat.zero_le _) ?_); intro v8 w8 ho8 hg8 hl8; have Z8 := HZ.out _ w8 v8 hg8 ⟨rfl, rfl, rfl, rfl⟩ ho8 hl8; obtain ⟨va, vn, vc, hv8⟩ := owns_shape7 ho8; clear ho8 hg8 hl8; subst hv8; have c18 := Z8.2.1; have f18 := Z8.2.2; have ZZ := hid_intro Z8.1; clear Z8)
      go_wp2_with fail
      go_roundw
      case rel => exact ⟨n + 1, by have := HKN.out; omega, by rw [HKN.out]; go_num, ZZ.out⟩
      case measure => have := HKN.out; simp [zOf]; omega
    · have hnn : n = (c - 2).toNat := by have := HKN.out; omega
      have HNN := hid_intro hnn
      clear hnn
      clear hk2
      go_wp2_with fail
      refine HK.out _ _ _ _ _ _ _ _ _ _ _ _ _ _ _ _ _ ?_
      rw [← HNN.out]
      exact ⟨_, _, HM.out⟩

end Go.Proofs.Ytpoflmcmlnghhaa
