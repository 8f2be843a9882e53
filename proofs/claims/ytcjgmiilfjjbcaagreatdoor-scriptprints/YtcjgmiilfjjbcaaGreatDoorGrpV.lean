import Derived.Test.YtcjgmiilfjjbcaaGreatDoorSp6
namespace Go.Proofs.YtcjgmiilfjjbcaaGreatDoor
open Go.RowKit

theorem Ow.neM {w : World} {g c M : Nat} {zs : List Int} {cs : Array Value} (h : Ow w g c zs) (k : w.heap[M]? = some (.cells cs 35 (0, 0))) : g ≠ M := by
  rintro rfl
  obtain ⟨cur, h1, _⟩ := h.ex
  rw [h1] at k
  have e := Option.some.inj k
  injection e with _ e2 _
  exact absurd e2 (by decide)
/-- One step that was lent: its lists, each in a block of its own, a mark behind it; the blocks of bytes rise. -/
structure LnQ (w : World) (cur : Array Value) (p lo hi : Nat) (o : Opq) (g1 c1 g2 c2 g3 c3 g4 c4 : Nat) : Prop where
  k1 : cur[p + 4]? = some (.slice (some ⟨g1, 0, none⟩) o.key.length c1)
  k2 : cur[p + 5]? = some (.slice (some ⟨g2, 0, none⟩) o.val.length c2)
  k3 : cur[p + 6]? = some (.slice (some ⟨g3, 0, none⟩) o.hi.length c3)
  k4 : cur[p + 7]? = some (.slice (some ⟨g4, 0, none⟩) o.f.length c4)
  o1 : Ow w g1 c1 (o.key ++ [201])
  o2 : Ow w g2 c2 (o.val ++ [201])
  o3 : Ow w g3 c3 (o.hi ++ [201])
  o4 : w.ownsRow lo 43 2 (.slice (some ⟨g4, 0, none⟩) (o.f.length + 1) c4) (o.f.length + 1) (fcl o.f ++ [.int .i64 201, .int .i64 0])
  b1 : lo ≤ g1
  b2 : g1 < g2
  b3 : g2 < g3
  b4 : g3 < hi
def LnO (w : World) (cur : Array Value) (p lo hi : Nat) (o : Opq) : Prop := ∃ g1 c1 g2 c2 g3 c3 g4 c4, LnQ w cur p lo hi o g1 c1 g2 c2 g3 c3 g4 c4
theorem LnO.kept {w w' : World} {cur cur' cs : Array Value} {p lo hi M : Nat} {o : Opq} (h : LnO w cur p lo hi o) (k : w.heap[M]? = some (.cells cs 35 (0, 0))) (hg : w.grownBy w' (some M)) (hc : ∀ q, p + 4 ≤ q → q < p + 8 → cur'[q]? = cur[q]?) : LnO w' cur' p lo hi o := by
  obtain ⟨g1, c1, g2, c2, g3, c3, g4, c4, q⟩ := h
  have n1 := q.o1.neM k
  have n2 := q.o2.neM k
  have n3 := q.o3.neM k
  exact ⟨g1, c1, g2, c2, g3, c3, g4, c4, (hc _ (by omega) (by omega)).trans q.k1, (hc _ (by omega) (by omega)).trans q.k2, (hc _ (by omega) (by omega)).trans q.k3, (hc _ (by omega) (by omega)).trans q.k4,
    q.o1.kept hg (fun e => n1 (Option.some.inj e)), q.o2.kept hg (fun e => n2 (Option.some.inj e)), q.o3.kept hg (fun e => n3 (Option.some.inj e)), OpI.own q.o4 k (by decide) hg, q.b1, q.b2, q.b3, q.b4⟩
theorem LnO.keptN {w w' : World} {cur : Array Value} {p lo hi : Nat} {o : Opq} (h : LnO w cur p lo hi o) (hg : w.grownBy w' none) : LnO w' cur p lo hi o := by
  obtain ⟨g1, c1, g2, c2, g3, c3, g4, c4, q⟩ := h
  exact ⟨g1, c1, g2, c2, g3, c3, g4, c4, q.k1, q.k2, q.k3, q.k4, q.o1.keptN hg, q.o2.keptN hg, q.o3.keptN hg, own_keptD q.o4 hg, q.b1, q.b2, q.b3, q.b4⟩
/-- A script's steps as lent leaves them after k rounds: row M, the mark behind it. -/
structure Lnt (w : World) (B M mc : Nat) (cur : Array Value) (bd : Nat → Nat) (l : List Opq) (k : Nat) : Prop where
  row : w.heap[M]? = some (.cells cur 35 (0, 0))
  size : cur.size = mc * 8
  cap : l.length + 1 ≤ mc
  top : mc ≤ 9223372036854775807
  ints : ∀ j o, l[j]? = some o → cur[j * 8]? = some (.int .i64 o.k) ∧ cur[j * 8 + 1]? = some (.int .i64 o.a) ∧ cur[j * 8 + 2]? = some (.int .i64 o.b) ∧ cur[j * 8 + 3]? = some (.int .i64 o.c)
  mark : cur[l.length * 8]? = some (.int .i64 201)
  el : ∀ j o, j < k → l[j]? = some o → LnO w cur (j * 8) (bd j) (bd (j + 1)) o
  mono : ∀ j, j < k → bd j ≤ bd (j + 1)
  lo : B ≤ bd 0
  hi : bd k ≤ w.heap.size
  new : B ≤ M
theorem Lnt.keptN {w w' : World} {B M mc k : Nat} {cur : Array Value} {bd : Nat → Nat} {l : List Opq} (h : Lnt w B M mc cur bd l k) (hg : w.grownBy w' none) : Lnt w' B M mc cur bd l k :=
  ⟨heap_keptS h.row hg, h.size, h.cap, h.top, h.ints, h.mark, fun j o hj ho => (h.el j o hj ho).keptN hg, h.mono, h.lo, Nat.le_trans h.hi hg.size, h.new⟩
theorem grown_rows23 {a b c : World} {row : Option Nat} (h : a.grownBy b row) (k : b.grownBy c row) : a.grownBy c row :=
  ⟨k.os.trans h.os, k.tape.trans h.tape, k.output.trans h.output, Nat.le_trans h.size k.size, fun g hg hr => (k.block g (Nat.lt_of_lt_of_le hg h.size) hr).trans (h.block g hg hr)⟩
theorem Lnt.round {wr w5 w6 w7 w8 : World} {B M mc k G1 c1 G2 c2 G3 c3 G4 c4 : Nat} {cur cur1 cur2 cur3 : Array Value} {bd : Nat → Nat} {l : List Opq} {o : Opq} (h : Lnt wr B M mc cur bd l k) (ho : l[k]? = some o)
    (e1 : cur1 = cur.setIfInBounds (k * 8 + 4) (.slice (some ⟨G1, 0, none⟩) o.key.length c1)) (e2 : cur2 = cur1.setIfInBounds (k * 8 + 5) (.slice (some ⟨G2, 0, none⟩) o.val.length c2)) (e3 : cur3 = cur2.setIfInBounds (k * 8 + 6) (.slice (some ⟨G3, 0, none⟩) o.hi.length c3))
    (p5 : LsP wr w5 M (k * 8 + 4) cur o.key o.key.length G1 c1) (p6 : LsP w5 w6 M (k * 8 + 5) cur1 o.val o.val.length G2 c2) (p7 : LsP w6 w7 M (k * 8 + 6) cur2 o.hi o.hi.length G3 c3) (p8 : LfP w7 w8 M (k * 8 + 7) cur3 o.f o.f.length G4 c4) :
    wr.grownBy w8 (some M) ∧ ∃ cur' bd', Lnt w8 B M mc cur' bd' l (k + 1) := by
  have hk := (List.getElem?_eq_some_iff.1 ho).1
  have g68 := grown_rows23 p7.gr p8.gr
  have g58 := grown_rows23 p6.gr g68
  have g08 := grown_rows23 p5.gr g58
  have hs := h.size
  have hcp := h.cap
  refine ⟨g08, cur3.setIfInBounds (k * 8 + 7) (.slice (some ⟨G4, 0, none⟩) o.f.length c4), fun j => if j ≤ k then bd j else w8.heap.size, ?_⟩
  have hq : ∀ q, (q < k * 8 + 4 ∨ k * 8 + 8 ≤ q) → (cur3.setIfInBounds (k * 8 + 7) (.slice (some ⟨G4, 0, none⟩) o.f.length c4))[q]? = cur[q]? := by
    intro q hq
    rw [Array.getElem?_setIfInBounds_ne (by omega), e3, Array.getElem?_setIfInBounds_ne (by omega), e2, Array.getElem?_setIfInBounds_ne (by omega), e1, Array.getElem?_setIfInBounds_ne (by omega)]
  have z1 : cur1.size = mc * 8 := by rw [e1]; simpa using hs
  have z2 : cur2.size = mc * 8 := by rw [e2]; simpa using z1
  have z3 : cur3.size = mc * 8 := by rw [e3]; simpa using z2
  have r5 := p5.row
  rw [← e1] at r5
  have r6 := p6.row
  rw [← e2] at r6
  have r7 := p7.row
  rw [← e3] at r7
  have n1 := p5.ow.neM r5
  have n2 := p6.ow.neM r6
  have n3 := p7.ow.neM r7
  have l1 := p5.ow.lt
  have l2 := p6.ow.lt
  have l3 := p7.ow.lt
  have t1 := p5.new
  have t2 := p6.new
  have t3 := p7.new
  have y5 := p5.gr.size
  have y6 := p6.gr.size
  have y7 := p7.gr.size
  have y8 := p8.gr.size
  have hh := h.hi
  refine ⟨p8.row, by simpa using z3, h.cap, h.top, fun j o' hj => ?_, ?_, fun j o' hj ho' => ?_, fun j hj => ?_, ?_, ?_, h.new⟩
  · obtain ⟨a1, a2, a3, a4⟩ := h.ints j o' hj
    have : ∀ q, j * 8 ≤ q → q < j * 8 + 4 → q < k * 8 + 4 ∨ k * 8 + 8 ≤ q := by omega
    exact ⟨(hq _ (this _ (by omega) (by omega))).trans a1, (hq _ (this _ (by omega) (by omega))).trans a2, (hq _ (this _ (by omega) (by omega))).trans a3, (hq _ (this _ (by omega) (by omega))).trans a4⟩
  · exact (hq _ (by omega)).trans h.mark
  · by_cases hjk : j < k
    · have e := (h.el j o' hjk ho').kept h.row g08 (cur' := cur3.setIfInBounds (k * 8 + 7) (.slice (some ⟨G4, 0, none⟩) o.f.length c4)) (fun q _ _ => hq q (by omega))
      simp only [show j ≤ k by omega, show j + 1 ≤ k by omega, if_true]
      exact e
    · obtain rfl : j = k := by omega
      obtain rfl : o = o' := Option.some.inj (ho.symm.trans ho')
      simp only [Nat.le_refl, if_true, show ¬ (j + 1 ≤ j) by omega, if_false]
      refine ⟨G1, c1, G2, c2, G3, c3, G4, c4, ?_, ?_, ?_, ?_, p5.ow.kept g58 (fun e => n1 (Option.some.inj e)), p6.ow.kept g68 (fun e => n2 (Option.some.inj e)), p7.ow.kept p8.gr (fun e => n3 (Option.some.inj e)), own_low p8.ow (by omega), by omega, by omega, by omega, by omega⟩
      · rw [Array.getElem?_setIfInBounds_ne (by omega), e3, Array.getElem?_setIfInBounds_ne (by omega), e2, Array.getElem?_setIfInBounds_ne (by omega), e1, Array.getElem?_setIfInBounds_self_of_lt (by omega)]
      · rw [Array.getElem?_setIfInBounds_ne (by omega), e3, Array.getElem?_setIfInBounds_ne (by omega), e2, Array.getElem?_setIfInBounds_self_of_lt (by omega)]
      · rw [Array.getElem?_setIfInBounds_ne (by omega), e3, Array.getElem?_setIfInBounds_self_of_lt (by omega)]
      · rw [Array.getElem?_setIfInBounds_self_of_lt (by omega)]
  · by_cases hjk : j < k
    · simp only [show j ≤ k by omega, show j + 1 ≤ k by omega, if_true]
      exact h.mono j hjk
    · obtain rfl : j = k := by omega
      simp only [Nat.le_refl, if_true, show ¬ (j + 1 ≤ j) by omega, if_false]
      omega
  · simp only [Nat.zero_le, if_true]
    exact h.lo
  · simp only [show ¬ (k + 1 ≤ k) by omega, if_false]
    exact Nat.le_refl _
end Go.Proofs.YtcjgmiilfjjbcaaGreatDoor

namespace Go.Proofs.YtcjgmiilfjjbcaaGreatDoor
open Go.RowKit

theorem Lnt.begin {w : World} {B n : Nat} {v : Value} {xs : List Value} {l : List Opq} (hl : l.length = n) (ho : w.ownsRow B 35 8 v (n + 1) (xs ++ [.int .i64 201, .int .i64 0, .int .i64 0, .int .i64 0, .slice none 0 0, .slice none 0 0, .slice none 0 0, .slice none 0 0])) (hx : OpL w B xs l) (hB : B ≤ w.heap.size) :
    ∃ M mc cur, v = .slice (some ⟨M, 0, none⟩) (n + 1) mc ∧ Lnt w B M mc cur (fun _ => B) l 0 := by
  rcases ho.2 with ⟨_, h0⟩ | ⟨g, cap, cur, hv, hb, hg, hc, hm, hs, ht⟩
  · omega
  · refine ⟨g, cap, cur, hv, hg, hs, by omega, by unfold maxLen at hm; omega, fun j o hj => ?_, ?_, fun j o hj => absurd hj (by omega), fun j hj => absurd hj (by omega), Nat.le_refl _, hB, hb⟩
    · obtain ⟨kv, vv, hv', fv, h1, _⟩ := hx.el j o hj
      have hjl := (List.getElem?_eq_some_iff.1 hj).1
      have hxl := hx.len
      have e : ∀ q u, q < 8 → xs[j * 8 + q]? = some u → cur[j * 8 + q]? = some u := by
        intro q u hq hu
        have : (cur.toList.take ((n + 1) * 8))[j * 8 + q]? = some u := by rw [ht, List.getElem?_append_left (by omega)]; exact hu
        rw [List.getElem?_take, if_pos (by omega), Array.getElem?_toList] at this
        exact this
      exact ⟨e 0 _ (by omega) (h1 0 _ rfl), e 1 _ (by omega) (h1 1 _ rfl), e 2 _ (by omega) (h1 2 _ rfl), e 3 _ (by omega) (h1 3 _ rfl)⟩
    · have hxl := hx.len
      have : (cur.toList.take ((n + 1) * 8))[l.length * 8]? = some (.int .i64 201) := by rw [ht, List.getElem?_append_right (by omega), hxl, Nat.sub_self]; rfl
      rw [List.getElem?_take, if_pos (by omega), Array.getElem?_toList] at this
      exact this
/-- What lent answers. -/
def LtP (w : World) (l : List Opq) (n : Nat) (en : Ending) (w' : World) : Prop := ∃ M mc cur bd, en = .returned (.slice (some ⟨M, 0, none⟩) n mc) ∧ w.grownBy w' none ∧ Lnt w' w.heap.size M mc cur bd l n
set_option maxHeartbeats 8000000 in
set_option maxRecDepth 100000 in
theorem lent23 (ao : Option Addr) (n cap : Nat) (l : List Opq) (w : World) (hR : OpsR w ao l) (hl : l.length = n) (hF : FitP l) :
    Calls Tryz.prog 7 #[.slice ao n cap] w fun en w' => LtP w l n en w' := by
  obtain ⟨ip, hip, hp0, hp1, hp2⟩ := info_parts info_aopS
  have HR := hid_intro hR
  have HL := hid_intro hl
  have hn : n ≤ 3000 := by have := hF.len; omega
  have HF := hid_intro hF
  have HFE := hid_intro hF.el
  clear hR hl hF
  go_enter Tryz.func7, Tryz.ntmps7
  go_wp2_with fail
  refine (refOps23 ao n cap l w HR.out HL.out HF.out).mono ?_
  rintro en w1 ⟨a1, c1, xs, rfl, hown1, hol1, hg1⟩
  have O1 := hid_intro hown1
  have L1 := hid_intro hol1
  have G1 := hid_intro hg1
  clear hown1 hol1 hg1
  have hs1 : w.heap.size ≤ w1.heap.size := G1.out.size
  go_wp2_with (at_builtin; refine wpList_append_own _ rfl _ _ 22 rfl w.heap.size 35 ip (.agg #[.int .i64 0, .int .i64 0, .int .i64 0, .int .i64 0, .slice none 0 0, .slice none 0 0, .slice none 0 0, .slice none 0 0]) 8 128 Tryz.underlying22 hip hp0 hp1 hp2 rfl (by decide) _ _ _ rfl (O1.out.alloc _) ⟨w1.heap.size, 0, none⟩ 1 1 [.int .i64 201, .int .i64 0, .int .i64 0, .int .i64 0, .slice none 0 0, .slice none 0 0, .slice none 0 0, .slice none 0 0] rfl rfl (by exact fun j u hj => cells_new w1 35 #[.int .i64 201, .int .i64 0, .int .i64 0, .int .i64 0, .slice none 0 0, .slice none 0 0, .slice none 0 0, .slice none 0 0] j u hj) (by intro u hu; simp only [List.mem_cons, List.not_mem_nil, or_false] at hu; rcases hu with rfl | rfl | rfl | rfl | rfl | rfl | rfl | rfl <;> rfl) (by unfold maxLen; omega) (by omega) (by simp; omega) ?_)
  intro v2 w2 ho2 hg2 _
  have ga := World.grownBy_alloc w1 (.cells #[.int .i64 201, .int .i64 0, .int .i64 0, .int .i64 0, .slice none 0 0, .slice none 0 0, .slice none 0 0, .slice none 0 0] 35) none
  have G2 := hid_intro (grown_app20 G1.out O1.out (Nat.le_refl _) hg2)
  have hl2 := (L1.out.keptN ga).own (own_keptD O1.out ga) (by decide) (by decide) hg2
  obtain ⟨M, mc, cur, rfl, hl3⟩ := Lnt.begin HL.out ho2 hl2 G2.out.size
  have hM : w.heap.size ≤ M := hl3.new
  have hmc1 : n + 1 ≤ mc := by have := hl3.cap; have := HL.out; omega
  have hmc2 := hl3.top
  have N2 := hid_intro hl3
  clear ga ho2 hg2 hl2 hl3 O1 L1 G1
  go_wp2_with fail
  go_loopw [4] (fun si wr => ∃ (k : Nat) (cur : Array Value) (bd : Nat → Nat), k ≤ n ∧ si = .int .i64 (k : Int) ∧ Lnt wr w.heap.size M mc cur bd l k ∧ w.grownBy wr none) (fun si _ => n - (intOf si).toNat)
  case atStart => exact ⟨0, _, _, Nat.zero_le _, rfl, N2.out, G2.out⟩
  case round =>
    obtain ⟨k, cur, bd, hk, rfl, hN, hg⟩ := hrel
    have HG := hid_intro hg
    have HN := hid_intro hN
    clear hg hN N2 G2
    by_cases hlt : k < n
    · have hlt' : (k : Int) < (n : Int) := by omega
      have hk0 : (0 : Int) ≤ (k : Int) := by omega
      have wk : IntKind.i64.wrap ((k : Int) + 1) = (k : Int) + 1 := wrap_small _ (by omega) (by omega)
      obtain ⟨o, ho⟩ : ∃ o, l[k]? = some o := ⟨_, List.getElem?_eq_getElem (by have := HL.out; omega)⟩
      obtain ⟨g, off, ka, kc, va, vc, ha, hc, fa, fc, eao, hcells, hop⟩ := HR.out k o ho
      subst eao
      have d4 : w.cell? ⟨g, off + k * 8 + 4, none⟩ = some (.slice ka o.key.length kc) := hcells 4 _ rfl
      have d5 : w.cell? ⟨g, off + k * 8 + 5, none⟩ = some (.slice va o.val.length vc) := hcells 5 _ rfl
      have d6 : w.cell? ⟨g, off + k * 8 + 6, none⟩ = some (.slice ha o.hi.length hc) := hcells 6 _ rfl
      have d7 : w.cell? ⟨g, off + k * 8 + 7, none⟩ = some (.slice fa o.f.length fc) := hcells 7 _ rfl
      obtain ⟨b1, b2, b3, b4⟩ := HFE.out o (List.mem_of_getElem? ho)
      have hgM : g ≠ M := by have := cell_lt23 d4; omega
      have hsz := HN.out.size
      have hln := HL.out
      clear hcells
      have hp : ∀ q, q < 8 → k * 8 + q < mc * 8 := by omega
      go_upto_region 5 with fail
      refine lent_r5 (cell_keptS d4 HG.out) (hop.key.keptN HG.out) b1 HN.out.row ⟨_, Array.getElem?_eq_getElem (by have := hp 4 (by omega); omega)⟩ hgM hlt ?_
      intro v16 v17 v18 v19 v20 v21 v22 v23 v24 v25 v26 v27 v28 v29 v30 v31 v32 v33 v34 w5 g1 c1 p5
      have G5 := hid_intro (grown_new HG.out p5.gr hM)
      obtain ⟨cur1, e1⟩ : ∃ c, c = cur.setIfInBounds (k * 8 + 4) (.slice (some ⟨g1, 0, none⟩) o.key.length c1) := ⟨_, rfl⟩
      have r5 := p5.row
      rw [← e1] at r5
      have z5 : cur1.size = mc * 8 := by rw [e1]; simpa using hsz
      apply_assumption
      go_upto_region 6 with fail
      refine lent_r6 (cell_keptS d5 G5.out) (hop.val.keptN G5.out) b2 r5 ⟨_, Array.getElem?_eq_getElem (by have := hp 5 (by omega); omega)⟩ hgM hlt ?_
      intro v35 v36 v37 v38 v39 v40 v41 v42 v43 v44 v45 v46 v47 v48 v49 v50 v51 v52 v53 w6 g2 c2 p6
      have G6 := hid_intro (grown_new G5.out p6.gr hM)
      obtain ⟨cur2, e2⟩ : ∃ c, c = cur1.setIfInBounds (k * 8 + 5) (.slice (some ⟨g2, 0, none⟩) o.val.length c2) := ⟨_, rfl⟩
      have r6 := p6.row
      rw [← e2] at r6
      have z6 : cur2.size = mc * 8 := by rw [e2]; simpa using z5
      apply_assumption
      go_upto_region 7 with fail
      refine lent_r7 (cell_keptS d6 G6.out) (hop.hi.keptN G6.out) b3 r6 ⟨_, Array.getElem?_eq_getElem (by have := hp 6 (by omega); omega)⟩ hgM hlt ?_
      intro v54 v55 v56 v57 v58 v59 v60 v61 v62 v63 v64 v65 v66 v67 v68 v69 v70 v71 v72 w7 g3 c3 p7
      have G7 := hid_intro (grown_new G6.out p7.gr hM)
      obtain ⟨cur3, e3⟩ : ∃ c, c = cur2.setIfInBounds (k * 8 + 6) (.slice (some ⟨g3, 0, none⟩) o.hi.length c3) := ⟨_, rfl⟩
      have r7 := p7.row
      rw [← e3] at r7
      have z7 : cur3.size = mc * 8 := by rw [e3]; simpa using z6
      apply_assumption
      go_upto_region 8 with fail
      refine lent_r8 (cell_keptS d7 G7.out) (hop.f.keptN G7.out) rfl b4 r7 ⟨_, Array.getElem?_eq_getElem (by have := hp 7 (by omega); omega)⟩ hgM hlt ?_
      intro v73 v74 v75 v76 v77 v78 v79 v80 v81 v82 v83 v84 v85 v86 v87 v88 v89 v90 v91 v92 w8 g4 c4 p8
      have hr := HN.out.round ho e1 e2 e3 p5 p6 p7 p8
      have G8 := hid_intro (grown_new HG.out hr.1 hM)
      obtain ⟨cur', bd', hN8⟩ := hr.2
      have N8 := hid_intro hN8
      clear hr hN8 p5 p6 p7 p8 e1 e2 e3 r5 r6 r7 z5 z6 z7 G5 G6 G7 d4 d5 d6 d7 HN HG
      simp only [Exit.inBlock, Exit.then]
      apply_assumption
      go_wp2
      go_roundw
      case rel => exact ⟨k + 1, _, _, by omega, by go_num, N8.out, G8.out⟩
      case measure => simp [intOf]; omega
    · obtain rfl : k = n := by omega
      have q1 : (k : Int) ≤ (mc : Int) := by omega
      have q2 : (0 : Int) ≤ (k : Int) := by omega
      go_wp2
      go_ret
      exact ⟨M, mc, cur, bd, rfl, HG.out, HN.out⟩
end Go.Proofs.YtcjgmiilfjjbcaaGreatDoor

namespace Go.Proofs.YtcjgmiilfjjbcaaGreatDoor
open Go.RowKit

theorem FitP.fnw23 {l : List Opq} (h : FitP l) : Fnw l := fun o ho => by have := (h.el o ho).2.2.2; omega
theorem ow_mark23 {w : World} {g c n : Nat} {zs : List Int} (h : Ow w g c (zs ++ [201])) (hn : zs.length = n) : w.cell? ⟨g, n, none⟩ = some (.int .u8 201) ∧ n + 1 ≤ c ∧ c ≤ 9223372036854775807 := by
  have e := h.cell (j := n) (by simp; omega)
  have l := h.le
  simp at l
  refine ⟨?_, by omega, h.max⟩
  rw [e]
  subst hn
  simp [List.getD]
set_option maxHeartbeats 2000000 in
theorem mark23 (g n c : Nat) (zs : List Int) (w : World) (h : Ow w g c (zs ++ [201])) (hn : zs.length = n) : Calls Tryz.prog 35 #[.slice (some ⟨g, 0, none⟩) n c] w fun en w' => en = .returned (.bool true) ∧ w.grownBy w' none := by
  obtain ⟨h1, h2, h3⟩ := ow_mark23 h hn
  have e1 : (n : Int) + 1 ≤ (c : Int) := by omega
  have e2 : (0 : Int) ≤ (n : Int) + 1 := by omega
  have e3 : (n : Int) < (n : Int) + 1 := by omega
  have e4 : (0 : Int) ≤ (n : Int) := by omega
  have w1 : IntKind.i64.wrap ((n : Int) + 1) = (n : Int) + 1 := wrap_small _ (by omega) (by omega)
  have t1 : ((n : Int) + 1).toNat = n + 1 := by omega
  go_enter Tryz.func35, Tryz.ntmps35
  go_wp2
  go_ret
  exact ⟨rfl, World.grownBy.refl _ _⟩
theorem FtR.part23 {w : World} {a : Option Addr} {l m : List (Int × Int)} (h : FtR w a (l ++ m)) : FtR w a l := fun i p hp => h i p (by rw [List.getElem?_append_left (List.getElem?_eq_some_iff.1 hp).1]; exact hp)
theorem LnQ.opr {w : World} {cur : Array Value} {p lo hi g1 c1 g2 c2 g3 c3 g4 c4 : Nat} {o : Opq} (q : LnQ w cur p lo hi o g1 c1 g2 c2 g3 c3 g4 c4) (hb : Bt o.key ∧ Bt o.val ∧ Bt o.hi) : OpR w o (some ⟨g1, 0, none⟩) c1 (some ⟨g2, 0, none⟩) c2 (some ⟨g3, 0, none⟩) c3 (some ⟨g4, 0, none⟩) c4 := by
  have h4 := q.o4
  rw [show fcl o.f ++ [Value.int .i64 201, .int .i64 0] = fcl (o.f ++ [(201, 0)]) by rw [fcl_app]; rfl] at h4
  exact ⟨q.o1.part.byt _ rfl, q.o2.part.byt _ rfl, q.o3.part.byt _ rfl, (ftr_own h4).part23, hb.1, hb.2.1, hb.2.2⟩
/-- The lists of every step are bytes. -/
def Bts (l : List Opq) : Prop := ∀ (j : Nat) o, l[j]? = some o → Bt o.key ∧ Bt o.val ∧ Bt o.hi
theorem OpsR.bts {w : World} {ao : Option Addr} {l : List Opq} (h : OpsR w ao l) : Bts l := fun j o ho => by
  obtain ⟨g, off, ka, kc, va, vc, ha, hc, fa, fc, _, _, h3⟩ := h j o ho
  exact ⟨h3.bk, h3.bv, h3.bh⟩
theorem Lnt.opsR {w : World} {B M mc n : Nat} {cur : Array Value} {bd : Nat → Nat} {l : List Opq} (h : Lnt w B M mc cur bd l n) (hl : l.length = n) (hb : Bts l) : OpsR w (some ⟨M, 0, none⟩) l := by
  intro j o ho
  have hj := (List.getElem?_eq_some_iff.1 ho).1
  obtain ⟨g1, c1, g2, c2, g3, c3, g4, c4, q⟩ := h.el j o (by omega) ho
  obtain ⟨i1, i2, i3, i4⟩ := h.ints j o ho
  refine ⟨M, 0, _, c1, _, c2, _, c3, _, c4, rfl, fun x u hu => ?_, q.opr (hb j o ho)⟩
  rw [Nat.zero_add]
  refine cell_heapS h.row ?_
  have hx := (List.getElem?_eq_some_iff.1 hu).1
  simp only [List.length_cons, List.length_nil] at hx
  rcases (by omega : x = 0 ∨ x = 1 ∨ x = 2 ∨ x = 3 ∨ x = 4 ∨ x = 5 ∨ x = 6 ∨ x = 7) with rfl | rfl | rfl | rfl | rfl | rfl | rfl | rfl
  · exact i1.trans hu
  · exact i2.trans hu
  · exact i3.trans hu
  · exact i4.trans hu
  · exact q.k1.trans hu
  · exact q.k2.trans hu
  · exact q.k3.trans hu
  · exact q.k4.trans hu
theorem LnQ.fate {w : World} {cur : Array Value} {p lo hi g1 c1 g2 c2 g3 c3 g4 c4 : Nat} {o : Opq} (q : LnQ w cur p lo hi o g1 c1 g2 c2 g3 c3 g4 c4) : w.cell? ⟨g4, o.f.length * 2, none⟩ = some (.int .i64 201) ∧ o.f.length + 1 ≤ c4 ∧ c4 ≤ 9223372036854775807 := by
  have h4 := q.o4
  rw [show fcl o.f ++ [Value.int .i64 201, .int .i64 0] = fcl (o.f ++ [(201, 0)]) by rw [fcl_app]; rfl] at h4
  obtain ⟨g, off, e1, e2, _⟩ := ftr_own h4 o.f.length (201, 0) (by simp)
  simp only [Option.some.injEq, Addr.mk.injEq] at e1
  obtain ⟨rfl, rfl, _⟩ := e1
  rw [Nat.zero_add] at e2
  refine ⟨e2, ?_⟩
  rcases h4.2 with ⟨e, _⟩ | ⟨g', cap', cur', hv, _, _, hc, hm, _⟩
  · cases e
  · injection hv with _ _ e3
    unfold maxLen at hm
    omega
end Go.Proofs.YtcjgmiilfjjbcaaGreatDoor
