import Derived.Test.YtioleabkbkmggaaDoorDuP
namespace Go.Proofs.YtioleabkbkmggaaDoor
open Go.RowKit

theorem ret_pair20 {fn : Func} {p : Tmp} (h : fn.results = #[.cell p 44]) (tmps : Array Value) (w : World) (g : Nat) (x y : Value) (hp : tmps.getD p undef = .pointer (some ⟨g, 0, none⟩)) (hr : w.heap[g]? = some (.cells #[x, y] 44 (0, 0))) :
    (results fn tmps).run Tryd.prog w = .ok (.agg #[x, y]) w := by
  have hp' : tmps[p]?.getD undef = .pointer (some ⟨g, 0, none⟩) := by simpa using hp
  simp [results, h, hp', asAddr, run_loadVar_row w g 44 44 #[x, y] (0, 0) _ hr Tryd.underlying44 rfl (by rw [size_pairD]; rfl)]
theorem heap_keptN {w w' : World} {g : Nat} {o : Obj} (hg : w.grownBy w' none) (h : w.heap[g]? = some o) : w'.heap[g]? = some o := by
  rw [hg.block g (Array.getElem?_eq_some_iff.1 h).1 (by simp)]; exact h
theorem grown_one20 {x y : World} (h : x.drew.grownBy y none) : x.grownBy y none := ⟨h.os, h.tape, h.output, h.size, h.block⟩
/-- What Pair answers. -/
def PairP (w : World) (k v : List Int) (en : Ending) (w' : World) : Prop := ∃ ao c bo d, en = .returned (.agg #[.slice ao k.length c, .slice bo v.length d]) ∧ w.grownBy w' none ∧ w'.ownsRow w.heap.size 5 1 (.slice ao k.length c) k.length (k.map (Value.int .u8)) ∧ w'.ownsRow w.heap.size 5 1 (.slice bo v.length d) v.length (v.map (Value.int .u8))
theorem gc2 {w : World} {U b o : Nat} {v0 v1 v : Value} (hne : b ≠ U) (h : w.cell? ⟨b, o, none⟩ = some v) : ((w.setCell ⟨U, 0, none⟩ v0).setCell ⟨U, 1, none⟩ v1).cell? ⟨b, o, none⟩ = some v :=
  (grown_transD (grown_cellD w U 0 v0) (grown_cellD _ U 1 v1)).cell h (fun e => hne (Option.some.inj e))
set_option maxHeartbeats 2000000 in
set_option maxRecDepth 100000 in
theorem refPair20 (ao bo : Option Addr) (n c m d : Nat) (k v : List Int) (w : World) (hk : Byt w ao n c k) (hv : Byt w bo m d v) (hn : n ≤ 100000000) (hm : m ≤ 100000000) :
    Calls Tryd.prog 36 #[.agg #[.slice ao n c, .slice bo m d]] w fun en w' => PairP w k v en w' := by
  have ga := World.grownBy_alloc w (.cells #[.slice ao n c, .slice bo m d] 44) none
  have gb := World.grownBy_alloc (w.alloc (.cells #[.slice ao n c, .slice bo m d] 44)) (.cells #[.slice none 0 0, .slice none 0 0] 44) none
  have hs1 : (w.alloc (.cells #[.slice ao n c, .slice bo m d] 44)).heap.size = w.heap.size + 1 := by simp
  have X1 := hid_intro (heap_keptN gb (heap_alloc_new w (.cells #[.slice ao n c, .slice bo m d] 44 (0, 0))))
  have Y1 := hid_intro (heap_alloc_new (w.alloc (.cells #[.slice ao n c, .slice bo m d] 44)) (.cells #[.slice none 0 0, .slice none 0 0] 44 (0, 0)))
  rw [hs1] at Y1
  have HG := hid_intro (grown_trans ga gb)
  have K1 := hid_intro (hk.keptN (grown_trans ga gb))
  have V1 := hid_intro (hv.keptN (grown_trans ga gb))
  have HKL := hid_intro hk.len
  have HVL := hid_intro hv.len
  have hsz : ((w.alloc (.cells #[.slice ao n c, .slice bo m d] 44)).alloc (.cells #[.slice none 0 0, .slice none 0 0] 44)).heap.size = w.heap.size + 2 := by simp
  clear ga gb hs1 hk hv
  go_enter Tryd.func36, Tryd.ntmps36
  go_upto_region 1 with fail
  generalize (w.alloc (.cells #[.slice ao n c, .slice bo m d] 44)).alloc (.cells #[.slice none 0 0, .slice none 0 0] 44) = w1 at *
  obtain ⟨B, hB⟩ : ∃ B, w.heap.size = B := ⟨_, rfl⟩
  have HB := hid_intro hB
  rw [hB] at X1 Y1 hsz ⊢
  obtain ⟨U, hU⟩ : ∃ U, B + 1 = U := ⟨_, rfl⟩
  rw [hU] at Y1 ⊢
  have hBU : B ≠ U := by omega
  have hBU2 : ¬ B = U := by omega
  have HS1 : Hid (w1.heap.size = B + 2) := hsz
  have HU := hid_intro hU
  clear hsz hB hU
  have x0 : w1.cell? ⟨B, 0, none⟩ = some (.slice ao n c) := by rw [Lib.cell_of_heap X1.out]; rfl
  have x1 : w1.cell? ⟨B, 1, none⟩ = some (.slice bo m d) := by rw [Lib.cell_of_heap X1.out]; rfl
  go_region_held3 (fun w' => w'.cell? ⟨B, 0, none⟩ = some (.slice ao n c) ∧ w'.cell? ⟨B, 1, none⟩ = some (.slice bo m d)) (first | exact ⟨x0, x1⟩ | exact T2.out | exact T3.out | go_keep | exact ⟨gc2 hBU T3.out.1, gc2 hBU T3.out.2⟩)
    (first
      | (go_at_call_of 10 (Value.slice ao n c); refine (refBytes_any ao n c k w1.drew (K1.out.heap rfl) (by omega)).mono ?_; rintro en w2 ⟨rfl, hown2, hg2, hs2⟩; have O2 := hid_intro hown2; have G2 := hid_intro (grown_undrew hg2); have T2 := hid_intro (And.intro (G2.out.cell x0 (by simp)) (G2.out.cell x1 (by simp))); clear hown2 hg2)
      | (go_at_call_of 10 (Value.slice bo m d); refine (refBytes_any bo m d v w2 (V1.out.keptN G2.out) (by omega)).mono ?_; rintro en w3 ⟨rfl, hown3, hg3, hs3⟩; have O3 := hid_intro hown3; have R3 := hid_intro hg3; have G3 := hid_intro (grown_trans G2.out hg3); have T3 := hid_intro (And.intro (G3.out.cell x0 (by simp)) (G3.out.cell x1 (by simp))); have Y3 := hid_intro (heap_keptN G3.out Y1.out); have z0 : w3.cell? ⟨U, 0, none⟩ = some (.slice none 0 0) := (by rw [Lib.cell_of_heap Y3.out]; rfl); have z1 : w3.cell? ⟨U, 1, none⟩ = some (.slice none 0 0) := (by rw [Lib.cell_of_heap Y3.out]; rfl); have f0 : w3.frozen? ⟨U, 0, none⟩ = false := Lib.frozen_of_heap Y3.out 0; have f1 : w3.frozen? ⟨U, 1, none⟩ = false := Lib.frozen_of_heap Y3.out 1; clear hown3 hg3)
      | fail)
  have hlen1 := HKL.out
  have hlen2 := HVL.out
  subst hlen1
  subst hlen2
  have o2 : w2.ownsRow w1.heap.size 5 1 (.slice (some ⟨w1.heap.size, 0, none⟩) k.length k.length) k.length (k.map (Value.int .u8)) := O2.out
  have hlt : w1.heap.size < w2.heap.size := hs2
  have hsz := HS1.out
  have hu := HU.out
  obtain ⟨y1, y2⟩ := pair_putD Y3.out (.slice (some ⟨w1.heap.size, 0, none⟩) k.length k.length) (.slice (some ⟨w2.heap.size, 0, none⟩) v.length v.length)
  have o3 := own_low ((own_keptD o2 R3.out).kept y2 (.inr (by simp only [Value.ownBlock, ne_eq, Option.some.injEq]; omega))) (show B ≤ w1.heap.size by omega)
  have o4 := own_low (O3.out.kept y2 (.inr (by simp only [Value.ownBlock, ne_eq, Option.some.injEq]; omega))) (show B ≤ w2.heap.size by omega)
  have gf := grown_boxD (grown_trans HG.out G3.out) y2 (by have := HB.out; omega)
  clear hsz hlt hu
  go_wp2
  refine bodyPost_ret (ret_pair20 rfl _ _ U _ _ rfl y1) rfl ?_
  exact ⟨_, _, _, _, rfl, gf, by rw [HB.out]; exact o3, by rw [HB.out]; exact o4⟩
/-- What Pairs answers. -/
def PairsP (w : World) (n : Nat) (l : List Pq) (en : Ending) (w' : World) : Prop := ∃ a c, en = .returned (.slice a n c) ∧ w.grownBy w' none ∧ Pm w' a l
set_option maxHeartbeats 4000000 in
set_option maxRecDepth 100000 in
theorem refPairs20 (a : Option Addr) (n c : Nat) (l : List Pq) (w : World) (h : Pm w a l) (hn : l.length = n) (h0 : n ≤ 2000) (hs : ∀ p ∈ l, p.1.length ≤ 1048576 ∧ p.2.length ≤ 1048576) :
    Calls Tryd.prog 22 #[.slice a n c] w fun en w' => PairsP w n l en w' := by
  obtain ⟨ip, hip, hp0, hp1, hp2⟩ := info_parts info_pairD
  have HP := hid_intro h
  have HL := hid_intro hn
  have HSM := hid_intro hs
  clear h hn hs
  go_enter Tryd.func22, Tryd.ntmps22
  go_wp2_with (at_make; refine wpList_make_own _ rfl _ _ 35 rfl w.heap.size 44 ip (.agg #[.slice none 0 0, .slice none 0 0]) 2 Tryd.underlying35 hip hp0 hp1 _ _ _ n rfl rfl rfl ?b2 ?b3 (Nat.le_refl _) ?_)
  case b2 => rw [hp2]; omega
  case b3 => unfold maxLen; omega
  intro w0 hown0 hg0
  have O0 := hid_intro hown0
  have G0 := hid_intro hg0
  clear hown0 hg0
  go_wp2
  go_loopw [3, 4, 5] (fun sm si _ wr => ∃ (i : Nat) (so : Option Addr) (sc : Nat) (xs : List Value), i ≤ n ∧ si = .int .i64 (i : Nat) ∧ sm = .slice so i sc ∧ wr.ownsRow w.heap.size 44 2 (.slice so i sc) i xs ∧ Pw wr xs (l.take i) ∧ w.grownBy wr none) (fun _ si _ _ => n - (intOf si).toNat)
  case atStart => exact ⟨0, _, _, [], Nat.zero_le _, rfl, rfl, O0.out, Pw.nil _, G0.out⟩
  case round =>
    obtain ⟨i, so, sc, xs, hi', rfl, rfl, ho, hlw, hg⟩ := hrel
    have HO := hid_intro ho
    have HLW := hid_intro hlw
    have HG := hid_intro hg
    clear ho hlw hg O0 G0
    by_cases hlt : i < n
    · obtain ⟨p, hp⟩ : ∃ p, l[i]? = some p := ⟨_, List.getElem?_eq_getElem (by have := HL.out; omega)⟩
      have hsm := HSM.out p (List.mem_of_getElem? hp)
      have HTK : Hid (l.take (i + 1) = l.take i ++ [p]) := by
        obtain ⟨h1, e⟩ := List.getElem?_eq_some_iff.1 hp
        show _ = _
        rw [List.take_succ_eq_append_getElem h1, e]
      obtain ⟨b, off, ao, c1, bo, d1, rfl, q1, q2, q3, q4, q5, q6⟩ := HP.out.el i p hp
      obtain ⟨ky, vl⟩ := p
      simp only at q1 q2 q3 q4 q5 q6 hsm
      have c0 := HG.out.cell q1 (by simp)
      have c2 := HG.out.cell q2 (by simp)
      have Q4 := hid_intro q4
      have Q6 := hid_intro q6
      have HCP := hid_intro (refPair20 ao bo ky.length c1 vl.length d1 ky vl wr (q3.keptN HG.out) (q5.keptN HG.out) (by omega) (by omega))
      have j0 : (0 : Int) ≤ (i : Int) := by omega
      have j1 : (i : Int) < (n : Int) := by omega
      clear q1 q2 q3 q4 q5 q6 hp
      go_wp2_with fail
      refine HCP.out.mono ?_
      rintro en w4 ⟨ko, kc, vo, vc, rfl, hg4, hk4, hv4⟩
      have R4 := hid_intro hg4
      have OK4 := hid_intro hk4
      have OV4 := hid_intro hv4
      clear hg4 hk4 hv4 HCP
      have hs4 := R4.out.size
      have gx := World.grownBy_alloc w4 (.cells #[.slice ko ky.length kc, .slice vo vl.length vc] 44) none
      have O5 := hid_intro (own_keptD (own_keptD HO.out R4.out) gx)
      have P5 := hid_intro ((HLW.out.keptN R4.out).keptN gx)
      have OK5 := hid_intro (own_low (own_keptD OK4.out gx) (Nat.zero_le _))
      have OV5 := hid_intro (own_low (own_keptD OV4.out gx) (Nat.zero_le _))
      have G5 := hid_intro (grown_trans (grown_trans HG.out R4.out) gx)
      have hxb : (w4.alloc (.cells #[.slice ko ky.length kc, .slice vo vl.length vc] 44)).heap[w4.heap.size]? = some (.cells #[.slice ko ky.length kc, .slice vo vl.length vc] 44 (0, 0)) := heap_alloc_new w4 _
      have x0 : (w4.alloc (.cells #[.slice ko ky.length kc, .slice vo vl.length vc] 44)).cell? ⟨w4.heap.size, 0, none⟩ = some (.slice ko ky.length kc) := by rw [Lib.cell_of_heap hxb]; rfl
      have x1 : (w4.alloc (.cells #[.slice ko ky.length kc, .slice vo vl.length vc] 44)).cell? ⟨w4.heap.size, 1, none⟩ = some (.slice vo vl.length vc) := by rw [Lib.cell_of_heap hxb]; rfl
      have hs5 := G5.out.size
      obtain ⟨nk, hnk⟩ : ∃ nk, ky.length = nk := ⟨_, rfl⟩
      obtain ⟨nv, hnv⟩ : ∃ nv, vl.length = nv := ⟨_, rfl⟩
      have HNK := hid_intro hnk
      have HNV := hid_intro hnv
      rw [hnk, hnv] at x0 x1 O5 P5 OK5 OV5 G5 hs5 ⊢
      clear gx hxb hnk hnv HO HLW OK4 OV4 R4
      go_upto_region 6 with fail
      generalize w4.alloc (.cells #[.slice ko nk kc, .slice vo nv vc] 44) = w5 at *
      generalize w4.heap.size = X at *
      have HAP : Hid (∀ W : World, W.heap = w5.heap → (W.alloc (.cells #[.slice ko nk kc, .slice vo nv vc] 44)).ownsRow w.heap.size 44 2 (.slice so i sc) i xs) := fun W hW => (own_same20 O5.out hW).alloc _
      go_wp2_with (at_builtin; refine wpList_append_own _ rfl _ _ 35 rfl w.heap.size 44 ip (.agg #[.slice none 0 0, .slice none 0 0]) 2 48 Tryd.underlying35 hip hp0 hp1 hp2 rfl (by decide) _ i xs rfl (HAP.out _ rfl) ⟨w5.heap.size, 0, none⟩ 1 1 [.slice ko nk kc, .slice vo nv vc] rfl rfl (cell_two_new _ _ _ _) (by intro u hu; simp at hu; rcases hu with rfl | rfl <;> rfl) (by unfold maxLen; omega) (by omega) (by simp; omega) ?_)
      intro v8 w8 ho8 hg8 _
      obtain ⟨va, vd, hv8⟩ := own_shape20 ho8
      subst hv8
      have O8 := hid_intro ho8
      have G8 := hid_intro hg8
      clear ho8 hg8
      go_wp2
      go_roundw
      case rel =>
        have gb := World.grownBy_alloc w5 (.cells #[.slice ko nk kc, .slice vo nv vc] 44) none
        have oa := own_keptD O5.out gb
        have ok8 := (own_keptD OK5.out gb).kept G8.out (own_neD (own_keptD OK5.out gb) oa (by decide))
        have ov8 := (own_keptD OV5.out gb).kept G8.out (own_neD (own_keptD OV5.out gb) oa (by decide))
        have p8 := (P5.out.keptN gb).app oa G8.out
        have ps := p8.snoc (p := (ky, vl)) (by rw [HNK.out]; exact ok8) (by rw [HNV.out]; exact ov8) ⟨Q4.out, Q6.out⟩
        simp only [HNK.out, HNV.out] at ps
        have gg := grown_app20 G5.out O5.out (Nat.le_refl _) G8.out
        exact ⟨i + 1, va, vd, _, by omega, by go_num, rfl, O8.out, by rw [HTK.out]; exact ps, gg⟩
      case measure => simp [intOf]; omega
    · obtain rfl : i = n := by omega
      have e1 : l.take i = l := by rw [← HL.out, List.take_length]
      have hpm := HLW.out
      rw [e1] at hpm
      have PM := hid_intro (hpm.pm HO.out).1
      clear hpm e1
      go_wp2
      go_ret
      exact ⟨so, sc, rfl, HG.out, PM.out⟩
end Go.Proofs.YtioleabkbkmggaaDoor
