import Derived.Test.YtcdkkhbkicejiaaGreatDoorQ21
import Derived.Test.YtcdkkhbkicejiaaGreatDoorQ22
import Derived.Lib.SlBytesConst
import Derived.Test.YtcdkkhbkicejiaaGreatDoorQ7
namespace Go.Proofs.YtcdkkhbkicejiaaGreatDoor
open Go.RowKit
set_option maxHeartbeats 400000 in
theorem num4_any (n : Int) (w : World) : Calls Tryz.prog 13 #[.int .i64 n] w fun en w' => en = .returned (.int .i64 n) ∧ w' = w := by
 go_enter Tryz.func13, Tryz.ntmps13
 go_wp2
 go_ret
 exact ⟨rfl, rfl⟩
def shI (x : It) : Bool := decide (x.key.length ≤ 5000) && decide (x.val.length ≤ 5000)
def sh (L : List It) : Bool := decide (L.length ≤ 2000) && L.all shI
theorem sh_parts {L : List It} (h : sh L = true) : L.length ≤ 2000 ∧ ∀ x ∈ L, x.key.length ≤ 5000 ∧ x.val.length ≤ 5000 := by
 unfold sh shI at h
 simp at h
 exact h
theorem sh_no {L : List It} {i : Nat} (hi : i < L.length) (h : shI (L.getD i it0) = false) : sh L = false := by
 cases hs : sh L with
 | false => rfl
 | true =>
  have := (sh_parts hs).2 _ (getD_mem hi)
  unfold shI at h
  rw [decide_eq_true this.1, decide_eq_true this.2] at h
  cases h
set_option maxHeartbeats 1000000 in
set_option maxRecDepth 100000 in
theorem short_any (a : Option Addr) (n cap : Nat) (L : List It) (w : World) (hl : Il w a L) (hn : L.length = n) :
  Calls Tryz.prog 5 #[.slice a n cap] w fun en w' => en = .returned (.bool (sh L)) ∧ Qt w w' := by
 have HL := hid_intro hl
 clear hl
 by_cases h2 : n ≤ 2000
 ·go_enter Tryz.func5, Tryz.ntmps5
  go_wp2
  go_loopw [3] (fun si wr => ∃ i : Nat, i ≤ n ∧ si = .int .i64 i ∧ (∀ j, j < i → shI (L.getD j it0) = true) ∧ Qt w wr) (fun si _ => n - (intOf si).toNat)
  case atStart => exact ⟨0, Nat.zero_le _, rfl, fun j hj => by omega, Qt.refl _⟩
  case round =>
   obtain ⟨i, hi, rfl, ha, hq⟩ := hrel
   have HQ := hid_intro hq
   have HA := hid_intro ha
   clear hq ha
   by_cases hlt : i < n
   ·obtain ⟨b, off, ao, m, c, bo, m2, d2, rfl, q2, q3, q4, q5, q6, q7, q8, q9, q10, q11⟩ := HL.out.row i (by omega)
    have c0 := (HQ.out.cell _).trans q2
    have c1 := (HQ.out.cell _).trans q3
    have HX : Hid (shI (L.getD i it0) = true → ∀ j, j < i + 1 → shI (L.getD j it0) = true) := by
     intro h j hj
     by_cases e : j = i
     ·subst e; exact h
     ·exact HA.out j (by omega)
    have HN : Hid (shI (L.getD i it0) = false → sh L = false) := fun h => sh_no (by omega) h
    have HS : Hid (shI (L.getD i it0) = (decide (m ≤ 5000) && decide (m2 ≤ 5000))) := by show _ = _; unfold shI; rw [q6.len, q9.len]
    clear q2 q3 q4 q5 q6 q9 HA
    generalize shI (L.getD i it0) = sb at *
    by_cases hm : m ≤ 5000
    ·by_cases hm2 : m2 ≤ 5000
     ·have HX1 := hid_intro (HX.out (by rw [HS.out]; simp [hm, hm2]))
      clear HX HS HN
      go_wp2
      go_roundw
      case rel => exact ⟨i + 1, by omega, by go_num, HX1.out, HQ.out⟩
      case measure => simp [intOf]; omega
     ·have HN1 := hid_intro (HN.out (by rw [HS.out]; simp [hm2]))
      clear HX HS HN
      go_wp2
      go_ret
      exact ⟨by rw [HN1.out]; rfl, HQ.out⟩
    ·have HN1 := hid_intro (HN.out (by rw [HS.out]; simp [hm]))
     clear HX HS HN
     go_wp2
     go_ret
     exact ⟨by rw [HN1.out]; rfl, HQ.out⟩
   ·have hin : i = n := by omega
    subst hin
    have HS : Hid (sh L = true) := by
     show _ = _
     unfold sh
     rw [hn, decide_eq_true h2, Bool.true_and]
     refine List.all_eq_true.2 fun x hx => ?_
     obtain ⟨j, hj, rfl⟩ := List.getElem_of_mem hx
     have := HA.out j (by omega)
     simpa [List.getD, List.getElem?_eq_getElem hj] using this
    clear HA
    go_wp2
    go_ret
    exact ⟨by rw [HS.out]; rfl, HQ.out⟩
 ·have HS : Hid (sh L = false) := by
   show _ = _
   unfold sh
   rw [hn, decide_eq_false h2, Bool.false_and]
  go_enter Tryz.func5, Tryz.ntmps5
  go_wp2
  go_ret
  exact ⟨by rw [HS.out]; rfl, Qt.refl _⟩
theorem it_eq {x y : It} : x = y ↔ x.key = y.key ∧ x.val = y.val ∧ x.size = y.size ∧ x.first = y.first := by
 obtain ⟨a, b, c, d⟩ := x
 obtain ⟨a', b', c', d'⟩ := y
 simp
set_option maxHeartbeats 2000000 in
set_option maxRecDepth 100000 in
theorem sameItem_any (ao : Option Addr) (n c : Nat) (bo : Option Addr) (m d : Nat) (ao' : Option Addr) (n' c' : Nat) (bo' : Option Addr) (m' d' : Nat) (x y : It) (s f s' f' : Int) (hs : x.size = s) (hf : x.first = f) (hs' : y.size = s') (hf' : y.first = f') (w : World)
  (h1 : Byt w ao n c x.key) (h2 : Byt w bo m d x.val) (h3 : Byt w ao' n' c' y.key) (h4 : Byt w bo' m' d' y.val) (hx : Itb x) (hy : Itb y) :
  Calls Tryz.prog 30 #[.agg #[.slice ao n c, .slice bo m d, .int .i64 s, .int .i64 f], .agg #[.slice ao' n' c', .slice bo' m' d', .int .i64 s', .int .i64 f']] w fun en w' => (∃ b, en = .returned (.bool b) ∧ (b = true ↔ x = y)) ∧ w.grownBy w' none := by
 have HE := hid_intro (it_eq (x := x) (y := y))
 rw [hs, hs', hf, hf'] at HE
 have ga := World.grownBy_alloc w (.cells #[.slice ao n c, .slice bo m d, .int .i64 s, .int .i64 f] 52) none
 have gb := World.grownBy_alloc (w.alloc (.cells #[.slice ao n c, .slice bo m d, .int .i64 s, .int .i64 f] 52)) (.cells #[.slice ao' n' c', .slice bo' m' d', .int .i64 s', .int .i64 f'] 52) none
 have G := hid_intro (grown_trans ga gb)
 have H1 := hid_intro (h1.keptN G.out)
 have H2 := hid_intro (h2.keptN G.out)
 have H3 := hid_intro (h3.keptN G.out)
 have H4 := hid_intro (h4.keptN G.out)
 have HX := hid_intro hx
 have HY := hid_intro hy
 clear h1 h2 h3 h4 ga gb hx hy
 by_cases hk : x.key = y.key
 ·by_cases hv : x.val = y.val
  ·have HE2 : Hid (x = y ↔ s = s' ∧ f = f') := by
    show _ ↔ _
    rw [HE.out]
    exact ⟨fun h => h.2.2, fun h => ⟨hk, hv, h⟩⟩
   clear HE
   by_cases hss : s = s'
   ·subst hss
    go_enter Tryz.func30, Tryz.ntmps30
    go_wp2_with fail
    refine (same_yes _ _ _ _ _ _ _ _ _ H1.out H3.out hk).mono ?_
    rintro en w1 ⟨rfl, rfl⟩
    go_wp2_with fail
    refine (same_yes _ _ _ _ _ _ _ _ _ H2.out H4.out hv).mono ?_
    rintro en w1 ⟨rfl, rfl⟩
    go_wp2
    go_ret
    refine ⟨⟨_, rfl, ?_⟩, G.out⟩
    rw [HE2.out]
    simp
   ·go_enter Tryz.func30, Tryz.ntmps30
    go_wp2_with fail
    refine (same_yes _ _ _ _ _ _ _ _ _ H1.out H3.out hk).mono ?_
    rintro en w1 ⟨rfl, rfl⟩
    go_wp2_with fail
    refine (same_yes _ _ _ _ _ _ _ _ _ H2.out H4.out hv).mono ?_
    rintro en w1 ⟨rfl, rfl⟩
    go_wp2
    go_ret
    refine ⟨⟨_, rfl, ?_⟩, G.out⟩
    rw [HE2.out]
    simp [hss]
  ·have HE2 : Hid (¬ x = y) := fun h => hv (by rw [h])
   clear HE
   go_enter Tryz.func30, Tryz.ntmps30
   go_wp2_with fail
   refine (same_yes _ _ _ _ _ _ _ _ _ H1.out H3.out hk).mono ?_
   rintro en w1 ⟨rfl, rfl⟩
   go_wp2_with fail
   refine (same_no _ _ _ _ _ _ _ _ _ H2.out H4.out HX.out.val HY.out.val hv).mono ?_
   rintro en w1 ⟨rfl, rfl⟩
   go_wp2
   go_ret
   exact ⟨⟨_, rfl, by simp [HE2.out]⟩, G.out⟩
 ·have HE2 : Hid (¬ x = y) := fun h => hk (by rw [h])
  clear HE
  by_cases hv : x.val = y.val
  ·go_enter Tryz.func30, Tryz.ntmps30
   go_wp2_with fail
   refine (same_no _ _ _ _ _ _ _ _ _ H1.out H3.out HX.out.key HY.out.key hk).mono ?_
   rintro en w1 ⟨rfl, rfl⟩
   go_wp2_with fail
   refine (same_yes _ _ _ _ _ _ _ _ _ H2.out H4.out hv).mono ?_
   rintro en w1 ⟨rfl, rfl⟩
   go_wp2
   go_ret
   exact ⟨⟨_, rfl, by simp [HE2.out]⟩, G.out⟩
  ·go_enter Tryz.func30, Tryz.ntmps30
   go_wp2_with fail
   refine (same_no _ _ _ _ _ _ _ _ _ H1.out H3.out HX.out.key HY.out.key hk).mono ?_
   rintro en w1 ⟨rfl, rfl⟩
   go_wp2_with fail
   refine (same_no _ _ _ _ _ _ _ _ _ H2.out H4.out HX.out.val HY.out.val hv).mono ?_
   rintro en w1 ⟨rfl, rfl⟩
   go_wp2
   go_ret
   exact ⟨⟨_, rfl, by simp [HE2.out]⟩, G.out⟩
theorem getD_ext {L M : List It} (hl : L.length = M.length) (h : ∀ j, j < L.length → L.getD j it0 = M.getD j it0) : L = M := by
 refine List.ext_getElem hl fun j h1 h2 => ?_
 have := h j h1
 simpa [List.getD, List.getElem?_eq_getElem h1, List.getElem?_eq_getElem h2] using this
set_option maxHeartbeats 2000000 in
set_option maxRecDepth 100000 in
theorem sameItems_any (a : Option Addr) (n cap : Nat) (L : List It) (a' : Option Addr) (n' cap' : Nat) (M : List It) (w : World) (hl : Il w a L) (hb : Ib L) (hn : L.length = n) (hl' : Il w a' M) (hb' : Ib M) (hn' : M.length = n') (hm : n ≤ 9223372036854775807) :
  Calls Tryz.prog 16 #[.slice a n cap, .slice a' n' cap'] w fun en w' => (∃ b, en = .returned (.bool b) ∧ (b = true ↔ L = M)) ∧ w.grownBy w' none := by
 have HL := hid_intro hl
 have HM := hid_intro hl'
 have HB := hid_intro hb
 have HB' := hid_intro hb'
 clear hl hl' hb hb'
 by_cases he : n = n'
 ·subst he
  go_enter Tryz.func16, Tryz.ntmps16
  go_wp2
  go_loopw [5, 6] (fun si _ wr => ∃ i : Nat, i ≤ n ∧ si = .int .i64 i ∧ (∀ j, j < i → L.getD j it0 = M.getD j it0) ∧ w.grownBy wr none) (fun si _ _ => n - (intOf si).toNat)
  case atStart => exact ⟨0, Nat.zero_le _, rfl, fun j hj => by omega, World.grownBy.refl _ _⟩
  case round =>
   obtain ⟨i, hi, rfl, ha, hg⟩ := hrel
   have HG := hid_intro hg
   have HA := hid_intro ha
   clear hg ha
   by_cases hlt : i < n
   ·obtain ⟨b, off, ao, m, c, bo, m2, d2, rfl, q2, q3, q4, q5, q6, q7, q8, q9, q10, q11⟩ := HL.out.row i (by omega)
    obtain ⟨b', off', ao', m', c', bo', m2', d2', rfl, r2, r3, r4, r5, r6, r7, r8, r9, r10, r11⟩ := HM.out.row i (by omega)
    have HGd := fun row => hid_intro (grown_trans (grown_any (row := row) HG.out) ((Qt.refl wr).drew.grown row))
    have c0 := HG.out.cell q2 (by simp)
    have c1 := HG.out.cell q3 (by simp)
    have c2 := HG.out.cell q4 (by simp)
    have c3 := HG.out.cell q5 (by simp)
    have d0 := HG.out.cell r2 (by simp)
    have d1 := HG.out.cell r3 (by simp)
    have d2 := HG.out.cell r4 (by simp)
    have d3 := HG.out.cell r5 (by simp)
    have HC := hid_intro (sameItem_any ao m c bo m2 _ ao' m' c' bo' m2' _ (L.getD i it0) (M.getD i it0) _ _ _ _ rfl rfl rfl rfl wr.drew (q6.keptN (HGd none).out) (q9.keptN (HGd none).out) (r6.keptN (HGd none).out) (r9.keptN (HGd none).out) (HB.out.at (by omega)) (HB'.out.at (by omega)))
    have HX : Hid (L.getD i it0 = M.getD i it0 → ∀ j, j < i + 1 → L.getD j it0 = M.getD j it0) := by
     intro h j hj
     by_cases e : j = i
     ·subst e; exact h
     ·exact HA.out j (by omega)
    have HN : Hid (¬ L.getD i it0 = M.getD i it0 → ¬ L = M) := fun h e => h (by rw [e])
    clear q2 q3 q4 q5 q6 q9 r2 r3 r4 r5 r6 r9 HA
    generalize (L.getD i it0).size = sz at *
    generalize (L.getD i it0).first = fs at *
    generalize (M.getD i it0).size = sz' at *
    generalize (M.getD i it0).first = fs' at *
    generalize L.getD i it0 = x at *
    generalize M.getD i it0 = y at *
    have g0 : (0 : Int) ≤ (i : Int) := by omega
    have g1 : (i : Int) < (n : Int) := by omega
    go_wp2_with fail
    go_region_with (go_at_call 30; refine HC.out.mono ?_; rintro en w2 ⟨⟨bb, rfl, hbb⟩, hg2⟩)
    all_goals
     have HG2 := hid_intro (grown_trans (HGd none).out hg2)
     have HBB := hid_intro hbb
     clear hg2 hbb
     cases bb with
     | true =>
      have HX1 := hid_intro (HX.out (HBB.out.1 rfl))
      clear HX HN HBB
      go_wp2
      go_roundw
      case rel => exact ⟨i + 1, by omega, by go_num, HX1.out, HG2.out⟩
      case measure => simp [intOf]; omega
     | false =>
      have HN1 := hid_intro (HN.out (fun e => by cases (HBB.out.2 e)))
      clear HX HN HBB
      go_wp2
      go_ret
      exact ⟨⟨_, rfl, by simp [HN1.out]⟩, HG2.out⟩
   ·have hin : i = n := by omega
    subst hin
    have HE : Hid (L = M) := getD_ext (by omega) (fun j hj => HA.out j (by omega))
    clear HA
    go_wp2
    go_ret
    exact ⟨⟨_, rfl, by simp [HE.out]⟩, HG.out⟩
 ·have HE : Hid (¬ L = M) := fun e => he (by rw [← hn, ← hn', e])
  go_enter Tryz.func16, Tryz.ntmps16
  go_wp2
  go_ret
  exact ⟨⟨_, rfl, by simp [HE.out]⟩, World.grownBy.refl _ _⟩
def itA : It := ⟨[97, 98], [], 0, 0⟩
def itB : It := ⟨[97, 98, 99], [121, 122], 2, 0⟩
theorem ab_wrong : wrong [itA, itB] = 0 := by decide
theorem ab_size : size [itA, itB] = 17 := by decide
theorem ab_used : used [itA, itB] = [1, 2, 0, 2, 97, 98, 10, 0, 12, 0, 0, 0, 1, 99, 4, 121, 122] := by decide
theorem ab_body : body [itA, itB] = [1, 2, 0, 2, 97, 98, 10, 0, 12, 0, 0, 0, 1, 99, 4, 121, 122] ++ List.replicate 4075 0 := by
 unfold body
 rw [ab_used]
 simp only [List.length_cons, List.length_nil]
theorem ab_bounds : Ib [itA, itB] := by
 intro x hx
 rcases List.mem_cons.1 hx with rfl | hx
 ·exact ⟨btl _ rfl, Bt.nil, by decide, by decide, by decide, by decide⟩
 ·obtain rfl := List.mem_singleton.1 hx
  exact ⟨btl _ rfl, btl _ rfl, by decide, by decide, by decide, by decide⟩
theorem ab_good : Good (body [itA, itB]) [itA, itB] := ⟨ab_wrong, by rw [ab_size]; decide, rfl⟩
theorem Il.lit2 (w : World) (x y : It) (a b c d : Option Addr) (n1 c1 n2 c2 n3 c3 n4 c4 : Nat) (k : Nat) (hk : k = w.heap.size) (h1 : Byt w a n1 c1 x.key) (h2 : Byt w b n2 c2 x.val) (h3 : Byt w c n3 c3 y.key) (h4 : Byt w d n4 c4 y.val)
  (l1 : n1 ≤ c1 ∧ c1 ≤ 100) (l2 : n2 ≤ c2 ∧ c2 ≤ 100) (l3 : n3 ≤ c3 ∧ c3 ≤ 100) (l4 : n4 ≤ c4 ∧ c4 ≤ 100) (s1 f1 s2 f2 : Int) (hs1 : x.size = s1) (hf1 : x.first = f1) (hs2 : y.size = s2) (hf2 : y.first = f2) :
  Il (w.alloc (.cells #[.slice a n1 c1, .slice b n2 c2, .int .i64 s1, .int .i64 f1, .slice c n3 c3, .slice d n4 c4, .int .i64 s2, .int .i64 f2] 52)) (some ⟨k, 0, none⟩) [x, y] := by
 subst hk hs1 hf1 hs2 hf2
 have hc := fun i => cell_of_row (w.alloc (.cells #[.slice a n1 c1, .slice b n2 c2, .int .i64 x.size, .int .i64 x.first, .slice c n3 c3, .slice d n4 c4, .int .i64 y.size, .int .i64 y.first] 52)) w.heap.size i _ _ (0, 0) (heap_alloc_new w _)
 refine ⟨fun i hi => ?_⟩
 match i, hi with
 | 0, _ => exact ⟨w.heap.size, 0, a, n1, c1, b, n2, c2, rfl, hc 0, hc 1, hc 2, hc 3, h1.on _, l1.1, by omega, h2.on _, l2.1, by omega⟩
 | 1, _ => exact ⟨w.heap.size, 0, c, n3, c3, d, n4, c4, rfl, hc 4, hc 5, hc 6, hc 7, h3.on _, l3.1, by omega, h4.on _, l4.1, by omega⟩
 | i + 2, h => exact absurd h (by simp)
theorem make_zero (n : Nat) (hn : n ≤ 65536) : ∃ ZZ : Array Value, (∀ W : World, (Instr.makeSlice 42 (.int .i64 (n : Int)) (.int .i64 (n : Int))).run Tryz.prog W = .ok (.slice (some ⟨W.heap.size, 0, none⟩) n n) (W.alloc (.cells ZZ 5))) ∧ ZZ = ((List.replicate n (0 : Int)).map (Value.int .u8)).toArray := by
 obtain ⟨i0, hi, hz0, hz1, hz2⟩ := info_parts info_u8
 refine ⟨madeCells #[Value.int .u8 0] n, fun W => ?_, by rw [← made]⟩
 have := run_makeSlice (P := Tryz.prog) (w := W) 42 5 i0 (.int .u8 0) Tryz.underlying42 hi hz0 .i64 .i64 (n : Int) (n : Int) (by omega) (by omega) (by rw [hz1]; simp; omega) (by rw [hz2]; omega) (by omega)
 rw [hz1, show (Value.int .u8 0).cells = #[Value.int .u8 0] from rfl, Int.toNat_natCast, Nat.mul_one] at this
 exact this
theorem zero_both (w W : World) (G k n : Nat) (xs : List Int) (ZZ : Array Value) (h : Rw w G (xs ++ List.replicate n 0)) (hk : xs.length = k) (hz : ZZ = ((List.replicate n (0 : Int)).map (Value.int .u8)).toArray) (hW : W.heap = (w.alloc (.cells ZZ 5)).heap) :
  Byt W (some ⟨G, k, none⟩) n n (List.replicate n 0) ∧ Byt W (some ⟨w.heap.size, 0, none⟩) n n (List.replicate n 0) := by
 have h1 := (h.keptN (World.grownBy_alloc w (.cells ZZ 5) none)).byt k n n (by rw [List.length_append, List.length_replicate, hk]; exact Nat.le_refl _)
 have h2 : Byt (w.alloc (.cells ZZ 5)) (some ⟨w.heap.size, 0, none⟩) n n (List.replicate n 0) := Byt.litK w 5 ZZ (0, 0) _ n _ (by rw [List.length_replicate]) hz rfl
 rw [← hk, List.drop_left, List.take_of_length_le (by rw [List.length_replicate]; exact Nat.le_refl _)] at h1
 rw [hk] at h1
 exact ⟨h1.heap hW, h2.heap hW⟩
set_option maxHeartbeats 4000000 in
set_option maxRecDepth 100000 in
theorem first4_any (w : World) : Calls Tryz.prog 4 #[] w fun en w' => en = .returned (.bool true) ∧ w.grownBy w' none := by
 obtain ⟨i0, hi, hz0, hz1, hz2⟩ := info_parts info_u8
 have v1 := fun (W : World) (C : Array Value) (n c : Nat) => conv_at W C n c _ rfl
 have v2 := fun (W : World) (o : Obj) (C : Array Value) (n c : Nat) => conv_at (W.alloc o) C n c (W.heap.size + 1) (size_alloc W o).symm
 have v3 := fun (W : World) (o p : Obj) (C : Array Value) (n c : Nat) => conv_at ((W.alloc o).alloc p) C n c (W.heap.size + 2) (by rw [size_alloc, size_alloc])
 go_enter Tryz.func4, Tryz.ntmps4
 go_wp2_with fail
 have HIL := hid_intro (Il.lit2 (((w.alloc (.cells #[.int .u8 97, .int .u8 98] 5 (2, 3))).alloc (.cells #[.int .u8 97, .int .u8 98, .int .u8 99] 5 (3, 4))).alloc (.cells #[.int .u8 121, .int .u8 122] 5 (2, 3))) itA itB (some ⟨w.heap.size, 0, none⟩) none (some ⟨w.heap.size + 1, 0, none⟩) (some ⟨w.heap.size + 2, 0, none⟩) 2 2 0 0 3 3 2 2 (w.heap.size + 1 + 1 + 1) (by rw [size_alloc, size_alloc, size_alloc])
  (((Byt.litK w 5 #[.int .u8 97, .int .u8 98] (2, 3) [97, 98] 2 _ rfl rfl rfl).on _).on _) (Byt.empty _) ((Byt.litK _ 5 #[.int .u8 97, .int .u8 98, .int .u8 99] (3, 4) [97, 98, 99] 3 _ rfl rfl (size_alloc w _).symm).on _) (Byt.litK _ 5 #[.int .u8 121, .int .u8 122] (2, 3) [121, 122] 2 _ rfl rfl (by rw [size_alloc, size_alloc])) (by decide) (by decide) (by decide) (by decide) 0 0 2 0 rfl rfl rfl rfl)
 have HG0 := hid_intro (grown_trans (grown_trans (grown_trans (World.grownBy_alloc w (.cells #[.int .u8 97, .int .u8 98] 5 (2, 3)) none) (World.grownBy_alloc _ (.cells #[.int .u8 97, .int .u8 98, .int .u8 99] 5 (3, 4)) none)) (World.grownBy_alloc _ (.cells #[.int .u8 121, .int .u8 122] 5 (2, 3)) none)) (World.grownBy_alloc _ (.cells #[.slice (some ⟨w.heap.size, 0, none⟩) 2 2, .slice none 0 0, .int .i64 0, .int .i64 0, .slice (some ⟨w.heap.size + 1, 0, none⟩) 3 3, .slice (some ⟨w.heap.size + 2, 0, none⟩) 2 2, .int .i64 2, .int .i64 0] 52) none))
 generalize (((w.alloc (.cells #[.int .u8 97, .int .u8 98] 5 (2, 3))).alloc (.cells #[.int .u8 97, .int .u8 98, .int .u8 99] 5 (3, 4))).alloc (.cells #[.int .u8 121, .int .u8 122] 5 (2, 3))).alloc (.cells #[.slice (some ⟨w.heap.size, 0, none⟩) 2 2, .slice none 0 0, .int .i64 0, .int .i64 0, .slice (some ⟨w.heap.size + 1, 0, none⟩) 3 3, .slice (some ⟨w.heap.size + 2, 0, none⟩) 2 2, .int .i64 2, .int .i64 0] 52) = w0 at *
 clear v1 v2 v3
 refine (encode_ok _ 2 2 [itA, itB] _ HIL.out ab_bounds rfl (by omega) ab_wrong (by rw [ab_size]; omega)).mono ?_
 rintro en w1 ⟨G, rfl, hr1, hg1, _⟩
 rw [ab_body] at hr1
 have R1 := hid_intro hr1
 have I1 := hid_intro (HIL.out.keptN hg1)
 have G1 := hid_intro (grown_trans HG0.out hg1)
 clear hr1 hg1 HIL HG0
 have BW := hid_intro (Byt.litK w1 5 #[.int .u8 1, .int .u8 2, .int .u8 0, .int .u8 2, .int .u8 97, .int .u8 98, .int .u8 10, .int .u8 0, .int .u8 12, .int .u8 0, .int .u8 0, .int .u8 0, .int .u8 1, .int .u8 99, .int .u8 4, .int .u8 121, .int .u8 122] (0, 0) [1, 2, 0, 2, 97, 98, 10, 0, 12, 0, 0, 0, 1, 99, 4, 121, 122] 17 w1.heap.size rfl rfl rfl)
 have GW := hid_intro (World.grownBy_alloc w1 (.cells #[.int .u8 1, .int .u8 2, .int .u8 0, .int .u8 2, .int .u8 97, .int .u8 98, .int .u8 10, .int .u8 0, .int .u8 12, .int .u8 0, .int .u8 0, .int .u8 0, .int .u8 1, .int .u8 99, .int .u8 4, .int .u8 121, .int .u8 122] 5) none)
 go_wp2_with fail
 generalize w1.alloc (.cells #[.int .u8 1, .int .u8 2, .int .u8 0, .int .u8 2, .int .u8 97, .int .u8 98, .int .u8 10, .int .u8 0, .int .u8 12, .int .u8 0, .int .u8 0, .int .u8 0, .int .u8 1, .int .u8 99, .int .u8 4, .int .u8 121, .int .u8 122] 5) = w2 at *
 have R2 := hid_intro (R1.out.keptN GW.out)
 have I2 := hid_intro (I1.out.keptN GW.out)
 have G2 := hid_intro (grown_trans G1.out GW.out)
 clear R1 I1 G1 GW
 generalize w1.heap.size = K at *
 refine (num4_any _ _).mono ?_
 rintro en w3 ⟨rfl, rfl⟩
 go_wp2_with fail
 refine (size_any _ 2 2 [itA, itB] _ I2.out rfl (by omega) (by decide)).mono ?_
 rintro en w4 ⟨rfl, hg4⟩
 rw [ab_size]
 have R4 := hid_intro (R2.out.keptN hg4)
 have I4 := hid_intro (I2.out.keptN hg4)
 have G4 := hid_intro (grown_trans G2.out hg4)
 have B4 := hid_intro (BW.out.keptN hg4)
 clear hg4 R2 I2 G2 BW
 have X4 := hid_intro (R4.out.byt 0 17 4092 (by simp))
 go_wp2_with fail
 refine (same_yes _ _ 17 17 4092 17 _ _ _ X4.out B4.out (by rw [List.drop_zero]; exact List.take_left' rfl)).mono ?_
 rintro en w5 ⟨rfl, rfl⟩
 clear X4 B4
 obtain ⟨ZZ, hmk0, hzz⟩ := make_zero 4075 (by omega)
 have hmk : ∀ W : World, (Instr.makeSlice 42 (.int .i64 4075) (.int .i64 4075)).run Tryz.prog W = .ok (.slice (some ⟨W.heap.size, 0, none⟩) 4075 4075) (W.alloc (.cells ZZ 5)) := hmk0
 clear hmk0
 have HXW : Hid (∀ W : World, W.heap = (w5.alloc (.cells ZZ 5)).heap → Byt W (some ⟨G, 17, none⟩) 4075 4075 (List.replicate 4075 0) ∧ Byt W (some ⟨w5.heap.size, 0, none⟩) 4075 4075 (List.replicate 4075 0)) :=
  fun W hW => zero_both w5 W G 17 4075 _ ZZ R4.out rfl hzz hW
 clear hzz
 have GZ := hid_intro (World.grownBy_alloc w5 (.cells ZZ 5) none)
 go_wp2_with fail
 go_region_with (go_at_call 15; refine (same_yes _ _ 4075 4075 4075 4075 (List.replicate 4075 0) (List.replicate 4075 0) _ (HXW.out _ (by rfl)).1 (HXW.out _ (by rfl)).2 rfl).mono ?_; rintro en w6 ⟨rfl, hw6⟩; have HW6 := hid_intro hw6; clear hw6)
 all_goals
  have hg6 : w5.grownBy w6 none := by rw [HW6.out]; exact grown_trans GZ.out ((Qt.refl _).drew.grown none)
  have R6 := hid_intro (R4.out.keptN hg6)
  have I6 := hid_intro (I4.out.keptN hg6)
  have G6 := hid_intro (grown_trans G4.out hg6)
  clear HW6 hg6 R4 I4 G4 HXW GZ hmk
  have B6 : Hid (Byt w6 (some ⟨G, 0, none⟩) 4092 4092 (body [itA, itB])) := by
   have := R6.out.all 4092 4092 (by simp)
   rw [ab_body]; exact this
  go_wp2_with fail
  refine (decode_any _ 4092 4092 _ _ B6.out (body_bt ab_bounds)).mono ?_
  rintro en w7 ⟨⟨a, n, cap, e, L, rfl, hdec, hil, hib, hn, hnc, hcm⟩, hg7⟩
  obtain ⟨rfl, rfl⟩ : e = 0 ∧ L = [itA, itB] := by
   rcases hdec with ⟨h1, h2, _⟩ | ⟨_, _, h3⟩
   ·exact ⟨h1, good_one h2 ab_good⟩
   ·exact absurd ⟨ab_good, by rw [body_len ab_wrong (by rw [ab_size]; omega)]⟩ (h3 _)
  have L7 := hid_intro hil
  have I7 := hid_intro (I6.out.keptN hg7)
  have G7 := hid_intro (grown_trans G6.out hg7)
  clear hil hg7 hdec R6 I6 G6 B6
  go_wp2_with fail
  refine (sameItems_any _ n cap [itA, itB] _ 2 2 [itA, itB] _ L7.out ab_bounds hn I7.out ab_bounds rfl (by omega)).mono ?_
  rintro en w8 ⟨⟨b, rfl, hb⟩, hg8⟩
  obtain rfl : b = true := hb.2 rfl
  have G8 := hid_intro (grown_trans G7.out hg8)
  clear hb hg8 G7 L7 I7
  go_wp2_with fail
  refine (encode_wrong none 0 0 [] _ (Il.zero _ _) (fun x hx => by cases hx) rfl (by omega) (by decide)).mono ?_
  rintro en w9 ⟨rfl, hg9⟩
  rw [show wrong [] = 40 by decide]
  have G9 := hid_intro (grown_trans G8.out hg9)
  clear hg9 G8
  go_wp2_with fail
  refine (num4_any _ _).mono ?_
  rintro en w10 ⟨rfl, rfl⟩
  go_wp2_with fail
  refine (num4_any _ _).mono ?_
  rintro en w10 ⟨rfl, rfl⟩
  go_wp2
  go_ret
  exact ⟨rfl, G9.out⟩
def NoW (P : It → Bool) (L : List It) (i : Nat) : Prop := (L.take i).any P = false
theorem NoW.zero (P : It → Bool) (L : List It) : NoW P L 0 := by unfold NoW; simp
structure Gb (w wr : World) (base : Nat) (v : Value) (zs : List Int) : Prop where
 own : wr.ownsRow base 5 1 v zs.length (zs.map (Value.int .u8))
 gr : w.grownBy wr none
 le : w.heap.size ≤ base ∧ base ≤ wr.heap.size
theorem Gb.byt {w wr : World} {base : Nat} {v : Value} {zs : List Int} (h : Gb w wr base v zs) : ∃ ao cap, v = .slice ao zs.length cap ∧ Byt wr ao zs.length cap zs := owns_any h.own
theorem Gb.app {w wr w' : World} {base : Nat} {v v' : Value} {zs : List Int} {z : Int} (h : Gb w wr base v zs) (o : Obj) (ho : w'.ownsRow base 5 1 v' (zs.length + 1) ((zs ++ [z]).map (Value.int .u8))) (hg : (wr.alloc o).grownBy w' v.ownBlock) : Gb w w' base v' (zs ++ [z]) := by
 refine ⟨by rw [List.length_append]; exact ho, grown_own h.gr h.own h.le.1 hg, h.le.1, ?_⟩
 have := hg.size
 have := h.le.2
 simp at *
 omega
theorem Gb.keptN {w wr w' : World} {base : Nat} {v : Value} {zs : List Int} (h : Gb w wr base v zs) (hg : wr.grownBy w' none) : Gb w w' base v zs :=
 ⟨h.own.kept hg (by cases v.ownBlock <;> simp), grown_trans h.gr hg, h.le.1, Nat.le_trans h.le.2 hg.size⟩
theorem Gb.put {w wr w' : World} {v : Value} {zs : List Int} {n : Nat} (hl : zs.length = n) (ho : w'.ownsRow wr.heap.size 5 1 v n (zs.map (Value.int .u8))) (hw : w.grownBy wr none) (hg : wr.grownBy w' none) : Gb w w' wr.heap.size v zs :=
 ⟨by rw [hl]; exact ho, grown_trans hw hg, hw.size, hg.size⟩
theorem Bx.keptN {w w' : World} {T : Nat} {a b c d : Value} (h : Bx w T a b c d) (hg : w.grownBy w' none) : Bx w' T a b c d := h.kept hg (by simp)
end Go.Proofs.YtcdkkhbkicejiaaGreatDoor
