import Derived.Test.YtlfhonlifgpnhaaLeafR2
import Derived.Test.YtlfhonlifgpnhaaLeafR3
namespace Go.Proofs.Ytlfhonlifgpnhaa
open Go.RowKit

theorem take_snoc {zs : List Int} {i : Nat} (h : i < zs.length) : zs.take (i + 1) = zs.take i ++ [zs.getD i 0] := by
  rw [List.take_add_one, List.getElem?_eq_getElem h]
  simp [List.getD, List.getElem?_eq_getElem h]
theorem range_snoc {zs : List Int} {p i : Nat} (hp : p ≤ i) (h : i < zs.length) : (zs.drop p).take (i + 1 - p) = (zs.drop p).take (i - p) ++ [zs.getD i 0] := by
  have e : i + 1 - p = (i - p) + 1 := by omega
  rw [e, take_snoc (by rw [List.length_drop]; omega)]
  simp [List.getD, show p + (i - p) = i by omega]

/-- A list of bytes that the walk owns: it may grow. -/
structure Gb (w wr : World) (base : Nat) (v : Value) (zs : List Int) : Prop where
  own : wr.ownsRow base 5 1 v zs.length (zs.map (Value.int .u8))
  gr : w.grownBy wr none
  le : w.heap.size ≤ base ∧ base ≤ wr.heap.size
theorem Gb.byt {w wr : World} {base : Nat} {v : Value} {zs : List Int} (h : Gb w wr base v zs) : ∃ ao cap, v = .slice ao zs.length cap ∧ Byt wr ao zs.length cap zs := owns_any h.own
theorem Gb.app {w wr w' : World} {base : Nat} {v v' : Value} {zs : List Int} {z : Int} (h : Gb w wr base v zs) (o : Obj) (ho : w'.ownsRow base 5 1 v' (zs.length + 1) ((zs ++ [z]).map (Value.int .u8))) (hg : (wr.alloc o).grownBy w' v.ownBlock) : Gb w w' base v' (zs ++ [z]) := by
  refine ⟨by rw [List.length_append]; exact ho, grown_own h.gr h.own h.le.1 hg, h.le.1, ?_⟩
  have := hg.size
  have := h.le.2
  simp at *
  omega
theorem Gb.keptN {w wr w' : World} {base : Nat} {v : Value} {zs : List Int} (h : Gb w wr base v zs) (hg : wr.grownBy w' none) : Gb w w' base v zs :=
  ⟨h.own.kept hg (by cases v.ownBlock <;> simp), grown_trans h.gr hg, h.le.1, Nat.le_trans h.le.2 hg.size⟩

set_option maxHeartbeats 1000000 in
set_option maxRecDepth 100000 in
theorem refPut_own (ao : Option Addr) (n cap : Nat) (zs : List Int) (x d : Nat) (w : World) (hb : Byt w ao n cap zs) (hn : n ≤ 1099511627776) (_hx : x < 18446744073709551616) (hd : d ≤ 8) :
    Calls Try.prog 48 #[.slice ao n cap, .int .u64 x, .int .i64 d] w fun e w' => ∃ ao' cap', e = .returned (.slice ao' (n + d) cap') ∧ w'.ownsRow w.heap.size 5 1 (.slice ao' (n + d) cap') (n + d) ((zs ++ lb d x).map (Value.int .u8)) ∧ w.grownBy w' none ∧ w.heap.size ≤ w'.heap.size := by
  go_enter Try.func48, Try.ntmps48
  go_wp2_with fail
  refine (refBytes_any ao n cap zs _ hb (by omega)).mono ?_
  rintro en w0 ⟨rfl, hown0, hg0, hs0⟩
  clear hb
  go_wp2
  go_loopw [7, 8] (fun out si wr => ∃ (k : Nat), k ≤ d ∧ si = .int .i64 k ∧ wr.ownsRow w.heap.size 5 1 out (n + k) ((zs ++ lb k x).map (Value.int .u8)) ∧ w.grownBy wr none) (fun _ si _ => d - (intOf si).toNat)
  case atStart => exact ⟨0, by omega, rfl, by simpa [lb] using hown0, hg0⟩
  case round =>
    obtain ⟨k, hk, rfl, hown, hg⟩ := hrel
    by_cases hlt : k < d
    · go_wp2_with (at_builtin; refine wpList_append_byt rfl _ _ rfl w.heap.size _ (n + k) (zs ++ lb k x) rfl (hown.alloc _) (some ⟨wr.heap.size, 0, none⟩) 1 1 [(x : Int) / 2 ^ (8 * k) % 256] rfl (Byt.lit wr 5 _ [(x : Int) / 2 ^ (8 * k) % 256] 1 rfl rfl) (by omega) (by have := hg.size; simp; omega) ?_)
      intro v' w1 h1 h2
      have hg2 := grown_own hg hown (Nat.le_refl _) h2
      have hown2 : w1.ownsRow w.heap.size 5 1 v' (n + (k + 1)) ((zs ++ lb (k + 1) x).map (Value.int .u8)) := by
        rw [lb_snoc, List.map_append, List.map_append, ← Nat.add_assoc, ← shift_byte]
        simpa using h1
      clear h1 h2 hown
      go_wp2
      go_roundw
      case rel => exact ⟨k + 1, by omega, by go_num, hown2, hg2⟩
      case measure => simp [intOf]; omega
    · have hkd : k = d := by omega
      subst hkd
      obtain ⟨ao', cap', hv, hB⟩ := owns_any hown
      subst hv
      have HB := hid_intro hown
      have HG : Hid (w.grownBy wr none) := hg
      clear hB hown hg
      go_wp2
      go_ret
      exact ⟨_, _, rfl, HB.out, HG.out, HG.out.size⟩


set_option maxHeartbeats 1000000 in
set_option maxRecDepth 100000 in
theorem refPutV_own (ao : Option Addr) (n cap : Nat) (zs : List Int) (x : Nat) (w : World) (hb : Byt w ao n cap zs) (hn : n ≤ 1099511627776) (hx : x < 18446744073709551616) :
    Calls Try.prog 49 #[.slice ao n cap, .int .u64 x] w fun e w' => ∃ ao' cap', e = .returned (.slice ao' (n + (vform x).length) cap') ∧ w'.ownsRow w.heap.size 5 1 (.slice ao' (n + (vform x).length) cap') (n + (vform x).length) ((zs ++ vform x).map (Value.int .u8)) ∧ w.grownBy w' none ∧ w.heap.size ≤ w'.heap.size := by
  have HL : Hid (zs.length = n) := hb.len
  have hvl := vform_le x
  go_enter Try.func49, Try.ntmps49
  go_wp2_with fail
  refine (refBytes_any ao n cap zs _ hb (by omega)).mono ?_
  rintro en w0 ⟨rfl, hown0, hg0, hs0⟩
  clear hb
  go_wp2
  go_loopw [5, 1] (fun out sx wr => ∃ (f y : Nat) (pre : List Int), 1 ≤ f ∧ f ≤ 10 ∧ y < 2 * 128 ^ (f - 1) ∧ sx = .int .u64 y ∧ y < 18446744073709551616 ∧ pre ++ lf f y = zs ++ vform x ∧
      wr.ownsRow w.heap.size 5 1 out pre.length (pre.map (Value.int .u8)) ∧ w.grownBy wr none) (fun _ sx _ => (intOf sx).toNat)
  case atStart => exact ⟨10, x, zs, by omega, by omega, by simp; omega, rfl, hx, rfl, by rw [HL.out]; exact hown0, hg0⟩
  case round =>
    obtain ⟨f, y, pre, hf1, hf2, hy, rfl, hy64, hpre, hown, hg⟩ := hrel
    have HP : Hid (pre ++ lf f y = zs ++ vform x) := hpre
    have hpl : pre.length ≤ n + 10 := by have := congrArg List.length hpre; simp at this; have := HL.out; omega
    have HY : Hid (y < 2 * 128 ^ (f - 1)) := hy
    clear hpre hy
    by_cases hlt : y < 128
    · go_wp2_with (at_builtin; refine wpList_append_byt rfl _ _ rfl w.heap.size _ pre.length pre rfl (hown.alloc _) (some ⟨wr.heap.size, 0, none⟩) 1 1 [(y : Int)] rfl (Byt.lit wr 5 _ [(y : Int)] 1 rfl rfl) (by omega) (by have := hg.size; simp; omega) ?_)
      intro v' w1 h1 h2
      have hg2 := grown_own hg hown (Nat.le_refl _) h2
      have hfin : pre ++ [(y : Int)] = zs ++ vform x := by rw [← HP.out]; obtain ⟨f', rfl⟩ : ∃ f', f = f' + 1 := ⟨f - 1, by omega⟩; rw [lf_small f' y hlt]
      have hl1 : pre.length + 1 = n + (vform x).length := by have := congrArg List.length hfin; simp at this; have := HL.out; omega
      have h3 : w1.ownsRow w.heap.size 5 1 v' (n + (vform x).length) ((zs ++ vform x).map (Value.int .u8)) := by rw [← hfin, ← hl1]; simpa using h1
      obtain ⟨ao', cap', hv, hB⟩ := owns_any h3
      subst hv
      have HB := hid_intro h3
      have HG : Hid (w.grownBy w1 none) := hg2
      clear hB hown hg h1 h2 h3 hfin hl1 hg2
      go_wp2
      go_ret
      exact ⟨_, _, rfl, HB.out, HG.out, HG.out.size⟩
    · go_wp2_with (at_builtin; refine wpList_append_byt rfl _ _ rfl w.heap.size _ pre.length pre rfl (hown.alloc _) (some ⟨wr.heap.size, 0, none⟩) 1 1 [(y : Int) % 128 + 128] rfl (Byt.lit wr 5 _ [(y : Int) % 128 + 128] 1 rfl rfl) (by omega) (by have := hg.size; simp; omega) ?_)
      intro v' w1 h1 h2
      have hg2 := grown_own hg hown (Nat.le_refl _) h2
      obtain ⟨f', rfl⟩ : ∃ f', f = f' + 1 := ⟨f - 1, by omega⟩
      have hy := HY.out
      have hp := HP.out
      rw [lf_big f' y hlt] at hp
      have hf' : 1 ≤ f' := by
        rcases Nat.eq_zero_or_pos f' with h | h
        · subst h; simp at hy; omega
        · exact h
      have hy2 : y / 128 < 2 * 128 ^ (f' - 1) := by
        rw [Nat.add_sub_cancel, show f' = (f' - 1) + 1 by omega, Nat.pow_succ] at hy
        omega
      have hp2 : (pre ++ [(y : Int) % 128 + 128]) ++ lf f' (y / 128) = zs ++ vform x := by rw [← hp]; simp
      have HP2 : Hid ((pre ++ [(y : Int) % 128 + 128]) ++ lf f' (y / 128) = zs ++ vform x) := hp2
      have HY2 : Hid (y / 128 < 2 * 128 ^ (f' - 1)) := hy2
      have H1 : Hid (w1.ownsRow w.heap.size 5 1 v' (pre ++ [(y : Int) % 128 + 128]).length ((pre ++ [(y : Int) % 128 + 128]).map (Value.int .u8))) := by
        show w1.ownsRow _ _ _ _ _ _
        simpa using h1
      clear hp hp2 hy hy2 HP HY h1 h2 hown
      go_wp2
      go_roundw
      case rel => exact ⟨f', y / 128, pre ++ [(y : Int) % 128 + 128], hf', by omega, HY2.out, by go_num, by omega, HP2.out, H1.out, hg2⟩
      case measure => simp [intOf]; omega


theorem Gb.put {w wr w' : World} {v : Value} {zs : List Int} {n : Nat} (hl : zs.length = n) (ho : w'.ownsRow wr.heap.size 5 1 v n (zs.map (Value.int .u8))) (hw : w.grownBy wr none) (hg : wr.grownBy w' none) : Gb w w' wr.heap.size v zs :=
  ⟨by rw [hl]; exact ho, grown_trans hw hg, hw.size, hg.size⟩

theorem grown_app {w wr w1 : World} {o : Obj} {base n : Nat} {v : Value} {xs : List Value} (hg : w.grownBy wr none) (hown : wr.ownsRow base 5 1 v n xs) (hb : w.heap.size ≤ base) (h : (wr.alloc o).grownBy w1 v.ownBlock) : w.grownBy w1 none := grown_own hg hown hb h

/-- An item in its box, through growth. -/
theorem Bx.keptN {w w' : World} {T : Nat} {a b c d : Value} (h : Bx w T a b c d) (hg : w.grownBy w' none) : Bx w' T a b c d := h.kept hg (by simp)

set_option maxHeartbeats 4000000 in
set_option maxRecDepth 100000 in
/-- coppiceref4.cell. -/
theorem refCell_any (ao : Option Addr) (n c : Nat) (bo : Option Addr) (m d : Nat) (s f : Int) (p : Nat) (x : It) (w : World) (hk : Byt w ao n c x.key) (hv : Byt w bo m d x.val) (hs : x.size = s) (hf : x.first = f) (h1 : ws x = false) (h2 : wv x = false) (hib : Itb x) (hp : p ≤ n) :
    Calls Try.prog 50 #[.agg #[.slice ao n c, .slice bo m d, .int .i64 s, .int .i64 f], .int .i64 p] w fun en w' => ∃ ao' cap', en = .returned (.slice ao' (cb p x).length cap') ∧ Byt w' ao' (cb p x).length cap' (cb p x) ∧ w.grownBy w' none ∧ (∀ ad, ao' = some ad → w.heap.size ≤ ad.block) := by
  obtain ⟨a1, a2, a3, a4⟩ := ws_parts h1
  have hlk := hk.len
  have hlv := hv.len
  have hkb := hib.key
  have hvb := hib.val
  have htt := tg_lt s
  obtain ⟨r, hr⟩ : ∃ r, n - p = r := ⟨_, rfl⟩
  have hr' : (n : Int) - (p : Int) = (r : Int) := by omega
  have hvl := wv_parts h2
  rw [hs, hf] at hvl
  have HCB : Hid (cb p x = vform r ++ (x.key.drop p ++ (vform (tg s) ++ (if 512 < s then lb 4 f.toNat else x.val)))) := by show _ = _; unfold cb; rw [hlk, hr, hs, hf]
  have ga := World.grownBy_alloc w (.cells #[.slice ao n c, .slice bo m d, .int .i64 s, .int .i64 f] 48) none
  have G1 := hid_intro ga
  have K1 := hid_intro (hk.keptN ga)
  have V1 := hid_intro (hv.keptN ga)
  have X1 := hid_intro (Bx.new w (.slice ao n c) (.slice bo m d) (.int .i64 s) (.int .i64 f))
  have hn5 : n ≤ 255 := by omega
  have HW0 := hid_intro ga
  clear ga hk hv hr
  go_enter Try.func50, Try.ntmps50
  go_wp2_with fail
  generalize w.alloc (.cells #[.slice ao n c, .slice bo m d, .int .i64 s, .int .i64 f] 48) = w1 at *
  generalize hT : w.heap.size = T at *
  have HT := hid_intro hT
  clear hT
  have hv1 : (vform r).length ≤ 10 := vl_le r
  refine (refPutV_own none 0 0 [] r _ (Byt.empty _) (by omega) (by omega)).mono ?_
  rintro en w2 ⟨ao2, c2, rfl, ho2, hg2, hs2⟩
  have B2 := hid_intro (Gb.put (w := w) (n := 0 + (vform r).length) (by simp) ho2 G1.out hg2)
  have K2 := hid_intro (K1.out.keptN hg2)
  have V2 := hid_intro (V1.out.keptN hg2)
  have HG12 := hid_intro hg2
  clear ho2 hg2 hs2 K2 V2
  rw [Nat.zero_add] at *
  rw [List.nil_append] at B2
  have HR : Hid (x.key.length - p = r) := by show _ = _; omega
  have G2 : Hid (w1.grownBy w2 none) := HG12.out
  clear HG12
  generalize vform r = A at *
  go_wp2
  go_loopw [5, 6] (fun so si wr => ∃ (i base : Nat), w1.heap.size ≤ base ∧ p ≤ i ∧ i ≤ n ∧ si = .int .i64 i ∧ Gb w wr base so (A ++ (x.key.drop p).take (i - p)) ∧ w1.grownBy wr none) (fun _ si _ => n - (intOf si).toNat)
  case atStart => exact ⟨p, w1.heap.size, Nat.le_refl _, Nat.le_refl _, hp, rfl, by rw [Nat.sub_self, List.take_zero, List.append_nil]; exact B2.out, G2.out⟩
  case round =>
    obtain ⟨i, base, hbs, hi1, hi2, rfl, hgb, hgr⟩ := hrel
    have HGB := hid_intro hgb
    have HGR := hid_intro hgr
    clear hgb hgr B2 G2
    obtain ⟨x0, x1, x2, x3⟩ := (Bx.kept X1.out HGR.out (by simp)).cells
    by_cases hlt : i < n
    · obtain ⟨kb, ko, rfl, _, hkc⟩ := K1.out.at (by omega)
      have ck := HGR.out.cell (hkc i hlt) (by simp)
      have hsn := range_snoc (zs := x.key) hi1 (by omega)
      have hz : 0 ≤ x.key.getD i 0 ∧ x.key.getD i 0 ≤ 255 := hkb.getD i
      generalize x.key.getD i 0 = z at *
      obtain ⟨Z, hZ⟩ : ∃ Z, A ++ (x.key.drop p).take (i - p) = Z := ⟨_, rfl⟩
      have HN : Hid (A ++ (x.key.drop p).take (i + 1 - p) = Z ++ [z]) := by show _ = _; rw [hsn, ← hZ, List.append_assoc]
      have hzl : Z.length ≤ 300 := by rw [← hZ, List.length_append, List.length_take]; omega
      rw [hZ] at HGB
      clear hZ hsn hkc
      have hle := HGB.out.le.2
      go_wp2_with (at_builtin; refine wpList_append_byt rfl _ _ rfl base _ Z.length Z rfl (HGB.out.own.alloc _) (some ⟨wr.heap.size, 0, none⟩) 1 1 [z] rfl (Byt.lit wr 5 _ [z] 1 rfl rfl) (by omega) (by simp; omega) ?_)
      intro v' w3 ho3 hg3
      have hg4 := grown_app HGR.out HGB.out.own hbs hg3
      have GB3 := hid_intro (HGB.out.app _ (by simpa using ho3) hg3)
      have GR3 := hid_intro hg4
      clear ho3 hg3 hg4 HGB HGR x0 x1 x2 x3 ck
      go_wp2
      go_roundw
      case rel => exact ⟨i + 1, base, hbs, by omega, by omega, by go_num, by rw [HN.out]; exact GB3.out, GR3.out⟩
      case measure => simp [intOf]; omega
    · have hin : n = i := by omega
      subst hin
      have e9 : (x.key.drop p).take (n - p) = x.key.drop p := List.take_of_length_le (by rw [List.length_drop]; omega)
      rw [e9] at HGB
      clear e9
      have HLA : Hid ((A ++ x.key.drop p).length ≤ 300) := by show _ ≤ _; rw [List.length_append, List.length_drop]; omega
      generalize hZ : A ++ x.key.drop p = Z at *
      have HZ := hid_intro hZ
      clear hZ
      obtain ⟨ca, cc, e9, hbz⟩ := HGB.out.byt
      subst e9
      have BZ := hid_intro hbz
      have hzl : Z.length ≤ 300 := HLA.out
      clear hbz HGB HLA
      go_wp2_with fail
      refine (refTag_any s _).mono ?_
      rintro en w4 ⟨rfl, rfl⟩
      go_wp2_with fail
      refine (refPutV_own ca Z.length cc Z (tg s) _ BZ.out (by omega) (by omega)).mono ?_
      rintro en w5 ⟨ao5, c5, rfl, ho5, hg5, _⟩
      have hv2 : (vform (tg s)).length ≤ 10 := vl_le _
      have GB5 := hid_intro (Gb.put (w := w) (n := Z.length + (vform (tg s)).length) (by rw [List.length_append]) ho5 (grown_trans HW0.out HGR.out) hg5)
      have GR5 := hid_intro (grown_trans HGR.out hg5)
      have S5 := hid_intro HGR.out.size
      have G5s := hid_intro (grown_trans HW0.out (grown_trans HGR.out hg5)).size
      clear ho5 hg5 BZ HGR x0 x1 x2 x3
      rw [← List.length_append] at GB5 ⊢
      generalize hY : Z ++ vform (tg s) = Y at *
      have HY := hid_intro hY
      have hyl : Y.length ≤ 310 := by rw [← hY, List.length_append]; omega
      clear hY
      obtain ⟨x0, x1, x2, x3⟩ := (Bx.kept X1.out GR5.out (by simp)).cells
      by_cases h5 : 512 < s
      · rw [if_pos h5] at HCB
        obtain ⟨fn, hfn⟩ : ∃ fn : Nat, f = (fn : Int) := ⟨f.toNat, by omega⟩
        subst hfn
        obtain ⟨ca6, cc6, e6, hb6⟩ := GB5.out.byt
        injection e6 with e61 e62 e63
        subst e61 e63
        have B6 := hid_intro hb6
        clear hb6 e62 GB5
        go_wp2_with fail
        refine (refPut_own ao5 Y.length c5 Y fn 4 _ B6.out (by omega) (by omega) (by omega)).mono ?_
        rintro en w7 ⟨ao7, c7, rfl, ho7, hg7, _⟩
        have G7 := hid_intro (grown_trans HW0.out (grown_trans GR5.out hg7))
        have e7 : cb p x = Y ++ lb 4 fn := by rw [HCB.out, Int.toNat_natCast, ← HY.out, ← HZ.out]; simp only [List.append_assoc]
        have hl7 : Y.length + 4 = (cb p x).length := by rw [e7, List.length_append, lb_len]
        rw [hl7, ← e7] at ho7
        rw [hl7]
        obtain ⟨ca8, cc8, e8, hb8⟩ := owns_any ho7
        injection e8 with e81 e82 e83
        subst e81 e83
        have B8 := hid_intro hb8
        have N8 := hid_intro (fun ad (e : ao7 = some ad) => Nat.le_trans G5s.out (ho7.lt ad.block (by rw [e]; rfl)).1)
        clear ho7 hg7 hb8 e82 e7 hl7 B6 GR5 x0 x1 x2 x3
        go_wp2
        go_ret
        exact ⟨_, _, rfl, B8.out, G7.out, N8.out⟩
      · rw [if_neg h5] at HCB
        have hm2 : m ≤ 512 := by omega
        go_wp2
        go_loopw [5, 7] (fun so si wr => ∃ (j base : Nat), w1.heap.size ≤ base ∧ j ≤ m ∧ si = .int .i64 j ∧ Gb w wr base so (Y ++ x.val.take j) ∧ w1.grownBy wr none) (fun _ si _ => m - (intOf si).toNat)
        case atStart => exact ⟨0, _, S5.out, Nat.zero_le _, rfl, by rw [List.take_zero, List.append_nil]; exact GB5.out, GR5.out⟩
        case round =>
          obtain ⟨j, base2, hbs2, hj, rfl, hgb, hgr⟩ := hrel
          have HGB := hid_intro hgb
          have HGR := hid_intro hgr
          clear hgb hgr GB5 GR5 x0 x1 x2 x3
          obtain ⟨x0, x1, x2, x3⟩ := (Bx.kept X1.out HGR.out (by simp)).cells
          by_cases hlt2 : j < m
          · obtain ⟨vb, vo, rfl, _, hvc⟩ := V1.out.at (by omega)
            have cv := HGR.out.cell (hvc j hlt2) (by simp)
            have hsn := take_snoc (zs := x.val) (i := j) (by omega)
            have hz : 0 ≤ x.val.getD j 0 ∧ x.val.getD j 0 ≤ 255 := hvb.getD j
            generalize x.val.getD j 0 = z at *
            obtain ⟨Z2, hZ2⟩ : ∃ Z2, Y ++ x.val.take j = Z2 := ⟨_, rfl⟩
            have HN : Hid (Y ++ x.val.take (j + 1) = Z2 ++ [z]) := by show _ = _; rw [hsn, ← hZ2, List.append_assoc]
            have hzl2 : Z2.length ≤ 900 := by rw [← hZ2, List.length_append, List.length_take]; omega
            rw [hZ2] at HGB
            clear hZ2 hsn hvc
            have hle := HGB.out.le.2
            go_wp2_with (at_builtin; refine wpList_append_byt rfl _ _ rfl base2 _ Z2.length Z2 rfl (HGB.out.own.alloc _) (some ⟨wr.heap.size, 0, none⟩) 1 1 [z] rfl (Byt.lit wr 5 _ [z] 1 rfl rfl) (by omega) (by simp; omega) ?_)
            intro v' w3 ho3 hg3
            have hg4 := grown_app HGR.out HGB.out.own hbs2 hg3
            have GB3 := hid_intro (HGB.out.app _ (by simpa using ho3) hg3)
            have GR3 := hid_intro hg4
            clear ho3 hg3 hg4 HGB HGR x0 x1 x2 x3 cv
            go_wp2
            go_roundw
            case rel => exact ⟨j + 1, base2, hbs2, by omega, by go_num, by rw [HN.out]; exact GB3.out, GR3.out⟩
            case measure => simp [intOf]; omega
          · have hjm : m = j := by omega
            subst hjm
            have e7 : Y ++ x.val.take m = cb p x := by rw [List.take_of_length_le (by omega), HCB.out, ← HY.out, ← HZ.out]; simp only [List.append_assoc]
            rw [e7] at HGB
            obtain ⟨ca8, cc8, e8, hb8⟩ := HGB.out.byt
            subst e8
            have B8 := hid_intro hb8
            have G8 := hid_intro HGB.out.gr
            have N8 := hid_intro (fun ad (e : ca8 = some ad) => Nat.le_trans HGB.out.le.1 (HGB.out.own.lt ad.block (by rw [e]; rfl)).1)
            clear hb8 HGB e7
            go_wp2
            go_ret
            exact ⟨_, _, rfl, B8.out, G8.out, N8.out⟩
end Go.Proofs.Ytlfhonlifgpnhaa
