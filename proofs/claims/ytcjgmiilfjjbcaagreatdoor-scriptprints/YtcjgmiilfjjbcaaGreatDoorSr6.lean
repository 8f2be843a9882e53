import Derived.Test.YtcjgmiilfjjbcaaGreatDoorSr5
namespace Go.Proofs.YtcjgmiilfjjbcaaGreatDoor
open Go.RowKit

/-- A step's lists, all of them the call's own. -/
structure OpV (w : World) (B : Nat) (o : Opq) (kv vv hv fv : Value) : Prop where
  key : w.ownsRow B 5 1 kv o.key.length (o.key.map (Value.int .u8))
  val : w.ownsRow B 5 1 vv o.val.length (o.val.map (Value.int .u8))
  hi : w.ownsRow B 5 1 hv o.hi.length (o.hi.map (Value.int .u8))
  f : w.ownsRow B 43 2 fv o.f.length (fcl o.f)
  bk : Bt o.key
  bv : Bt o.val
  bh : Bt o.hi
theorem OpI.v {w : World} {B O : Nat} {o : Opq} {kv vv hv fv : Value} (h : OpI w B O o kv vv hv fv) : OpV w B o kv vv hv fv := ⟨h.key, h.val, h.hi, h.f, h.bk, h.bv, h.bh⟩
theorem OpV.keptN {w w' : World} {B : Nat} {o : Opq} {kv vv hv fv : Value} (h : OpV w B o kv vv hv fv) (hg : w.grownBy w' none) : OpV w' B o kv vv hv fv :=
  ⟨own_keptD h.key hg, own_keptD h.val hg, own_keptD h.hi hg, own_keptD h.f hg, h.bk, h.bv, h.bh⟩
theorem OpV.one {w w' : World} {B U : Nat} {o : Opq} {kv vv hv fv : Value} {cs : Array Value} {t : TypeId} (h : OpV w B o kv vv hv fv) (hU : w.heap[U]? = some (.cells cs t (0, 0))) (h1 : 5 ≠ t) (h2 : 43 ≠ t) (hg : w.grownBy w' (some U)) : OpV w' B o kv vv hv fv :=
  ⟨OpI.own h.key hU h1 hg, OpI.own h.val hU h1 hg, OpI.own h.hi hU h1 hg, OpI.own h.f hU h2 hg, h.bk, h.bv, h.bh⟩
/-- Words in memory. -/
def Wsl (w : World) (g o : Nat) (ws : List (List UInt8)) : Prop := ∀ i T, ws[i]? = some T → w.cell? ⟨g, o + i, none⟩ = some (.string (tstr T))
theorem Wsl.keptN {w w' : World} {g o : Nat} {ws : List (List UInt8)} (h : Wsl w g o ws) (hg : w.grownBy w' none) : Wsl w' g o ws := fun i T hi => cell_keptS (h i T hi) hg
theorem size_aopS : (Tryz.prog.info? 35).map (fun i => i.size) = some 8 := by kernel_rfl
theorem results_aop {fn : Func} {p u : Tmp} (h : fn.results = #[.cell p 35, .tmp u]) (tmps : Array Value) (w : World) (g : Nat) (a b c d e f k l : Value) (hp : tmps.getD p undef = .pointer (some ⟨g, 0, none⟩)) (hr : w.heap[g]? = some (.cells #[a, b, c, d, e, f, k, l] 35 (0, 0))) :
    (results fn tmps).run Tryz.prog w = .ok (.tuple #[.agg #[a, b, c, d, e, f, k, l], tmps.getD u undef]) w := by
  have hp' : tmps[p]?.getD undef = .pointer (some ⟨g, 0, none⟩) := by simpa using hp
  simp [results, h, hp', asAddr, run_loadVar_row w g 35 35 #[a, b, c, d, e, f, k, l] (0, 0) _ hr Tryz.underlying35 rfl (by rw [size_aopS]; rfl)]
/-- What readStep answers. -/
def RsP (w : World) (r : Except Int Opq) (en : Ending) (w' : World) : Prop := w.grownBy w' none ∧ ((∃ o kv vv hv fv, r = .ok o ∧ en = .returned (.tuple #[.agg #[.int .i64 o.k, .int .i64 o.a, .int .i64 o.b, .int .i64 o.c, kv, vv, hv, fv], .int .i64 0]) ∧ OpV w' w.heap.size o kv vv hv fv) ∨ ∃ e, r = .error e ∧ e ≠ 0 ∧ en = .returned (.tuple #[.agg #[.int .i64 0, .int .i64 0, .int .i64 0, .int .i64 0, .slice none 0 0, .slice none 0 0, .slice none 0 0, .slice none 0 0], .int .i64 e]))
theorem fsx_mem (k n : Nat) : ∀ c ∈ fsx k n, c ∈ [65, 66, 67, 75, 86, 72, 70] := by
  unfold fsx
  intro c hc
  split at hc
  · rw [List.eq_of_mem_replicate hc]; decide
  · by_cases hk : k < 23
    · have : ∀ k : Fin 23, ∀ c ∈ (stT.getD k.1 ([], [])).2, c ∈ [65, 66, 67, 75, 86, 72, 70] := by decide
      exact this ⟨k, hk⟩ c hc
    · rw [List.getD_eq_getElem?_getD, List.getElem?_eq_none (by rw [stT_len]; omega)] at hc
      cases hc
theorem kdw_lt (T : List UInt8) : kdw T < 23 := by
  have : ∀ (l : List (List UInt8 × List UInt8)) (i : Nat), kix T i l < i + l.length ∨ kix T i l = 0 := by
    intro l
    induction l with
    | nil => intro i; right; rfl
    | cons p l ih =>
      intro i
      rw [kix]
      split
      · left; simp
      · rcases ih (i + 1) with h | h
        · left; simp; omega
        · right; exact h
  rcases this stT 0 with h | h
  · rw [stT_len] at h; unfold kdw; omega
  · unfold kdw; omega
theorem box8_put {w : World} {g : Nat} {t : TypeId} {a b c d e f k l : Value} (h : w.heap[g]? = some (.cells #[a, b, c, d, e, f, k, l] t (0, 0))) (a' b' c' d' e' f' k' l' : Value) :
    ((((((((w.setCell ⟨g, 0, none⟩ a').setCell ⟨g, 1, none⟩ b').setCell ⟨g, 2, none⟩ c').setCell ⟨g, 3, none⟩ d').setCell ⟨g, 4, none⟩ e').setCell ⟨g, 5, none⟩ f').setCell ⟨g, 6, none⟩ k').setCell ⟨g, 7, none⟩ l').heap[g]? = some (.cells #[a', b', c', d', e', f', k', l'] t (0, 0)) ∧
    w.grownBy ((((((((w.setCell ⟨g, 0, none⟩ a').setCell ⟨g, 1, none⟩ b').setCell ⟨g, 2, none⟩ c').setCell ⟨g, 3, none⟩ d').setCell ⟨g, 4, none⟩ e').setCell ⟨g, 5, none⟩ f').setCell ⟨g, 6, none⟩ k').setCell ⟨g, 7, none⟩ l') (some g) := by
  obtain ⟨w0, hw0⟩ : ∃ x, x = w.setCell ⟨g, 0, none⟩ a' := ⟨_, rfl⟩
  have k0 : w0.heap[g]? = some (.cells #[a', b, c, d, e, f, k, l] t (0, 0)) := by rw [hw0]; exact heap_setCell_same _ g 0 _ _ a' h
  have g0 : w.grownBy w0 (some g) := by rw [hw0]; exact grown_cellS _ g 0 a'
  rw [← hw0]
  obtain ⟨w1, hw1⟩ : ∃ x, x = w0.setCell ⟨g, 1, none⟩ b' := ⟨_, rfl⟩
  have k1 : w1.heap[g]? = some (.cells #[a', b', c, d, e, f, k, l] t (0, 0)) := by rw [hw1]; exact heap_setCell_same _ g 1 _ _ b' k0
  have g1 : w0.grownBy w1 (some g) := by rw [hw1]; exact grown_cellS _ g 1 b'
  rw [← hw1]
  obtain ⟨w2, hw2⟩ : ∃ x, x = w1.setCell ⟨g, 2, none⟩ c' := ⟨_, rfl⟩
  have k2 : w2.heap[g]? = some (.cells #[a', b', c', d, e, f, k, l] t (0, 0)) := by rw [hw2]; exact heap_setCell_same _ g 2 _ _ c' k1
  have g2 : w1.grownBy w2 (some g) := by rw [hw2]; exact grown_cellS _ g 2 c'
  rw [← hw2]
  obtain ⟨w3, hw3⟩ : ∃ x, x = w2.setCell ⟨g, 3, none⟩ d' := ⟨_, rfl⟩
  have k3 : w3.heap[g]? = some (.cells #[a', b', c', d', e, f, k, l] t (0, 0)) := by rw [hw3]; exact heap_setCell_same _ g 3 _ _ d' k2
  have g3 : w2.grownBy w3 (some g) := by rw [hw3]; exact grown_cellS _ g 3 d'
  rw [← hw3]
  obtain ⟨w4, hw4⟩ : ∃ x, x = w3.setCell ⟨g, 4, none⟩ e' := ⟨_, rfl⟩
  have k4 : w4.heap[g]? = some (.cells #[a', b', c', d', e', f, k, l] t (0, 0)) := by rw [hw4]; exact heap_setCell_same _ g 4 _ _ e' k3
  have g4 : w3.grownBy w4 (some g) := by rw [hw4]; exact grown_cellS _ g 4 e'
  rw [← hw4]
  obtain ⟨w5, hw5⟩ : ∃ x, x = w4.setCell ⟨g, 5, none⟩ f' := ⟨_, rfl⟩
  have k5 : w5.heap[g]? = some (.cells #[a', b', c', d', e', f', k, l] t (0, 0)) := by rw [hw5]; exact heap_setCell_same _ g 5 _ _ f' k4
  have g5 : w4.grownBy w5 (some g) := by rw [hw5]; exact grown_cellS _ g 5 f'
  rw [← hw5]
  obtain ⟨w6, hw6⟩ : ∃ x, x = w5.setCell ⟨g, 6, none⟩ k' := ⟨_, rfl⟩
  have k6 : w6.heap[g]? = some (.cells #[a', b', c', d', e', f', k', l] t (0, 0)) := by rw [hw6]; exact heap_setCell_same _ g 6 _ _ k' k5
  have g6 : w5.grownBy w6 (some g) := by rw [hw6]; exact grown_cellS _ g 6 k'
  rw [← hw6]
  obtain ⟨w7, hw7⟩ : ∃ x, x = w6.setCell ⟨g, 7, none⟩ l' := ⟨_, rfl⟩
  have k7 : w7.heap[g]? = some (.cells #[a', b', c', d', e', f', k', l'] t (0, 0)) := by rw [hw7]; exact heap_setCell_same _ g 7 _ _ l' k6
  have g7 : w6.grownBy w7 (some g) := by rw [hw7]; exact grown_cellS _ g 7 l'
  rw [← hw7]
  exact ⟨k7, ((((((g0.trans g1).trans g2).trans g3).trans g4).trans g5).trans g6).trans g7⟩
theorem grown_iter1 (w : World) (K : Nat) (s : ByteArray) (p : Nat) : w.grownBy (w.iterAt K s p) (some K) :=
  ⟨rfl, rfl, rfl, by simp [World.iterAt], fun k _ hne => Lib.iterAt_other w K k s p (fun e => hne (by rw [e]))⟩
theorem own_neI {w : World} {b1 e1 s1 n1 : Nat} {v1 : Value} {x1 : List Value} {K : Nat} {s : ByteArray} {p : Nat} (h : w.ownsRow b1 e1 s1 v1 n1 x1) (k : w.heap[K]? = some (.stringIter s p)) : v1.ownBlock = none ∨ v1.ownBlock ≠ some K := by
  rcases h.2 with ⟨h1, _⟩ | ⟨g, cap, cur, h1, _, h3, _⟩
  · left; rw [h1]; rfl
  · right
    rw [h1]
    simp only [Value.ownBlock, ne_eq, Option.some.injEq]
    intro e
    subst e
    rw [h3] at k
    cases k
theorem OpI.iter {w w' : World} {B O K : Nat} {s : ByteArray} {p : Nat} {o : Opq} {kv vv hv fv : Value} (h : OpI w B O o kv vv hv fv) (k : w.heap[K]? = some (.stringIter s p)) (hg : w.grownBy w' (some K)) : OpI w' B O o kv vv hv fv := by
  have hb : w'.heap[O]? = w.heap[O]? := hg.block O (Array.getElem?_eq_some_iff.1 h.box).1 (fun e => by
    have hb := h.box
    rw [Option.some.inj e, k] at hb
    cases hb)
  exact ⟨hb.trans h.box, h.key.kept hg (own_neI h.key k), h.val.kept hg (own_neI h.val k), h.hi.kept hg (own_neI h.hi k), h.f.kept hg (own_neI h.f k), h.bk, h.bv, h.bh⟩
theorem heap_iterS {w w' : World} {K g : Nat} {s : ByteArray} {p : Nat} {cs : Array Value} {t : TypeId} {fr : Nat × Nat} (h : w.heap[g]? = some (.cells cs t fr)) (k : w.heap[K]? = some (.stringIter s p)) (hg : w.grownBy w' (some K)) : w'.heap[g]? = some (.cells cs t fr) := by
  rw [hg.block g (Array.getElem?_eq_some_iff.1 h).1 (fun e => ?_)]
  · exact h
  · rw [Option.some.inj e, k] at h; cases h
theorem rep_eq (m : Nat) : Lib.repeatL [70] m = List.replicate m 70 := by
  induction m with
  | zero => rfl
  | succ m ih => rw [Lib.repeatL, ih]; rfl
theorem opI_new {w : World} {O : Nat} {k : Int} (B : Nat) (h : w.heap[O]? = some (.cells #[.int .i64 k, .int .i64 0, .int .i64 0, .int .i64 0, .slice none 0 0, .slice none 0 0, .slice none 0 0, .slice none 0 0] 35 (0, 0))) : OpI w B O (Opq.zero k) (.slice none 0 0) (.slice none 0 0) (.slice none 0 0) (.slice none 0 0) :=
  ⟨h, ⟨rfl, .inl ⟨rfl, rfl⟩⟩, ⟨rfl, .inl ⟨rfl, rfl⟩⟩, ⟨rfl, .inl ⟨rfl, rfl⟩⟩, ⟨rfl, .inl ⟨rfl, rfl⟩⟩, Bt.nil, Bt.nil, Bt.nil⟩
set_option maxHeartbeats 16000000 in
set_option maxRecDepth 100000 in
theorem readStep_any (T0 : List UInt8) (lw : List (List UInt8)) (g m d : Nat) (w : World) (hL : Lv w) (hW : Wsl w g 0 (T0 :: lw)) (hn : lw.length = m) (hn2 : m ≤ 2000000) (hc : m ≤ d) (hT : ∀ T ∈ T0 :: lw, T.length ≤ 2000000000) : Calls Tryz.prog 56 #[.slice (some ⟨g, 0, none⟩) (m + 1) (d + 1)] w fun en w' => RsP w (stp (T0 :: lw)) en w' := by
  have HL : Hid (Lv w) := hL
  have HW := hid_intro hW
  have HT := hid_intro hT
  have HN := hid_intro hn
  have c0 : w.cell? ⟨g, 0, none⟩ = some (.string (tstr T0)) := hW 0 T0 rfl
  have HK := hid_intro (fun W hW => kindOf_any T0 W hW)
  have hkl := kdw_lt T0
  have hst : stp (T0 :: lw) = if kdw T0 = 0 then .error 231 else if m ≠ (fsx (kdw T0) m).length then .error 233 else flds (Opq.zero (kdw T0)) (fsx (kdw T0) m) lw := by
    unfold stp
    rw [List.length_cons, hn, Nat.add_sub_cancel]
    rfl
  have HS := hid_intro hst
  clear hL hW hT hst hn
  generalize stp (T0 :: lw) = R at *
  generalize hkd : kdw T0 = k at *
  clear hkd
  have c0a : ∀ o, (w.alloc o).cell? ⟨g, 0, none⟩ = some (.string (tstr T0)) := fun o => cell_keptS c0 (World.grownBy_alloc w o none)
  have gU := World.grownBy_alloc w (.cells #[.int .i64 0, .int .i64 0, .int .i64 0, .int .i64 0, .slice none 0 0, .slice none 0 0, .slice none 0 0, .slice none 0 0] 35) none
  have gO := World.grownBy_alloc (w.alloc (.cells #[.int .i64 0, .int .i64 0, .int .i64 0, .int .i64 0, .slice none 0 0, .slice none 0 0, .slice none 0 0, .slice none 0 0] 35)) (.cells #[.int .i64 (k : Nat), .int .i64 0, .int .i64 0, .int .i64 0, .slice none 0 0, .slice none 0 0, .slice none 0 0, .slice none 0 0] 35) none
  have xU := heap_keptS (heap_at0S w #[.int .i64 0, .int .i64 0, .int .i64 0, .int .i64 0, .slice none 0 0, .slice none 0 0, .slice none 0 0, .slice none 0 0] 35) gO
  have xO := heap_at0S (w.alloc (.cells #[.int .i64 0, .int .i64 0, .int .i64 0, .int .i64 0, .slice none 0 0, .slice none 0 0, .slice none 0 0, .slice none 0 0] 35)) #[.int .i64 (k : Nat), .int .i64 0, .int .i64 0, .int .i64 0, .slice none 0 0, .slice none 0 0, .slice none 0 0, .slice none 0 0] 35
  rw [show (w.alloc (.cells #[.int .i64 0, .int .i64 0, .int .i64 0, .int .i64 0, .slice none 0 0, .slice none 0 0, .slice none 0 0, .slice none 0 0] 35)).heap.size = w.heap.size + 1 by simp] at xO
  have G2 := hid_intro (grown_trans gU gO)
  have LU := hid_intro (HL.out.keptN gU).stp
  have XU := hid_intro xU
  have XO := hid_intro xO
  clear gU gO xU xO c0
  go_enter Tryz.func56, Tryz.ntmps56
  by_cases hk0 : k = 0
  · subst hk0
    go_wp2_with fail
    refine (HK.out _ LU.out).mono ?_
    rintro en w2 ⟨rfl, rfl⟩
    go_wp2
    refine bodyPost_ret (results_aop rfl _ _ w.heap.size _ _ _ _ _ _ _ _ rfl XU.out) rfl ?_
    exact ⟨G2.out, .inr ⟨231, by rw [HS.out]; rfl, by decide, rfl⟩⟩
  · have gk : ((k : Int) == 0) = false := by rw [beq_eq_false_iff_ne]; omega
    have HS2 : Hid (R = if m ≠ (fsx k m).length then .error 233 else flds (Opq.zero k) (fsx k m) lw) := by show _ = _; rw [HS.out, if_neg hk0]
    obtain ⟨p, hp⟩ : ∃ p, stT[k]? = some p := ⟨_, List.getElem?_eq_getElem (l := stT) (i := k) (by rw [stT_len]; exact hkl)⟩
    have hfx : fsx k m = if p.2 = [70] then List.replicate m 70 else p.2 := by unfold fsx; rw [List.getD_eq_getElem?_getD, hp]; rfl
    have HFX := hid_intro hfx
    have cs := ((HL.out.keptN G2.out).stp k p hp).2
    have hkz : (k : Int) < 23 := by omega
    have hkz0 : (0 : Int) ≤ (k : Int) := by omega
    clear hp hfx HS hk0 hkl
    go_wp2_with fail
    refine (HK.out _ LU.out).mono ?_
    rintro en w2 ⟨rfl, rfl⟩
    go_upto_region 4 with fail
    have cO := cell_heapS (i := 0) XO.out rfl
    generalize (w.alloc (.cells #[.int .i64 0, .int .i64 0, .int .i64 0, .int .i64 0, .slice none 0 0, .slice none 0 0, .slice none 0 0, .slice none 0 0] 35)).alloc (.cells #[.int .i64 (k : Nat), .int .i64 0, .int .i64 0, .int .i64 0, .slice none 0 0, .slice none 0 0, .slice none 0 0, .slice none 0 0] 35) = w2 at *
    clear c0a LU HK
    go_quiet (fail)
    obtain ⟨q, hq, hwq⟩ : ∃ q, (if d = 0 then some (⟨g, 0, none⟩ : Addr) else some ⟨g, 1, none⟩) = some ⟨g, q, none⟩ ∧ Wsl w g q lw := by
      by_cases hd : d = 0
      · refine ⟨0, if_pos hd, fun i T hi => ?_⟩
        have := (List.getElem?_eq_some_iff.1 hi).1
        have := HN.out
        omega
      · exact ⟨1, if_neg hd, fun i T hi => by have := HW.out (i + 1) T (by simpa using hi); rw [show 1 + i = 0 + (i + 1) by omega]; exact this⟩
    rw [hq]
    have HWQ := hid_intro hwq
    generalize hw3 : w2.drewN nq = w3
    have g23 : w2.grownBy w3 none := by rw [← hw3]; exact (Qt.drewN _ _).grown none
    have G3 := hid_intro (grown_trans G2.out g23)
    have I3 := hid_intro (opI_new w.heap.size (heap_keptS XO.out g23))
    have XU3 := hid_intro (heap_keptS XU.out g23)
    clear hq hwq hw3 g23 G2 XO XU HW cs cO
    have htl := tstr_toList p.2
    have hmz : (0 : Int) ≤ (m : Int) := by omega
    by_cases hF : p.2 = [70]
    case' pos =>
      have b1 : ((tstr p.2).toList == [70]) = true := by rw [htl, hF]; rfl
      have HR : Hid (∀ W, Calls Tryz.prog 75 #[.string ⟨#[70]⟩, .int .i64 (m : Nat)] W fun e w' => e = .returned (.string (tstr (fsx k m))) ∧ W.grownBy w' none) := fun W => by
        refine (repeat_call ⟨#[70]⟩ m W (by omega) (by show 1 * m ≤ _; omega)).mono ?_
        rintro e w' ⟨rfl, hb⟩
        refine ⟨?_, grown_below hb (Nat.le_refl _)⟩
        rw [HFX.out, if_pos hF]
        show Ending.returned (.string ⟨(Lib.repeatL [70] m).toArray⟩) = _
        rw [rep_eq]
        rfl
      clear htl hF HFX
      generalize tstr p.2 = sp at *
      go_wp2_with fail
      refine (HR.out _).mono ?_
      rintro en w4 ⟨rfl, hg4⟩
      have G4 := hid_intro (grown_trans G3.out hg4)
      have I4 := hid_intro (I3.out.keptN hg4)
      have XU4 := hid_intro (heap_keptS XU3.out hg4)
      clear hg4 b1 HR G3 I3 XU3
      go_upto_region 7 with fail
    case' neg =>
      have b1 : ((tstr p.2).toList == [70]) = false := by rw [htl, beq_eq_false_iff_ne]; exact hF
      have e1 : fsx k m = p.2 := by rw [HFX.out, if_neg hF]
      rw [← e1] at b1 ⊢
      clear htl hF HFX e1
      obtain ⟨w4, hw4⟩ : ∃ w4, w4 = w3 := ⟨_, rfl⟩
      have G4 := hid_intro (hw4 ▸ G3.out)
      have I4 := hid_intro (hw4 ▸ I3.out)
      have XU4 := hid_intro (hw4 ▸ XU3.out)
      go_upto_region 7 with fail
      clear b1 G3 I3 XU3
      rw [← hw4]
      clear hw4
    all_goals
      have hzf := tstr_size (fsx k m)
      have hmem := fsx_mem k m
      have htd := tstr_data (fsx k m)
      generalize fsx k m = fs at *
      have HMEM := hid_intro hmem
      have HTD := hid_intro htd
      clear hmem htd
      generalize tstr fs = s at *
      have hsS : (m : Int) ≤ 2000000 := by omega
      by_cases hlen : m = fs.length
      · have hsz : s.size = m := by omega
        have HS3 : Hid (R = flds (Opq.zero k) fs lw) := by show _ = _; rw [HS2.out, if_neg (by simp [hlen])]
        clear HS2 hzf hlen
        go_wp2
        generalize hK : w4.heap.size = Kb
        have IT : Hid ((w4.iter s 0).heap[Kb]? = some (.stringIter s 0)) := by rw [← hK]; exact World.iter_heap w4 s 0
        have gi : w4.grownBy (w4.iter s 0) none := World.grownBy_alloc w4 _ none
        have G5 := hid_intro (grown_trans G4.out gi)
        have I5 := hid_intro (I4.out.keptN gi)
        have XU5 := hid_intro (heap_keptS XU4.out gi)
        have hUO : w.heap.size < w4.heap.size := (Array.getElem?_eq_some_iff.1 XU4.out).1
        have HK : Hid (w.heap.size ≤ Kb) := by show _ ≤ _; omega
        clear hK hUO gi G4 I4 XU4
        generalize w4.iter s 0 = w5 at *
        go_loopw [6, 7, 8] (fun _ _ _ wr => ∃ (pos : Nat) (o : Opq) (kv vv hv fv : Value), pos ≤ m ∧ w.grownBy wr none ∧ wr.heap[Kb]? = some (.stringIter s pos) ∧ OpI wr w.heap.size (w.heap.size + 1) o kv vv hv fv ∧ wr.heap[w.heap.size]? = some (.cells #[.int .i64 0, .int .i64 0, .int .i64 0, .int .i64 0, .slice none 0 0, .slice none 0 0, .slice none 0 0, .slice none 0 0] 35 (0, 0)) ∧ R = flds o (fs.drop pos) (lw.drop pos) ∧ o.f.length ≤ pos) (fun _ _ _ wr => s.size - wr.iterPos Kb)
        case atStart => exact ⟨0, _, _, _, _, _, Nat.zero_le _, G5.out, IT.out, I5.out, XU5.out, HS3.out, Nat.le_refl _⟩
        case round =>
          obtain ⟨pos, o, kv, vv, hv, fv, hp', hg, hit, hI, hU, hR, hfl⟩ := hrel
          have HG := hid_intro hg
          have HIT := hid_intro hit
          have HI := hid_intro hI
          have HU := hid_intro hU
          have HR := hid_intro hR
          clear G5 IT I5 XU5 HS3 hg hit hI hU hR
          by_cases hp : pos < m
          · have hps : pos < s.size := by omega
            have hnx : ∀ ty, (Instr.next (.pointer (some ⟨Kb, 0, none⟩)) true ty).run Tryz.prog wr = _ := fun ty => Lib.run_next_any_at wr Kb s pos ty HIT.out hps
            have hgd := getD_data s pos hps
            rw [HTD.out] at hgd
            have hfl2 : pos < fs.length := by rw [← HTD.out, size_data]; exact hps
            have hfc : fs[pos]'hfl2 = s[pos]'hps := by rw [← hgd, List.getD, List.getElem?_eq_getElem hfl2]; rfl
            have hcm : (s[pos]'hps) ∈ [65, 66, 67, 75, 86, 72, 70] := HMEM.out _ (by rw [← hfc]; exact List.getElem_mem hfl2)
            have hasc : (s[pos]'hps).toNat < 128 := by
              have : ∀ c ∈ ([65, 66, 67, 75, 86, 72, 70] : List UInt8), c.toNat < 128 := by decide
              exact this _ hcm
            have hdec := decode_ascii s pos hps hasc
            rw [hdec] at hnx
            have hwl : pos < lw.length := by have := HN.out; omega
            obtain ⟨Tp, hTp⟩ : ∃ Tp, lw[pos]? = some Tp := ⟨_, List.getElem?_eq_getElem hwl⟩
            have HTL : Hid (Tp.length ≤ 2000000000) := HT.out Tp (List.mem_cons_of_mem _ (List.mem_of_getElem? hTp))
            have hR2 : flds o (fs.drop pos) (lw.drop pos) = match fld o (s[pos]'hps) Tp with | .ok o' => flds o' (fs.drop (pos + 1)) (lw.drop (pos + 1)) | .error e => .error e := by
              have hw1 := (List.getElem?_eq_some_iff.1 hTp).2
              rw [List.drop_eq_getElem_cons hfl2, List.drop_eq_getElem_cons hwl, hfc, hw1]
              rfl
            have HR2 : Hid (R = match fld o (s[pos]'hps) Tp with | .ok o' => flds o' (fs.drop (pos + 1)) (lw.drop (pos + 1)) | .error e => .error e) := by show _ = _; rw [HR.out, hR2]
            have cw := HWQ.out pos Tp hTp
            have HCM := hid_intro hcm
            have gi := grown_iter1 wr Kb s (pos + 1)
            have GI := hid_intro (grown_iter HG.out (k := Kb) HK.out s (pos + 1))
            have II := hid_intro (Lib.iterAt_heap wr Kb s pos (pos + 1) HIT.out)
            have OI := hid_intro (HI.out.iter HIT.out gi)
            have UI := hid_intro (heap_iterS HU.out HIT.out gi)
            have cwi := cell_keptS cw GI.out
            have e1 : (pos : Int) < (m : Int) := by omega
            have e2 : (0 : Int) ≤ (pos : Int) := by omega
            have HBS : Hid (w.heap.size ≤ (wr.iterAt Kb s (pos + 1)).heap.size) := GI.out.size
            clear hdec hgd hfl2 hfc hwl hTp hR2 HR cw gi hcm
            generalize s[pos]'hps = c at *
            go_wp2_with fail
            refine (readField_any c HCM.out Tp _ (HL.out.keptN GI.out) HTL.out OI.out HBS.out (by omega) (by omega)).mono ?_
            rintro en w7 ⟨⟨hb7, hf7⟩, hr7⟩
            have G7 := hid_intro (grown_ofBelow GI.out hb7)
            have I7 := hid_intro (hf7 Kb _ II.out (fun e => by have h1 := OI.out.box; rw [← e, II.out] at h1; cases h1) (fun cs fr e => by cases e))
            have U7 := hid_intro (hf7 w.heap.size _ UI.out (by omega) (fun cs fr e => by injection e with _ e2 _; exact absurd e2 (by decide)))
            clear hb7 hf7
            rcases hr7 with ⟨o', kv', vv', hv', fv', r1, rfl, hI7⟩ | ⟨er, r1, r2, rfl⟩
            · have HR3 : Hid (R = flds o' (fs.drop (pos + 1)) (lw.drop (pos + 1))) := by show _ = _; rw [HR2.out, r1]
              have HI7 := hid_intro hI7
              have HFL : Hid (o'.f.length ≤ pos + 1) := by have := fld_len r1; show _ ≤ _; omega
              have HMS : Hid (s.size - w7.iterPos Kb < s.size - wr.iterPos Kb) := by
                show _ < _
                simp only [World.iterPos, I7.out, HIT.out]
                omega
              clear r1 hI7 HR2
              go_wp2
              go_roundw
              case rel => exact ⟨pos + 1, o', kv', vv', hv', fv', by omega, G7.out, I7.out, HI7.out, U7.out, HR3.out, HFL.out⟩
              case measure => exact HMS.out
            · have HR3 : Hid (R = .error er) := by show _ = _; rw [HR2.out, r1]
              have ger : (er == 0) = false := by rw [beq_eq_false_iff_ne]; exact r2
              have d0 := cell_heapS (i := 0) U7.out rfl
              have zd0 := frozen_of_row w7 w.heap.size 0 _ _ U7.out
              have d1 := cell_heapS (i := 1) U7.out rfl
              have zd1 := frozen_of_row w7 w.heap.size 1 _ _ U7.out
              have d2 := cell_heapS (i := 2) U7.out rfl
              have zd2 := frozen_of_row w7 w.heap.size 2 _ _ U7.out
              have d3 := cell_heapS (i := 3) U7.out rfl
              have zd3 := frozen_of_row w7 w.heap.size 3 _ _ U7.out
              have d4 := cell_heapS (i := 4) U7.out rfl
              have zd4 := frozen_of_row w7 w.heap.size 4 _ _ U7.out
              have d5 := cell_heapS (i := 5) U7.out rfl
              have zd5 := frozen_of_row w7 w.heap.size 5 _ _ U7.out
              have d6 := cell_heapS (i := 6) U7.out rfl
              have zd6 := frozen_of_row w7 w.heap.size 6 _ _ U7.out
              have d7 := cell_heapS (i := 7) U7.out rfl
              have zd7 := frozen_of_row w7 w.heap.size 7 _ _ U7.out
              clear r1 HR2
              go_wp2
              obtain ⟨y1, y2⟩ := box8_put U7.out (.int .i64 0) (.int .i64 0) (.int .i64 0) (.int .i64 0) (.slice none 0 0) (.slice none 0 0) (.slice none 0 0) (.slice none 0 0)
              refine bodyPost_ret (results_aop rfl _ _ w.heap.size _ _ _ _ _ _ _ _ rfl (by first | exact y1 | exact U7.out)) rfl ?_
              exact ⟨by first | exact grown_new G7.out y2 (Nat.le_refl _) | exact G7.out, .inr ⟨er, HR3.out, r2, rfl⟩⟩
          · obtain rfl : pos = m := by omega
            have hps : ¬ pos < s.size := by omega
            have hnx : ∀ ty, (Instr.next (.pointer (some ⟨Kb, 0, none⟩)) true ty).run Tryz.prog wr = _ := fun ty => Lib.run_next_end_at wr Kb s pos ty HIT.out hps
            have HR3 : Hid (R = .ok o) := by
              show _ = _
              have hfl2 : fs.length = s.size := by rw [← HTD.out, size_data]
              rw [HR.out, List.drop_of_length_le (by omega)]
              simp only [flds]
            obtain ⟨ka, kc, hk1⟩ := own_shape20 HI.out.key
            obtain ⟨va, vc, hk2⟩ := own_shape20 HI.out.val
            obtain ⟨ha, hc', hk3⟩ := own_shape20 HI.out.hi
            obtain ⟨fa, fc, hk4⟩ := own_shape20 HI.out.f
            obtain ⟨kn, hkn⟩ : ∃ x, x = o.key.length := ⟨_, rfl⟩
            obtain ⟨vn, hvn⟩ : ∃ x, x = o.val.length := ⟨_, rfl⟩
            obtain ⟨hn', hhn⟩ : ∃ x, x = o.hi.length := ⟨_, rfl⟩
            obtain ⟨fn, hfn⟩ : ∃ x, x = o.f.length := ⟨_, rfl⟩
            rw [← hkn] at hk1
            rw [← hvn] at hk2
            rw [← hhn] at hk3
            rw [← hfn] at hk4
            clear hkn hvn hhn hfn
            subst hk1 hk2 hk3 hk4
            have d0 := cell_heapS (i := 0) HU.out rfl
            have zd0 := frozen_of_row wr w.heap.size 0 _ _ HU.out
            have d1 := cell_heapS (i := 1) HU.out rfl
            have zd1 := frozen_of_row wr w.heap.size 1 _ _ HU.out
            have d2 := cell_heapS (i := 2) HU.out rfl
            have zd2 := frozen_of_row wr w.heap.size 2 _ _ HU.out
            have d3 := cell_heapS (i := 3) HU.out rfl
            have zd3 := frozen_of_row wr w.heap.size 3 _ _ HU.out
            have d4 := cell_heapS (i := 4) HU.out rfl
            have zd4 := frozen_of_row wr w.heap.size 4 _ _ HU.out
            have d5 := cell_heapS (i := 5) HU.out rfl
            have zd5 := frozen_of_row wr w.heap.size 5 _ _ HU.out
            have d6 := cell_heapS (i := 6) HU.out rfl
            have zd6 := frozen_of_row wr w.heap.size 6 _ _ HU.out
            have d7 := cell_heapS (i := 7) HU.out rfl
            have zd7 := frozen_of_row wr w.heap.size 7 _ _ HU.out
            have x0 := cell_heapS (i := 0) HI.out.box rfl
            have x1 := cell_heapS (i := 1) HI.out.box rfl
            have x2 := cell_heapS (i := 2) HI.out.box rfl
            have x3 := cell_heapS (i := 3) HI.out.box rfl
            have x4 := cell_heapS (i := 4) HI.out.box rfl
            have x5 := cell_heapS (i := 5) HI.out.box rfl
            have x6 := cell_heapS (i := 6) HI.out.box rfl
            have x7 := cell_heapS (i := 7) HI.out.box rfl
            clear HR
            go_wp2
            obtain ⟨y1, y2⟩ := box8_put HU.out (.int .i64 o.k) (.int .i64 o.a) (.int .i64 o.b) (.int .i64 o.c) (.slice ka kn kc) (.slice va vn vc) (.slice ha hn' hc') (.slice fa fn fc)
            refine bodyPost_ret (results_aop rfl _ _ w.heap.size _ _ _ _ _ _ _ _ rfl y1) rfl ?_
            exact ⟨grown_new HG.out y2 (Nat.le_refl _), .inl ⟨o, _, _, _, _, HR3.out, rfl, HI.out.v.one HU.out (by decide) (by decide) y2⟩⟩
      · have hsz : s.size ≠ m := by omega
        have gz : ((m : Int) == (s.size : Int)) = false := by rw [beq_eq_false_iff_ne]; omega
        have HS3 : Hid (R = .error 233) := by show _ = _; rw [HS2.out, if_pos hlen]
        clear HS2 hlen hzf hsz
        have d0 := cell_heapS (i := 0) XU4.out rfl
        have zd0 := frozen_of_row w4 w.heap.size 0 _ _ XU4.out
        have d1 := cell_heapS (i := 1) XU4.out rfl
        have zd1 := frozen_of_row w4 w.heap.size 1 _ _ XU4.out
        have d2 := cell_heapS (i := 2) XU4.out rfl
        have zd2 := frozen_of_row w4 w.heap.size 2 _ _ XU4.out
        have d3 := cell_heapS (i := 3) XU4.out rfl
        have zd3 := frozen_of_row w4 w.heap.size 3 _ _ XU4.out
        have d4 := cell_heapS (i := 4) XU4.out rfl
        have zd4 := frozen_of_row w4 w.heap.size 4 _ _ XU4.out
        have d5 := cell_heapS (i := 5) XU4.out rfl
        have zd5 := frozen_of_row w4 w.heap.size 5 _ _ XU4.out
        have d6 := cell_heapS (i := 6) XU4.out rfl
        have zd6 := frozen_of_row w4 w.heap.size 6 _ _ XU4.out
        have d7 := cell_heapS (i := 7) XU4.out rfl
        have zd7 := frozen_of_row w4 w.heap.size 7 _ _ XU4.out
        go_wp2
        obtain ⟨y1, y2⟩ := box8_put XU4.out (.int .i64 0) (.int .i64 0) (.int .i64 0) (.int .i64 0) (.slice none 0 0) (.slice none 0 0) (.slice none 0 0) (.slice none 0 0)
        refine bodyPost_ret (results_aop rfl _ _ w.heap.size _ _ _ _ _ _ _ _ rfl (by first | exact y1 | exact XU4.out)) rfl ?_
        exact ⟨by first | exact grown_new G4.out y2 (Nat.le_refl _) | exact G4.out, .inr ⟨233, HS3.out, by decide, rfl⟩⟩
end Go.Proofs.YtcjgmiilfjjbcaaGreatDoor
