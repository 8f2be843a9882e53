import Derived.Test.YtioleabkbkmggaaDoorDuB
namespace Go.Proofs.YtioleabkbkmggaaDoor
open Go.RowKit

def szd (t : List UInt8) (lo hi : Nat) : Rs (List Int) := match uh t with
  | none => .error 201
  | some b => if b.length < lo ∨ hi < b.length then .error 41 else .ok b
def SzP (w : World) (r : Rs (List Int)) (en : Ending) (w' : World) : Prop := w.grownBy w' none ∧ ((∃ e : Int, r = .error e ∧ e ≠ 0 ∧ en = .returned (.tuple #[.slice none 0 0, .int .i64 e])) ∨
  ∃ b ao c, r = .ok b ∧ en = .returned (.tuple #[.slice ao b.length c, .int .i64 0]) ∧ Bt b ∧ w'.ownsRow w.heap.size 5 1 (.slice ao b.length c) b.length (b.map (Value.int .u8)))
set_option maxHeartbeats 1000000 in
set_option maxRecDepth 100000 in
theorem sized_any (t : List UInt8) (lo hi : Nat) (w : World) (ht : t.length ≤ 2000000000) :
    Calls Tryd.prog 57 #[.string (tstr t), .int .i64 (lo : Nat), .int .i64 (hi : Nat)] w fun en w' => SzP w (szd t lo hi) en w' := by
  have HC := hid_intro (unhex_any (tstr t) w (by rw [tstr_size]; exact ht))
  rw [tstr_data] at HC
  have HS : Hid (szd t lo hi = match uh t with | none => .error 201 | some b => if b.length < lo ∨ hi < b.length then .error 41 else .ok b) := rfl
  have HUB : Hid (∀ b, uh t = some b → Bt b ∧ 2 * b.length ≤ t.length) := fun b hb => ⟨(hx_uh hb).2, uh_len hb⟩
  generalize szd t lo hi = r at *
  generalize tstr t = s at *
  go_enter Tryd.func57, Tryd.ntmps57
  go_wp2_with fail
  refine HC.out.mono ?_
  rintro en w2 ⟨hg, ⟨hu, rfl⟩ | ⟨b, ao, c, hu, rfl, ho⟩⟩
  · have HG := hid_intro hg
    have HR : Hid (r = .error 201) := by rw [HS.out, hu]; rfl
    clear hg hu
    go_wp2
    go_ret2
    exact ⟨HG.out, .inl ⟨201, HR.out, by decide, rfl⟩⟩
  · have HG := hid_intro hg
    obtain ⟨hbt, hbl⟩ := HUB.out b hu
    have HR : Hid (r = if b.length < lo ∨ hi < b.length then .error 41 else .ok b) := by show _ = _; rw [HS.out, hu]
    have HO := hid_intro ho
    have HBT := hid_intro hbt
    clear hg ho hbt hu
    obtain ⟨n, hn⟩ : ∃ n, b.length = n := ⟨_, rfl⟩
    have HN := hid_intro hn
    rw [hn] at HR HO hbl ⊢
    clear hn
    by_cases h1 : n < lo
    · have g1 : (n : Int) < (lo : Int) := by omega
      rw [if_pos (.inl h1)] at HR
      go_wp2
      go_ret2
      exact ⟨HG.out, .inl ⟨41, HR.out, by decide, rfl⟩⟩
    · have g1 : ¬ (n : Int) < (lo : Int) := by omega
      by_cases h2 : hi < n
      · have g2 : (hi : Int) < (n : Int) := by omega
        rw [if_pos (.inr h2)] at HR
        go_wp2
        go_ret2
        exact ⟨HG.out, .inl ⟨41, HR.out, by decide, rfl⟩⟩
      · have g2 : ¬ (hi : Int) < (n : Int) := by omega
        rw [if_neg (by omega)] at HR
        go_wp2
        go_ret2
        exact ⟨HG.out, .inr ⟨b, ao, c, HR.out, by rw [HN.out]; rfl, HBT.out, by rw [HN.out]; exact HO.out⟩⟩

theorem pp_eq (a : List Int) (line : List UInt8) : pp a line = if cua 32 line = [] ∨ cub 32 line = [] ∨ 32 ∈ cub 32 line then .error 200 else
    match szd (cua 32 line) 1 255 with
    | .error e => .error e
    | .ok k => match szd (cub 32 line) 0 262144 with
      | .error e => .error e
      | .ok v => if cmpZ k a ≤ 0 then .error 30 else .ok (k, v) := by
  unfold pp cua cub
  cases h : cutC 32 line with
  | none => simp
  | some q =>
    obtain ⟨l, r⟩ := q
    simp only
    by_cases hc : l = [] ∨ r = [] ∨ 32 ∈ r
    · rw [if_pos hc, if_pos hc]
    · rw [if_neg hc, if_neg hc]
      unfold szd
      cases uh l with
      | none => rfl
      | some k =>
        simp only
        by_cases h1 : k.length < 1 ∨ 255 < k.length
        · rw [if_pos h1, if_pos h1]
        · rw [if_neg h1, if_neg h1]
          cases uh r with
          | none => rfl
          | some v =>
            simp only
            by_cases h2 : 262144 < v.length
            · rw [if_pos h2, if_pos (.inr h2)]
            · have h3 : ¬ (v.length < 0 ∨ 262144 < v.length) := by omega
              rw [if_neg h2, if_neg h3]
theorem size_pairD : (Tryd.prog.info? 44).map (fun i => i.size) = some 2 := by kernel_rfl
theorem results_pairD {fn : Func} {p u : Tmp} (h : fn.results = #[.cell p 44, .tmp u]) (tmps : Array Value) (w : World) (g : Nat) (x y : Value) (hp : tmps.getD p undef = .pointer (some ⟨g, 0, none⟩)) (hr : w.heap[g]? = some (.cells #[x, y] 44 (0, 0))) :
    (results fn tmps).run Tryd.prog w = .ok (.tuple #[.agg #[x, y], tmps.getD u undef]) w := by
  have hp' : tmps[p]?.getD undef = .pointer (some ⟨g, 0, none⟩) := by simpa using hp
  simp [results, h, hp', asAddr, run_loadVar_row w g 44 44 #[x, y] (0, 0) _ hr Tryd.underlying44 rfl (by rw [size_pairD]; rfl)]
theorem grown_cellD (w : World) (g i : Nat) (v : Value) : w.grownBy (w.setCell ⟨g, i, none⟩ v) (some g) :=
  ⟨rfl, rfl, rfl, by simp [World.setCell], fun k _ hk => Below.heap_setCell _ _ _ _ (fun e => hk (by rw [e]))⟩
theorem grown_transD {a b c : World} {r : Option Nat} (h : a.grownBy b r) (k : b.grownBy c r) : a.grownBy c r :=
  ⟨k.os.trans h.os, k.tape.trans h.tape, k.output.trans h.output, Nat.le_trans h.size k.size, fun j hj hn => (k.block j (Nat.lt_of_lt_of_le hj h.size) hn).trans (h.block j hj hn)⟩
/-- A pair is laid into its box. -/
theorem pair_putD {w : World} {g : Nat} {x y : Value} (e : w.heap[g]? = some (.cells #[x, y] 44 (0, 0))) (u v : Value) : ((w.setCell ⟨g, 0, none⟩ u).setCell ⟨g, 1, none⟩ v).heap[g]? = some (.cells #[u, v] 44 (0, 0)) ∧ w.grownBy ((w.setCell ⟨g, 0, none⟩ u).setCell ⟨g, 1, none⟩ v) (some g) := by
  have k1 := heap_setCell_same w g 0 _ _ u e
  have k2 := heap_setCell_same _ g 1 _ _ v k1
  refine ⟨?_, grown_transD (grown_cellD w g 0 u) (grown_cellD _ g 1 v)⟩
  rw [k2]
  rfl
theorem grown_boxD {w w1 w2 : World} {g : Nat} (h : w.grownBy w1 none) (k : w1.grownBy w2 (some g)) (hg : w.heap.size ≤ g) : w.grownBy w2 none :=
  ⟨k.os.trans h.os, k.tape.trans h.tape, k.output.trans h.output, Nat.le_trans h.size k.size, fun j hj hn => (k.block j (Nat.lt_of_lt_of_le hj h.size) (fun e => by have := Option.some.inj e; omega)).trans (h.block j hj hn)⟩
theorem own_boxD {w1 w2 : World} {g base e sz n : Nat} {v : Value} {xs : List Value} (h : w1.ownsRow base e sz v n xs) (k : w1.grownBy w2 (some g)) (hg : g < base) : w2.ownsRow base e sz v n xs := by
  refine h.kept k ?_
  cases hv : v.ownBlock with
  | none => exact .inl rfl
  | some b => exact .inr (fun e => by have := (h.lt b hv).1; have := Option.some.inj e; omega)
theorem own_keptD {w w' : World} {base e sz n : Nat} {v : Value} {xs : List Value} (h : w.ownsRow base e sz v n xs) (k : w.grownBy w' none) : w'.ownsRow base e sz v n xs := by
  refine h.kept k ?_
  cases v.ownBlock with
  | none => exact .inl rfl
  | some b => exact .inr (by simp)
theorem own_low {w : World} {base base' e sz n : Nat} {v : Value} {xs : List Value} (h : w.ownsRow base e sz v n xs) (hb : base' ≤ base) : w.ownsRow base' e sz v n xs := by
  refine ⟨h.1, ?_⟩
  rcases h.2 with h | ⟨g, cap, cur, h1, h2, h3⟩
  · exact .inl h
  · exact .inr ⟨g, cap, cur, h1, Nat.le_trans hb h2, h3⟩
theorem own_heapD {w W : World} {base e sz n : Nat} {v : Value} {xs : List Value} (h : w.ownsRow base e sz v n xs) (hW : W.heap = w.heap) : W.ownsRow base e sz v n xs := own_same20 h hW
/-- What parsePair answers. -/
def PpP (w : World) (r : Rs Pq) (en : Ending) (w' : World) : Prop := w.grownBy w' none ∧ ((∃ e : Int, r = .error e ∧ e ≠ 0 ∧ en = .returned (.tuple #[.agg #[.slice none 0 0, .slice none 0 0], .int .i64 e])) ∨
  ∃ k v ao c bo d, r = .ok (k, v) ∧ en = .returned (.tuple #[.agg #[.slice ao k.length c, .slice bo v.length d], .int .i64 0]) ∧ Bt k ∧ Bt v ∧ w'.ownsRow w.heap.size 5 1 (.slice ao k.length c) k.length (k.map (Value.int .u8)) ∧ w'.ownsRow w.heap.size 5 1 (.slice bo v.length d) v.length (v.map (Value.int .u8)))
theorem cua_len (x : UInt8) (t : List UInt8) : (cua x t).length ≤ t.length ∧ (cub x t).length ≤ t.length := by
  unfold cua cub
  cases h : cutC x t with
  | none => simp
  | some p =>
    have := (cutC_some (a := p.1) (b := p.2) h).1
    rw [this]; simp; omega
theorem str_nil (t : List UInt8) : ((tstr t).toList == []) = decide (t = []) := by
  have : (tstr t).toList = t := by rw [ByteArray.toList_eq]; rfl
  rw [this]
  cases t <;> rfl
set_option maxHeartbeats 8000000 in
set_option maxRecDepth 100000 in
theorem parsePair_any (line : List UInt8) (ka : Option Addr) (kn kc : Nat) (za : List Int) (w : World) (hb : Byt w ka kn kc za) (bt : Bt za) (ht : line.length ≤ 2000000000) :
    Calls Tryd.prog 41 #[.string (tstr line), .slice ka kn kc] w fun en w' => PpP w (pp za line) en w' := by
  have HE := hid_intro (pp_eq za line)
  obtain ⟨hl1, hl2⟩ := cua_len 32 line
  have g1 := World.grownBy_alloc w (.cells #[.slice none 0 0, .slice none 0 0] 44) none
  have x1 : (w.alloc (.cells #[.slice none 0 0, .slice none 0 0] 44)).heap[w.heap.size]? = some (.cells #[.slice none 0 0, .slice none 0 0] 44 (0, 0)) := heap_alloc_new w _
  have HB := hid_intro (hb.keptN g1)
  have HCU := hid_intro (fun W => cut_any 32 line W ht)
  have HSL := hid_intro (fun W => sized_any (cua 32 line) 1 255 W (by omega))
  have HSR := hid_intro (fun W => sized_any (cub 32 line) 0 262144 W (by omega))
  have hA := str_nil (cua 32 line)
  have hBn := str_nil (cub 32 line)
  have HCO := hid_intro (fun W => contains_one_call (tstr (cub 32 line)) 32 W)
  have hco : decide (0 ≤ Lib.indexByte (tstr (cub 32 line)).data.toList 32) = decide (32 ∈ cub 32 line) := by
    rw [tstr_data, ixb_cut]
    cases hc : cutC 32 (cub 32 line) with
    | none => rw [decide_eq_false (cutC_none.1 hc)]; rfl
    | some q =>
      have := (cutC_some (a := q.1) (b := q.2) hc).1
      rw [decide_eq_true (show (32 : UInt8) ∈ cub 32 line by rw [this]; simp), decide_eq_true (by simp only; omega)]
  rw [hco] at HCO
  generalize pp za line = R at *
  generalize (cutC 32 line).isSome = f at *
  generalize tstr line = s at *
  generalize hsl : tstr (cua 32 line) = sl at *
  generalize hsr : tstr (cub 32 line) = sr at *
  generalize szd (cua 32 line) 1 255 = RL at *
  generalize szd (cub 32 line) 0 262144 = RR at *
  generalize cua 32 line = L at *
  generalize cub 32 line = Rr at *
  have HX1 := hid_intro x1
  have HG1 := hid_intro g1
  have hsz : w.heap.size < (w.alloc (.cells #[.slice none 0 0, .slice none 0 0] 44)).heap.size := by simp
  clear hsl hsr hco hb x1 g1 hl1 hl2 ht
  go_enter Tryd.func41, Tryd.ntmps41
  go_upto_region 1 with fail
  generalize w.alloc (.cells #[.slice none 0 0, .slice none 0 0] 44) = w1 at *
  generalize hGb : w.heap.size = G at *
  have HGb := hid_intro hGb
  clear hGb
  go_wp2_with fail
  refine (HCU.out w1).mono ?_
  rintro en w2 ⟨rfl, hq2⟩
  have X2 : Hid (w2.heap[G]? = some (.cells #[.slice none 0 0, .slice none 0 0] 44 (0, 0))) := by rw [hq2.heap]; exact HX1.out
  have G2 := hid_intro (grown_trans HG1.out (hq2.grown none))
  have B2 := hid_intro (HB.out.heap hq2.heap)
  have hsz2 : G < w2.heap.size := by rw [hq2.heap]; exact hsz
  have d0 : w2.cell? ⟨G, 0, none⟩ = some (.slice none 0 0) := by rw [Lib.cell_of_heap X2.out]; rfl
  have d1 : w2.cell? ⟨G, 1, none⟩ = some (.slice none 0 0) := by rw [Lib.cell_of_heap X2.out]; rfl
  have f0 : w2.frozen? ⟨G, 0, none⟩ = false := Lib.frozen_of_heap X2.out 0
  have f1 : w2.frozen? ⟨G, 1, none⟩ = false := Lib.frozen_of_heap X2.out 1
  clear hq2 HX1 HG1 HB hsz
  by_cases hL : L = []
  · rw [decide_eq_true hL] at hA
    have HR : Hid (R = .error 200) := by show _ = _; rw [HE.out, if_pos (.inl hL)]
    clear hL
    go_wp2
    obtain ⟨y1, y2⟩ := pair_putD X2.out (.slice none 0 0) (.slice none 0 0)
    refine bodyPost_ret (results_pairD rfl _ _ G _ _ rfl y1) rfl ?_
    exact ⟨grown_boxD G2.out y2 (by have := HGb.out; omega), .inl ⟨200, HR.out, by decide, rfl⟩⟩
  · rw [decide_eq_false hL] at hA
    by_cases hRn : Rr = []
    · rw [decide_eq_true hRn] at hBn
      have HR : Hid (R = .error 200) := by show _ = _; rw [HE.out, if_pos (.inr (.inl hRn))]
      clear hL hRn
      go_wp2
      obtain ⟨y1, y2⟩ := pair_putD X2.out (.slice none 0 0) (.slice none 0 0)
      refine bodyPost_ret (results_pairD rfl _ _ G _ _ rfl y1) rfl ?_
      exact ⟨grown_boxD G2.out y2 (by have := HGb.out; omega), .inl ⟨200, HR.out, by decide, rfl⟩⟩
    · rw [decide_eq_false hRn] at hBn
      by_cases hS : 32 ∈ Rr
      · rw [decide_eq_true hS] at HCO
        have HR : Hid (R = .error 200) := by show _ = _; rw [HE.out, if_pos (.inr (.inr hS))]
        clear hL hRn hS
        go_wp2_with fail
        refine (HCO.out _).mono ?_
        rintro en w3 ⟨rfl, hw3⟩
        subst hw3
        go_wp2
        obtain ⟨y1, y2⟩ := pair_putD X2.out (.slice none 0 0) (.slice none 0 0)
        refine bodyPost_ret (results_pairD rfl _ _ G _ _ rfl y1) rfl ?_
        exact ⟨grown_boxD G2.out y2 (by have := HGb.out; omega), .inl ⟨200, HR.out, by decide, rfl⟩⟩
      · rw [decide_eq_false hS] at HCO
        rw [if_neg (by simp only [not_or]; exact ⟨hL, hRn, hS⟩)] at HE
        clear hL hRn hS
        go_wp2_with fail
        refine (HCO.out _).mono ?_
        rintro en w3 ⟨rfl, hw3⟩
        subst hw3
        clear d0 d1 f0 f1
        go_wp2_with fail
        refine (HSL.out _).mono ?_
        rintro en w4 ⟨hg4, ⟨e, hr, he, rfl⟩ | ⟨k, ao, c, hr, rfl, hbt, ho⟩⟩
        · have X4 : Hid (w4.heap[G]? = some (.cells #[.slice none 0 0, .slice none 0 0] 44 (0, 0))) := (hg4.block G hsz2 (by simp)).trans X2.out
          have G4 := hid_intro (grown_trans G2.out hg4)
          have HR : Hid (R = .error e) := by show _ = _; rw [HE.out, hr]
          have d0 : w4.cell? ⟨G, 0, none⟩ = some (.slice none 0 0) := by rw [Lib.cell_of_heap X4.out]; rfl
          have d1 : w4.cell? ⟨G, 1, none⟩ = some (.slice none 0 0) := by rw [Lib.cell_of_heap X4.out]; rfl
          have f0 : w4.frozen? ⟨G, 0, none⟩ = false := Lib.frozen_of_heap X4.out 0
          have f1 : w4.frozen? ⟨G, 1, none⟩ = false := Lib.frozen_of_heap X4.out 1
          have k1 : (e == 0) = false := by rw [beq_eq_false_iff_ne]; exact he
          have k2 : (e != 0) = true := by simp only [bne, k1]; rfl
          have HE0 := hid_intro he
          clear hg4 hr he
          go_wp2
          obtain ⟨y1, y2⟩ := pair_putD X4.out (.slice none 0 0) (.slice none 0 0)
          refine bodyPost_ret (results_pairD rfl _ _ G _ _ rfl y1) rfl ?_
          exact ⟨grown_boxD G4.out y2 (by have := HGb.out; omega), .inl ⟨e, HR.out, HE0.out, rfl⟩⟩
        · have X4 : Hid (w4.heap[G]? = some (.cells #[.slice none 0 0, .slice none 0 0] 44 (0, 0))) := (hg4.block G hsz2 (by simp)).trans X2.out
          have G4 := hid_intro (grown_trans G2.out hg4)
          have B4 := hid_intro (B2.out.keptN hg4)
          rw [hr] at HE
          simp only at HE
          have O4 := hid_intro (own_low ho (show G + 1 ≤ w3.heap.size by omega))
          have BK := hid_intro hbt
          have hsz4 : G < w4.heap.size := by have := hg4.size; omega
          clear hg4 hr ho hbt
          go_wp2_with fail
          refine (HSR.out _).mono ?_
          rintro en w5 ⟨hg5, ⟨e, hr, he, rfl⟩ | ⟨v, bo, d, hr, rfl, hbt, ho⟩⟩
          · have X5 : Hid (w5.heap[G]? = some (.cells #[.slice none 0 0, .slice none 0 0] 44 (0, 0))) := (hg5.block G hsz4 (by simp)).trans X4.out
            have G5 := hid_intro (grown_trans G4.out hg5)
            have HR : Hid (R = .error e) := by show _ = _; rw [HE.out, hr]
            have d0 : w5.cell? ⟨G, 0, none⟩ = some (.slice none 0 0) := by rw [Lib.cell_of_heap X5.out]; rfl
            have d1 : w5.cell? ⟨G, 1, none⟩ = some (.slice none 0 0) := by rw [Lib.cell_of_heap X5.out]; rfl
            have f0 : w5.frozen? ⟨G, 0, none⟩ = false := Lib.frozen_of_heap X5.out 0
            have f1 : w5.frozen? ⟨G, 1, none⟩ = false := Lib.frozen_of_heap X5.out 1
            have k1 : (e == 0) = false := by rw [beq_eq_false_iff_ne]; exact he
            have k2 : (e != 0) = true := by simp only [bne, k1]; rfl
            have HE0 := hid_intro he
            clear hg5 hr he
            go_wp2
            obtain ⟨y1, y2⟩ := pair_putD X5.out (.slice none 0 0) (.slice none 0 0)
            refine bodyPost_ret (results_pairD rfl _ _ G _ _ rfl y1) rfl ?_
            exact ⟨grown_boxD G5.out y2 (by have := HGb.out; omega), .inl ⟨e, HR.out, HE0.out, rfl⟩⟩
          · have X5 : Hid (w5.heap[G]? = some (.cells #[.slice none 0 0, .slice none 0 0] 44 (0, 0))) := (hg5.block G hsz4 (by simp)).trans X4.out
            have G5 := hid_intro (grown_trans G4.out hg5)
            have B5 := hid_intro (B4.out.keptN hg5)
            rw [hr] at HE
            simp only at HE
            have O5 := hid_intro (own_keptD O4.out hg5)
            have V5 := hid_intro (own_low ho (show G + 1 ≤ w4.heap.size by omega))
            have BV := hid_intro hbt
            have d0 : w5.cell? ⟨G, 0, none⟩ = some (.slice none 0 0) := by rw [Lib.cell_of_heap X5.out]; rfl
            have d1 : w5.cell? ⟨G, 1, none⟩ = some (.slice none 0 0) := by rw [Lib.cell_of_heap X5.out]; rfl
            have f0 : w5.frozen? ⟨G, 0, none⟩ = false := Lib.frozen_of_heap X5.out 0
            have f1 : w5.frozen? ⟨G, 1, none⟩ = false := Lib.frozen_of_heap X5.out 1
            obtain ⟨ao2, c2, e2, hbk⟩ := owns_any O5.out
            simp only [Value.slice.injEq] at e2
            obtain ⟨rfl, _, rfl⟩ := e2
            have HBK := hid_intro hbk
            have HBT := hid_intro bt
            obtain ⟨nk, hnk⟩ : ∃ nk, k.length = nk := ⟨_, rfl⟩
            obtain ⟨nv, hnv⟩ : ∃ nv, v.length = nv := ⟨_, rfl⟩
            rw [hnk] at HBK O5 ⊢
            rw [hnv] at V5 ⊢
            have HNK := hid_intro hnk
            have HNV := hid_intro hnv
            clear hg5 hr ho hbt hbk hnk hnv O4 HSL HSR HCU HCO
            go_wp2_with fail
            refine (behind_any _ ka nk kn _ kc k za _ HBK.out B5.out BK.out HBT.out).mono ?_
            rintro en w6 ⟨rfl, hw6⟩
            subst hw6
            by_cases hc : cmpZ k za ≤ 0
            · rw [decide_eq_false (by omega)]
              have HR : Hid (R = .error 30) := by show _ = _; rw [HE.out, if_pos hc]
              clear hc
              go_wp2
              obtain ⟨y1, y2⟩ := pair_putD X5.out (.slice none 0 0) (.slice none 0 0)
              refine bodyPost_ret (results_pairD rfl _ _ G _ _ rfl y1) rfl ?_
              exact ⟨grown_boxD G5.out y2 (by have := HGb.out; omega), .inl ⟨30, HR.out, by decide, rfl⟩⟩
            · rw [decide_eq_true (by omega)]
              have HR : Hid (R = .ok (k, v)) := by show _ = _; rw [HE.out, if_neg hc]
              clear hc
              go_wp2
              obtain ⟨y1, y2⟩ := pair_putD X5.out (.slice ao nk c) (.slice bo nv d)
              refine bodyPost_ret (results_pairD rfl _ _ G _ _ rfl y1) rfl ?_
              refine ⟨grown_boxD G5.out y2 (by have := HGb.out; omega), .inr ⟨k, v, ao, c, bo, d, HR.out, ?_, BK.out, BV.out, ?_, ?_⟩⟩
              · rw [HNK.out, HNV.out]; rfl
              · rw [HNK.out]; exact own_low (own_boxD O5.out y2 (Nat.lt_succ_self _)) (by have := HGb.out; omega)
              · rw [HNV.out]; exact own_low (own_boxD V5.out y2 (Nat.lt_succ_self _)) (by have := HGb.out; omega)
end Go.Proofs.YtioleabkbkmggaaDoor
