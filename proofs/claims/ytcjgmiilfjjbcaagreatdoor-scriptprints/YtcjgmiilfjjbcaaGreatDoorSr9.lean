import Derived.Test.YtcjgmiilfjjbcaaGreatDoorSr8
namespace Go.Proofs.YtcjgmiilfjjbcaaGreatDoor
open Go.RowKit

theorem size_scrS : (Tryz.prog.info? 24).map (fun i => i.size) = some 2 := by kernel_rfl
theorem results_scr {fn : Func} {p u q : Tmp} (h : fn.results = #[.cell p 24, .tmp u, .tmp q]) (tmps : Array Value) (w : World) (g : Nat) (x y : Value) (hp : tmps.getD p undef = .pointer (some ⟨g, 0, none⟩)) (hr : w.heap[g]? = some (.cells #[x, y] 24 (0, 0))) :
    (results fn tmps).run Tryz.prog w = .ok (.tuple #[.agg #[x, y], tmps.getD u undef, tmps.getD q undef]) w := by
  have hp' : tmps[p]?.getD undef = .pointer (some ⟨g, 0, none⟩) := by simpa using hp
  simp [results, h, hp', asAddr, run_loadVar_row w g 24 24 #[x, y] (0, 0) _ hr Tryz.underlying24 rfl (by rw [size_scrS]; rfl)]
/-- What Parse answers. -/
def PsP (w : World) (r : Except (Nat × Int) Sq) (en : Ending) (w' : World) : Prop := w.grownBy w' none ∧ ((∃ n l v xs, r = .ok (n, l) ∧ en = .returned (.tuple #[.agg #[.int .i64 n, v], .int .i64 0, .int .i64 0]) ∧ w'.ownsRow w.heap.size 35 8 v l.length xs ∧ OpL w' w.heap.size xs l) ∨ ∃ (k : Nat) (e : Int), r = .error (k, e) ∧ e ≠ 0 ∧ en = .returned (.tuple #[.agg #[.int .i64 0, .slice none 0 0], .int .i64 (k : Nat), .int .i64 e]))
theorem info_strS : (Tryz.prog.info? 9).map (fun i => (i.zero, i.size, i.bytes)) = some (some (.string ⟨#[]⟩), 1, 16) := by kernel_rfl
def wv (ws : List (List UInt8)) : List Value := ws.map fun T => .string (tstr T)
theorem wsl_own {w : World} {B n c : Nat} {a : Option Addr} {ws : List (List UInt8)} (h : w.ownsRow B 9 1 (.slice a n c) n (wv ws)) (h0 : ws ≠ []) : ∃ g, a = some ⟨g, 0, none⟩ ∧ Wsl w g 0 ws ∧ ws.length = n ∧ n ≤ c := by
  have hl : ws.length = n := by have := h.1; unfold wv at this; simpa using this
  rcases h.2 with ⟨e1, e2⟩ | ⟨g, cap, cur, e1, _, e3, e4, _, _, e7⟩
  · exfalso
    apply h0
    exact List.eq_nil_of_length_eq_zero (by omega)
  · simp only [Value.slice.injEq] at e1
    obtain ⟨rfl, _, rfl⟩ := e1
    refine ⟨g, rfl, fun i T hi => ?_, hl, e4⟩
    rw [Nat.zero_add, cell_of_row w g i cur _ _ e3, ← Array.getElem?_toList]
    have hu : (wv ws)[i]? = some (.string (tstr T)) := by unfold wv; rw [List.getElem?_map, hi]; rfl
    rw [← e7, List.getElem?_take] at hu
    split at hu
    · exact hu
    · cases hu
theorem tke_len {s : Option Sq} {ws : List (List UInt8)} {s' : Sq} (h : tke s ws = .ok s') (hs : ∀ x, s = some x → x.2.length ≤ 2000) : s'.2.length ≤ 2000 := by
  cases s with
  | none =>
    unfold tke at h
    cases e : tkf ws with
    | ok n => rw [e] at h; cases h; simp
    | error n => rw [e] at h; cases h
  | some x =>
    obtain ⟨n, l⟩ := x
    have h0 := hs _ rfl
    unfold tke at h
    simp only at h h0
    split at h
    · cases h
    · cases e : stp ws with
      | ok o => rw [e] at h; cases h; simp; omega
      | error o => rw [e] at h; cases h
theorem take_any (T0 : List UInt8) (lw : List (List UInt8)) (g m d R B : Nat) (s : Option Sq) (w : World) (hL : Lv w) (hW : Wsl w g 0 (T0 :: lw)) (hn : lw.length = m) (hn2 : m ≤ 2000000) (hc : m ≤ d) (hT : ∀ T ∈ T0 :: lw, T.length ≤ 2000000000) (hR : RdI w B R s) (hB : B ≤ w.heap.size) (hRB : B ≤ R) (hl : ∀ x, s = some x → x.2.length ≤ 2000) (hgR : g ≠ R) (hRg : ∀ k, (k = 2 ∨ k = 7 ∨ k = 8 ∨ k = 0) → k < B) :
    Calls Tryz.prog 33 #[.pointer (some ⟨R, 0, none⟩), .slice (some ⟨g, 0, none⟩) (m + 1) (d + 1)] w fun en w' => TkP w B R (tke s (T0 :: lw)) en w' := by
  cases s with
  | none => exact take_first T0 lw g m d R B w hL hW hn hn2 hT hR hB hRB hgR hRg
  | some x => exact take_more T0 lw g m d R B x w hL hW hn hn2 hc hT hR hB hRB (hl x rfl)
theorem Lv.lt {w : World} (h : Lv w) : ∀ k, (k = 2 ∨ k = 7 ∨ k = 8 ∨ k = 0) → k < w.heap.size := by
  have hv : ∀ (n : String) (g : Nat) (vs : Array Value), Tryz.prog.globalNamed n = some g → w.var? Tryz.prog n = some vs → g < w.heap.size := by
    intro n g vs hn hh
    unfold World.var? at hh
    rw [hn] at hh
    simp only [Option.bind_some] at hh
    rcases Nat.lt_or_ge g w.heap.size with h' | h'
    · exact h'
    · simp [Array.getElem?_eq_none h'] at hh
  rintro k (rfl | rfl | rfl | rfl)
  · exact h.pow.lt
  · obtain ⟨tp, p, e⟩ := h.syn; exact hv _ _ _ syn_named e
  · obtain ⟨tp, p, e⟩ := h.rng; exact hv _ _ _ rng_named e
  · exact Lib.lt_of_cell (h.stp 0 _ rfl).1
def strLen (v : Value) : Nat := match v with | .string s => s.size | _ => 0
theorem str_emp (T : List UInt8) : (tstr T).toList.isEmpty = decide (T = []) := by
  rw [tstr_toList]
  cases T <;> simp
theorem pll_cons (l : List UInt8) (ls : List (List UInt8)) (no : Nat) (s : Option Sq) : pll (l :: ls) no s = if wrds (cua 35 l) = [] then pll ls (no + 1) s else match tke s (wrds (cua 35 l)) with
    | .ok s' => pll ls (no + 1) (some s')
    | .error e => .error (no, e) := by rw [pll]; rfl
theorem wrds_len : ∀ (l : List UInt8), (∀ T ∈ wrds l, T.length ≤ l.length) ∧ (wrds l).length ≤ l.length := by
  have : ∀ l : List UInt8, ((tok l).1.length ≤ l.length ∧ (∀ T ∈ (tok l).2, T.length ≤ l.length)) ∧ (tok l).1.length + (tok l).2.length ≤ l.length := by
    intro l
    induction l with
    | nil => exact ⟨⟨by simp [tok], fun T h => by simp [tok] at h⟩, by simp [tok]⟩
    | cons c l ih =>
      obtain ⟨⟨h1, h2⟩, h3⟩ := ih
      by_cases h : isb c = true
      · have e : tok (c :: l) = ([], cns (tok l)) := by rw [tok]; exact if_pos h
        rw [e]
        refine ⟨⟨by simp, fun T hT => ?_⟩, ?_⟩
        · simp only [cns] at hT
          split at hT
          · have := h2 T hT; simp; omega
          · rcases List.mem_cons.1 hT with rfl | hT
            · simp; omega
            · have := h2 T hT; simp; omega
        · simp only [cns]
          split
          · simp; omega
          · rename_i hne
            have : 1 ≤ (tok l).1.length := by cases hh : (tok l).1 with | nil => exact absurd hh hne | cons _ _ => simp
            simp; omega
      · have e : tok (c :: l) = (c :: (tok l).1, (tok l).2) := by rw [tok]; exact if_neg h
        rw [e]
        exact ⟨⟨by simp; omega, fun T hT => by have := h2 T hT; simp; omega⟩, by simp; omega⟩
  intro l
  obtain ⟨⟨h1, h2⟩, h3⟩ := this l
  unfold wrds cns
  split
  · exact ⟨h2, by omega⟩
  · rename_i hne
    have : 1 ≤ (tok l).1.length := by cases hh : (tok l).1 with | nil => exact absurd hh hne | cons _ _ => simp
    exact ⟨fun T hT => by rcases List.mem_cons.1 hT with rfl | hT; exact h1; exact h2 T hT, by simp; omega⟩
end Go.Proofs.YtcjgmiilfjjbcaaGreatDoor
