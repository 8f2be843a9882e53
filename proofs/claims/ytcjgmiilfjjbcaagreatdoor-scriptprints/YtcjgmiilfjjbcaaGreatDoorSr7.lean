import Derived.Test.YtcjgmiilfjjbcaaGreatDoorSr6
namespace Go.Proofs.YtcjgmiilfjjbcaaGreatDoor
open Go.RowKit

theorem info_aopS : (Tryz.prog.info? 35).map (fun i => (i.zero, i.size, i.bytes)) = some (some (.agg #[.int .i64 0, .int .i64 0, .int .i64 0, .int .i64 0, .slice none 0 0, .slice none 0 0, .slice none 0 0, .slice none 0 0]), 8, 128) := by kernel_rfl
/-- Steps in a row's cells, all of them the call's own. -/
structure OpL (w : World) (B : Nat) (xs : List Value) (l : List Opq) : Prop where
  len : xs.length = l.length * 8
  el : ∀ i o, l[i]? = some o → ∃ kv vv hv fv, (∀ j u, [Value.int .i64 o.k, .int .i64 o.a, .int .i64 o.b, .int .i64 o.c, kv, vv, hv, fv][j]? = some u → xs[i * 8 + j]? = some u) ∧ OpV w B o kv vv hv fv
theorem OpL.nil (w : World) (B : Nat) : OpL w B [] [] := ⟨rfl, fun i o h => by simp at h⟩
theorem OpL.keptN {w w' : World} {B : Nat} {xs : List Value} {l : List Opq} (h : OpL w B xs l) (hg : w.grownBy w' none) : OpL w' B xs l :=
  ⟨h.len, fun i o ho => by obtain ⟨kv, vv, hv, fv, h1, h2⟩ := h.el i o ho; exact ⟨kv, vv, hv, fv, h1, h2.keptN hg⟩⟩
theorem OpV.own {w w' : World} {B base n sz : Nat} {e : TypeId} {v : Value} {xs : List Value} {o : Opq} {kv vv hv fv : Value} (h : OpV w B o kv vv hv fv) (hv' : w.ownsRow base e sz v n xs) (h1 : 5 ≠ e) (h2 : 43 ≠ e) (hg : w.grownBy w' v.ownBlock) : OpV w' B o kv vv hv fv :=
  ⟨h.key.kept hg (own_neD h.key hv' h1), h.val.kept hg (own_neD h.val hv' h1), h.hi.kept hg (own_neD h.hi hv' h1), h.f.kept hg (own_neD h.f hv' h2), h.bk, h.bv, h.bh⟩
theorem OpL.own {w w' : World} {B base n sz : Nat} {e : TypeId} {v : Value} {ys : List Value} {xs : List Value} {l : List Opq} (h : OpL w B xs l) (hv' : w.ownsRow base e sz v n ys) (h1 : 5 ≠ e) (h2 : 43 ≠ e) (hg : w.grownBy w' v.ownBlock) : OpL w' B xs l :=
  ⟨h.len, fun i o ho => by obtain ⟨kv, vv, hv, fv, k1, k2⟩ := h.el i o ho; exact ⟨kv, vv, hv, fv, k1, k2.own hv' h1 h2 hg⟩⟩
theorem OpL.one {w w' : World} {B U : Nat} {cs : Array Value} {t : TypeId} {xs : List Value} {l : List Opq} (h : OpL w B xs l) (hU : w.heap[U]? = some (.cells cs t (0, 0))) (h1 : 5 ≠ t) (h2 : 43 ≠ t) (hg : w.grownBy w' (some U)) : OpL w' B xs l :=
  ⟨h.len, fun i o ho => by obtain ⟨kv, vv, hv, fv, k1, k2⟩ := h.el i o ho; exact ⟨kv, vv, hv, fv, k1, k2.one hU h1 h2 hg⟩⟩
theorem OpV.low {w : World} {B B' : Nat} {o : Opq} {kv vv hv fv : Value} (h : OpV w B o kv vv hv fv) (hb : B' ≤ B) : OpV w B' o kv vv hv fv := ⟨own_low h.key hb, own_low h.val hb, own_low h.hi hb, own_low h.f hb, h.bk, h.bv, h.bh⟩
theorem OpL.snoc {w : World} {B : Nat} {xs : List Value} {l : List Opq} {o : Opq} {kv vv hv fv : Value} (h : OpL w B xs l) (k : OpV w B o kv vv hv fv) : OpL w B (xs ++ [.int .i64 o.k, .int .i64 o.a, .int .i64 o.b, .int .i64 o.c, kv, vv, hv, fv]) (l ++ [o]) := by
  have hl := h.len
  refine ⟨by simp [hl]; omega, fun i q hq => ?_⟩
  by_cases hi : i < l.length
  · rw [List.getElem?_append_left hi] at hq
    obtain ⟨kv', vv', hv', fv', h1, h2⟩ := h.el i q hq
    refine ⟨kv', vv', hv', fv', fun j u hj => ?_, h2⟩
    have hj8 : j < 8 := (List.getElem?_eq_some_iff.1 hj).1
    rw [List.getElem?_append_left (by omega)]
    exact h1 j u hj
  · rw [List.getElem?_append_right (by omega)] at hq
    have hi2 : i - l.length = 0 := by
      cases hk : i - l.length with
      | zero => rfl
      | succ k => rw [hk] at hq; simp at hq
    rw [hi2] at hq
    simp only [List.getElem?_cons_zero, Option.some.injEq] at hq
    subst hq
    have hi3 : i = l.length := by omega
    subst hi3
    refine ⟨kv, vv, hv, fv, fun j u hj => ?_, k⟩
    rw [List.getElem?_append_right (by omega), hl, Nat.add_sub_cancel_left]
    exact hj
/-- What has been read, in its box. -/
def RdI (w : World) (B R : Nat) (s : Option Sq) : Prop := (s = none ∧ w.heap[R]? = some (.cells #[.int .i64 0, .slice none 0 0, .bool false] 64 (0, 0))) ∨
  ∃ n l v xs, s = some (n, l) ∧ w.heap[R]? = some (.cells #[.int .i64 n, v, .bool true] 64 (0, 0)) ∧ w.ownsRow B 35 8 v l.length xs ∧ OpL w B xs l
theorem RdI.mkN {w : World} {B R : Nat} (h : w.heap[R]? = some (.cells #[.int .i64 0, .slice none 0 0, .bool false] 64 (0, 0))) : RdI w B R none := .inl ⟨rfl, h⟩
theorem RdI.mkS {w : World} {B R : Nat} (n : Int) (l : List Opq) (v : Value) (xs : List Value) (h : w.heap[R]? = some (.cells #[.int .i64 n, v, .bool true] 64 (0, 0))) (ho : w.ownsRow B 35 8 v l.length xs) (hl : OpL w B xs l) : RdI w B R (some (n, l)) := .inr ⟨n, l, v, xs, rfl, h, ho, hl⟩
theorem RdI.ofN {w : World} {B R : Nat} (h : RdI w B R none) : w.heap[R]? = some (.cells #[.int .i64 0, .slice none 0 0, .bool false] 64 (0, 0)) := by
  rcases h with ⟨_, h⟩ | ⟨n, l, v, xs, e, _⟩
  · exact h
  · cases e
theorem RdI.ofS {w : World} {B R : Nat} {s : Sq} (h : RdI w B R (some s)) : ∃ v xs, w.heap[R]? = some (.cells #[.int .i64 s.1, v, .bool true] 64 (0, 0)) ∧ w.ownsRow B 35 8 v s.2.length xs ∧ OpL w B xs s.2 := by
  rcases h with ⟨e, _⟩ | ⟨n, l, v, xs, e, h1, h2, h3⟩
  · cases e
  · cases e; exact ⟨v, xs, h1, h2, h3⟩
theorem RdI.keptN {w w' : World} {B R : Nat} {s : Option Sq} (h : RdI w B R s) (hg : w.grownBy w' Option.none) : RdI w' B R s := by
  rcases h with ⟨e, h⟩ | ⟨n, l, v, xs, e, h1, h2, h3⟩
  · exact .inl ⟨e, heap_keptS h hg⟩
  · exact .inr ⟨n, l, v, xs, e, heap_keptS h1 hg, own_keptD h2 hg, h3.keptN hg⟩
theorem RdI.box {w : World} {B R : Nat} {s : Option Sq} (h : RdI w B R s) : ∃ cs, w.heap[R]? = some (.cells cs 64 (0, 0)) := by
  rcases h with ⟨e, h⟩ | ⟨n, l, v, xs, e, h1, h2, h3⟩
  · exact ⟨_, h⟩
  · exact ⟨_, h1⟩
/-- Blocks other than R that hold no steps stand. -/
def Tkw (w w' : World) (R : Nat) : Prop := ∀ g o, w.heap[g]? = some o → g ≠ R → (∀ cs fr, o ≠ .cells cs 35 fr) → w'.heap[g]? = some o
theorem tkw_grown {w w' : World} {R : Nat} (h : w.grownBy w' none) : Tkw w w' R := fun _ _ ho _ _ => heap_keptS ho h
theorem tkw_one {w w' : World} {R : Nat} (h : w.grownBy w' (some R)) : Tkw w w' R := fun g o ho hne _ => by
  rw [h.block g (Array.getElem?_eq_some_iff.1 ho).1 (by simp; exact hne)]; exact ho
theorem tkw_own {w w' : World} {B R n sz : Nat} {v : Value} {xs : List Value} (h : w.grownBy w' v.ownBlock) (hv : w.ownsRow B 35 sz v n xs) : Tkw w w' R := fun g o ho _ hn => by
  rw [h.block g (Array.getElem?_eq_some_iff.1 ho).1 (fun e => ?_)]
  · exact ho
  · rcases hv.2 with ⟨h1, _⟩ | ⟨g', cap, cur, h1, _, h3, _⟩
    · rw [h1] at e; cases e
    · rw [h1] at e
      simp only [Value.ownBlock, Option.some.injEq] at e
      subst e
      rw [h3] at ho
      exact hn _ _ (Option.some.inj ho).symm
theorem Tkw.trans {a b c : World} {O : Nat} (h : Tkw a b O) (k : Tkw b c O) : Tkw a c O := fun g o ho hne hn => k g o (h g o ho hne hn) hne hn
/-- What take answers. -/
def TkP (w : World) (B R : Nat) (r : Except Int Sq) (en : Ending) (w' : World) : Prop := (Below B w w' ∧ Tkw w w' R) ∧ ((∃ s, r = .ok s ∧ en = .returned (.int .i64 0) ∧ RdI w' B R (some s)) ∨ ∃ e, r = .error e ∧ e ≠ 0 ∧ en = .returned (.int .i64 e))
theorem grown_none_one {a b c : World} {R : Nat} (h : a.grownBy b none) (k : b.grownBy c (some R)) : a.grownBy c (some R) :=
  ⟨k.os.trans h.os, k.tape.trans h.tape, k.output.trans h.output, Nat.le_trans h.size k.size, fun i hi hne => (k.block i (Nat.lt_of_lt_of_le hi h.size) hne).trans (h.block i hi (by simp))⟩
set_option maxHeartbeats 8000000 in
set_option maxRecDepth 100000 in
theorem takeFirst_any (T0 : List UInt8) (lw : List (List UInt8)) (g m d R : Nat) (a : Int) (b : Bool) (w : World) (hL : Lv w) (hW : Wsl w g 0 (T0 :: lw)) (hn : lw.length = m) (hn2 : m ≤ 2000000) (hT : ∀ T ∈ T0 :: lw, T.length ≤ 2000000000) (hR : w.heap[R]? = some (.cells #[.int .i64 a, .slice none 0 0, .bool b] 64 (0, 0))) :
    Calls Tryz.prog 55 #[.pointer (some ⟨R, 0, none⟩), .slice (some ⟨g, 0, none⟩) (m + 1) (d + 1)] w fun en w' => w.grownBy w' (some R) ∧ ((∃ n, tkf (T0 :: lw) = .ok n ∧ en = .returned (.int .i64 0) ∧ w'.heap[R]? = some (.cells #[.int .i64 n, .slice none 0 0, .bool b] 64 (0, 0))) ∨ ∃ e, tkf (T0 :: lw) = .error e ∧ e ≠ 0 ∧ en = .returned (.int .i64 e)) := by
  have HL : Hid (Lv w) := hL
  have HR := hid_intro hR
  have c0 : w.cell? ⟨g, 0, none⟩ = some (.string (tstr T0)) := hW 0 T0 rfl
  have htl := tstr_toList T0
  have hst : tkf (T0 :: lw) = if T0 ≠ ttw then .error 230 else if m + 1 ≠ 2 then .error 233 else nmE ((T0 :: lw).getD 1 []) := by
    unfold tkf
    rw [List.length_cons, hn]
    rfl
  have HS := hid_intro hst
  clear hL hst hR
  generalize tkf (T0 :: lw) = Rz at *
  by_cases h0 : T0 = ttw
  · by_cases h2 : m = 1
    · subst h2
      obtain ⟨T1, rfl⟩ : ∃ T1, lw = [T1] := by
        cases lw with
        | nil => simp at hn
        | cons x y => cases y with
          | nil => exact ⟨x, rfl⟩
          | cons _ _ => simp at hn
      have c1 : w.cell? ⟨g, 1, none⟩ = some (.string (tstr T1)) := hW 1 T1 rfl
      have HS2 : Hid (Rz = nmE T1) := by show _ = _; rw [HS.out, if_neg (by simp [h0]), if_neg (by simp)]; rfl
      have HN := hid_intro (fun W hW => readNumber_any T1 W hW (hT T1 (by simp)))
      have hc := nm_cases T1
      have b0 : ((tstr T0).toList == [99, 111, 112, 112, 105, 99, 101]) = true := by rw [htl, h0]; rfl
      clear hW hn hT HS htl h0
      generalize tstr T0 = s0 at *
      rcases hc with ⟨n, _, e2, e3, e4, _⟩ | ⟨_, e2, e3, e4⟩
      all_goals
        rw [e3, e4] at HN
        rw [e2] at HS2
        clear e2 e3 e4
        generalize tstr T1 = s1 at *
        go_enter Tryz.func55, Tryz.ntmps55
        go_wp2_with fail
        refine (HN.out _ HL.out).mono ?_
        rintro en w3 ⟨rfl, hg3⟩
        have R3 := hid_intro (heap_keptS HR.out hg3)
        have G3 := hid_intro hg3
        have d0 := cell_heapS (i := 0) R3.out rfl
        have z0 := frozen_of_row w3 R 0 _ _ R3.out
        clear hg3
        go_wp2
        go_ret
      · have hb := heap_setCell_same w3 R 0 _ _ (.int .i64 n) R3.out
        exact ⟨grown_none_one G3.out (grown_cellS w3 R 0 _), .inl ⟨n, HS2.out, rfl, hb⟩⟩
      · exact ⟨grown_none_one G3.out (grown_cellS w3 R 0 _), .inr ⟨232, HS2.out, by decide, rfl⟩⟩
    · have HS2 : Hid (Rz = .error 233) := by show _ = _; rw [HS.out, if_neg (by simp [h0]), if_pos (by omega)]
      have b0 : ((tstr T0).toList == [99, 111, 112, 112, 105, 99, 101]) = true := by rw [htl, h0]; rfl
      have b1 : (((m : Int) + 1) == 2) = false := by rw [beq_eq_false_iff_ne]; omega
      clear hW hn hT HS htl h0
      generalize tstr T0 = s0 at *
      go_enter Tryz.func55, Tryz.ntmps55
      go_wp2
      go_ret
      exact ⟨World.grownBy.refl _ _, .inr ⟨233, HS2.out, by decide, rfl⟩⟩
  · have HS2 : Hid (Rz = .error 230) := by show _ = _; rw [HS.out, if_pos h0]
    have b0 : ((tstr T0).toList == [99, 111, 112, 112, 105, 99, 101]) = false := by rw [htl, beq_eq_false_iff_ne]; exact h0
    clear hW hn hT HS htl h0
    generalize tstr T0 = s0 at *
    go_enter Tryz.func55, Tryz.ntmps55
    go_wp2
    go_ret
    exact ⟨World.grownBy.refl _ _, .inr ⟨230, HS2.out, by decide, rfl⟩⟩
end Go.Proofs.YtcjgmiilfjjbcaaGreatDoor
