import Derived.Test.YtiljdhhfhjhhiaaDpC
namespace Go.Proofs.Ytiljdhhfhjhhiaa
open Go.RowKit Go.MuLone

/-- One call, as it came in. -/
structure Opr where
  kind : Int
  i : Int
  a : Int
  x : Int
  f : Int
  ao : Option Addr
  n : Nat
  c : Nat
  xs : List Int
  bo : Option Addr
  m : Nat
  e : Nat
  fs : List (Int × Int)
structure Opm (w : World) (o : Opr) : Prop where
  hb : Byt w o.ao o.n o.c o.xs
  bt : Bt o.xs
  ha : ∀ ad, o.ao = some ad → 0 < o.n → ad.block < w.heap.size
  hf : 0 ≤ o.f ∧ o.f ≤ 255
  hi : -9223372036854775808 ≤ o.i ∧ o.i ≤ 9223372036854775807
  hF : Fl w o.bo o.fs
  fl : o.fs.length = o.m
  fm : o.m ≤ 8796093021952
  hc : o.n ≤ 9223372036854775807
def Opr.val (o : Opr) : Value := opv o.kind o.i o.a o.x o.f o.ao o.n o.c o.bo o.m o.e
theorem Opm.hbo {w : World} {o : Opr} (h : Opm w o) : ∀ b off, o.bo = some ⟨b, off, none⟩ → 0 < o.m → b < w.heap.size := by
  intro b off e h0
  have hl := h.fl
  obtain ⟨b', off', e', hb', _⟩ := h.hF.ats 0 (o.fs[0]'(by omega)) (List.getElem?_eq_getElem _)
  rw [e] at e'
  injection e' with e'
  injection e' with e1
  omega

/-- How far a disk has come. -/
structure Lim (s : Ds) (t : Nat) : Prop where
  d : s.done ≤ t
  r : s.reads ≤ t
  l : s.left < 9223372036854775808
theorem Lim.up {s : Ds} {t : Nat} (h : Lim s t) : Lim s (t + 1) := ⟨Nat.le_succ_of_le h.d, Nat.le_succ_of_le h.r, h.l⟩
theorem Lim.spend {s : Ds} {t : Nat} (h : Lim s t) : Lim s.spend (t + 1) := ⟨Nat.succ_le_succ h.d, Nat.le_succ_of_le h.r, by have := h.l; show s.left - 1 < _; omega⟩
theorem Lim.wrt {s : Ds} {t : Nat} (h : Lim s t) (i : Int) (n : Nat) (z : List Int) : Lim (s.wrt i n z) (t + 1) := by
  unfold Ds.wrt
  split
  · exact ⟨h.spend.d, h.spend.r, h.spend.l⟩
  · exact h.up
theorem Lim.sy {s : Ds} {t : Nat} (h : Lim s t) : Lim s.sy (t + 1) := by
  unfold Ds.sy
  split
  · exact h.up
  · split
    · exact h.spend
    · exact ⟨h.spend.d, h.spend.r, h.spend.l⟩
theorem Lim.armed {s : Ds} {t : Nat} (h : Lim s t) (k : Int) (hk : k ≤ 9223372036854775807) : Lim (s.armed k) (t + 1) := by
  unfold Ds.armed
  split
  · exact h.up
  · split
    · exact h.up
    · exact ⟨h.up.d, h.up.r, by show k.toNat < _; omega⟩
theorem Lim.crash {s : Ds} {t : Nat} (h : Lim s t) (fs : List (Int × Int)) : Lim (s.crash fs) (t + 1) := ⟨h.up.d, h.up.r, by show 0 < 9223372036854775808; omega⟩
theorem Lim.rt {s : Ds} {t : Nat} (h : Lim s t) (i a x : Int) : Lim (s.rt i a x) (t + 1) := by
  unfold Ds.rt
  split
  · exact h.up
  · split
    · exact h.up
    · exact ⟨h.up.d, h.up.r, h.up.l⟩
theorem Lim.read {s : Ds} {t : Nat} (h : Lim s t) : Lim s.read (t + 1) := ⟨h.up.d, Nat.succ_le_succ h.r, h.l⟩

/-- The pair at its t-th call. -/
def Pt (w0 w : World) (P B R t : Nat) : Prop := ∃ s, Pq w0 w P B R s ∧ Lim s t

theorem step12_any {w0 w : World} {P B R t : Nat} (h : Pt w0 w P B R t) (ht : t ≤ 1000) (o : Opr) (ho : Opm w0 o) (hn : o.n ≤ 10000) : Calls Try.prog 14 #[.pointer (some ⟨P, 0, none⟩), o.val] w fun en w' => en = .returned (.bool true) ∧ Pt w0 w' P B R (t + 1) := by
  obtain ⟨s, ⟨F1, F2, g, cap, zs, hp⟩, hl⟩ := h
  have hd : s.done < 1099511627776 := by have := hl.d; omega
  have hll := hl.l
  have hre : s.reads < 4611686018427387904 := by have := hl.r; omega
  obtain ⟨kind, i, a, x, f, ao, n, c, xs, bo, m, e, fs⟩ := o
  unfold Opr.val
  have hbo := ho.hbo
  obtain ⟨h1, h2, h3, h4, h5, h6, h7, h8, h9⟩ := ho
  dsimp only at *
  by_cases k1 : kind = 1
  · subst k1
    by_cases c1 : i < 0 ∨ (s.pages : Int) ≤ i
    · exact (step12_1n hp i a x f ao n c bo m e 121 (.inl ⟨rfl, c1⟩) hd).mono (fun en w' hq => ⟨hq.1, s, hq.2, hl.up⟩)
    · by_cases c2 : s.off = true
      · exact (step12_1n hp i a x f ao n c bo m e 123 (.inr ⟨rfl, by omega, by omega, c2⟩) hd).mono (fun en w' hq => ⟨hq.1, s, hq.2, hl.up⟩)
      · obtain ⟨j, rfl⟩ := Int.eq_ofNat_of_zero_le (show 0 ≤ i by omega)
        exact (step12_1y hp j a x f ao n c bo m e (by omega) (by simpa using c2) hre hd).mono (fun en w' hq => ⟨hq.1, s.read, hq.2, hl.read⟩)
  by_cases k2 : kind = 2
  · subst k2
    exact (step12_2 hp i a x f ao n c bo m e xs h1 h2 hn h3 h4 hd hll).mono (fun en w' hq => ⟨hq.1, _, hq.2, hl.wrt _ _ _⟩)
  by_cases k3 : kind = 3
  · subst k3
    exact (step12_3 hp i a x f ao n c bo m e xs h1 h2 hn h3 hd hll).mono (fun en w' hq => ⟨hq.1, _, hq.2, hl.wrt _ _ _⟩)
  by_cases k4 : kind = 4
  · subst k4
    exact (step12_4 hp i a x f ao n c bo m e hd hll).mono (fun en w' hq => ⟨hq.1, _, hq.2, hl.sy⟩)
  by_cases k5 : kind = 5
  · subst k5
    exact (step12_5 hp i a x f ao n c bo m e).mono (fun en w' hq => ⟨hq.1, _, hq.2, hl.armed _ h5.2⟩)
  by_cases k6 : kind = 6
  · subst k6
    exact (step12_6 hp i a x f ao n c bo m e fs h6 h7 h8 hbo hd).mono (fun en w' hq => ⟨hq.1, _, hq.2, hl.crash _⟩)
  by_cases k7 : kind = 7
  · subst k7
    exact (step12_7 hp i a x f ao n c bo m e hd).mono (fun en w' hq => ⟨hq.1, _, hq.2, hl.rt _ _ _⟩)
  by_cases k8 : kind = 8
  · subst k8
    exact (step12_8 hp i a x f ao n c bo m e hd).mono (fun en w' hq => ⟨hq.1, _, hq.2, hl.up⟩)
  by_cases k9 : kind = 9
  · subst k9
    exact (step12_9 hp i a x f ao n c bo m e).mono (fun en w' hq => ⟨hq.1, _, hq.2, hl.up⟩)
  exact (step12_0 hp kind i a x f ao n c bo m e ⟨k1, k2, k3, k4, k5, k6, k7, k8, k9⟩).mono (fun en w' hq => ⟨hq.1, _, hq.2, hl.up⟩)

theorem stands12_any {w0 w : World} {P B R t : Nat} (h : Pt w0 w P B R t) (ht : t ≤ 1000) : Calls Try.prog 15 #[.pointer (some ⟨P, 0, none⟩)] w fun e w' => e = .returned (.bool true) ∧ Pt w0 w' P B R t := by
  obtain ⟨s, ⟨F1, F2, g, cap, zs, hp⟩, hl⟩ := h
  exact (stands_any hp (by have := hl.d; omega)).mono (fun en w' hq => ⟨hq.1, s, ⟨_, _, _, _, _, hq.2⟩, hl⟩)

/-- Calls that came in. -/
structure Opl (w : World) (a : Option Addr) (ops : List Opr) : Prop where
  ats : ∀ j o, ops[j]? = some o → Opm w o ∧ ∃ b off, a = some ⟨b, off, none⟩ ∧ b < w.heap.size ∧ w.cell? ⟨b, off + j * 7, none⟩ = some (.int .i64 o.kind) ∧ w.cell? ⟨b, off + j * 7 + 1, none⟩ = some (.int .i64 o.i) ∧ w.cell? ⟨b, off + j * 7 + 2, none⟩ = some (.int .i64 o.a) ∧ w.cell? ⟨b, off + j * 7 + 3, none⟩ = some (.int .i64 o.x) ∧ w.cell? ⟨b, off + j * 7 + 4, none⟩ = some (.int .u8 o.f) ∧ w.cell? ⟨b, off + j * 7 + 5, none⟩ = some (.slice o.ao o.n o.c) ∧ w.cell? ⟨b, off + j * 7 + 6, none⟩ = some (.slice o.bo o.m o.e)
theorem Opm.keptN {w w' : World} {o : Opr} (h : Opm w o) (hg : w.grownBy w' none) : Opm w' o :=
  ⟨h.hb.keptN hg, h.bt, fun ad e h0 => Nat.lt_of_lt_of_le (h.ha ad e h0) hg.size, h.hf, h.hi, h.hF.keptN hg, h.fl, h.fm, h.hc⟩
theorem Opl.keptN {w w' : World} {a : Option Addr} {ops : List Opr} (h : Opl w a ops) (hg : w.grownBy w' none) : Opl w' a ops := by
  refine ⟨fun j o hj => ?_⟩
  obtain ⟨h1, b, off, e, hb, c0, c1, c2, c3, c4, c5, c6⟩ := h.ats j o hj
  exact ⟨h1.keptN hg, b, off, e, Nat.lt_of_lt_of_le hb hg.size, hg.cell c0 (by simp), hg.cell c1 (by simp), hg.cell c2 (by simp), hg.cell c3 (by simp), hg.cell c4 (by simp), hg.cell c5 (by simp), hg.cell c6 (by simp)⟩

/-- The longest of the first k. -/
def mx12 (ops : List Opr) (k : Nat) : Nat := (ops.take k).foldl (fun n o => max n o.n) 0
theorem mx12_s (ops : List Opr) (k : Nat) (o : Opr) (h : ops[k]? = some o) : mx12 ops (k + 1) = max (mx12 ops k) o.n := by
  unfold mx12
  rw [List.take_add_one, h, Option.toList_some, List.foldl_append]
  rfl
theorem mx12_le (ops : List Opr) : ∀ (k j : Nat) (o : Opr), j < k → ops[j]? = some o → o.n ≤ mx12 ops k
  | 0, j, o, hj, _ => by omega
  | k + 1, j, o, hj, h => by
    cases hk : ops[k]? with
    | none =>
      have e : mx12 ops (k + 1) = mx12 ops k := by unfold mx12; rw [List.take_add_one, hk]; simp
      rw [e]
      by_cases e' : j = k
      · subst e'; rw [hk] at h; cases h
      · exact mx12_le ops k j o (by omega) h
    | some p =>
      rw [mx12_s ops k p hk]
      by_cases e' : j = k
      · subst e'; rw [hk] at h; injection h with h; subst h; exact Nat.le_max_right _ _
      · exact Nat.le_trans (mx12_le ops k j o (by omega) h) (Nat.le_max_left _ _)

set_option maxHeartbeats 4000000 in
set_option maxRecDepth 4000 in
theorem small12_any {w : World} (a : Option Addr) (len cap : Nat) (ops : List Opr) (h : Opl w a ops) (hlen : ops.length = len) (hl63 : len ≤ 9223372036854775807) : Calls Try.prog 9 #[.slice a len cap] w fun e w' => e = .returned (.bool (decide (mx12 ops (min len 200) ≤ 10000))) ∧ w' = w := by
  have HO := hid_intro h
  clear h
  go_enter Try.func9, Try.ntmps9
  go_wp2_with fail
  go_loopw [3, 4] (fun sn si wr => ∃ k : Nat, k ≤ min len 200 ∧ si = .int .i64 (k : Int) ∧ sn = .int .i64 (mx12 ops k : Int) ∧ mx12 ops k ≤ 9223372036854775807 ∧ wr = w) (fun _ si _ => 200 - (intOf si).toNat)
  case atStart => exact ⟨0, Nat.zero_le _, rfl, rfl, by simp [mx12], rfl⟩
  case round =>
    obtain ⟨k, hk, rfl, rfl, hm, rfl⟩ := hrel
    by_cases hlt : k < min len 200
    · have a1 : (k : Int) < (len : Int) := by omega
      have a2 : (k : Int) < 200 := by omega
      have hg : ops[k]? = some (ops[k]'(by omega)) := List.getElem?_eq_getElem _
      obtain ⟨ho, b, off, rfl, hb, c0, c1, c2, c3, c4, c5, c6⟩ := HO.out.ats k _ hg
      have ms := mx12_s ops k _ hg
      have hn := ho.hc
      obtain ⟨on, hon⟩ : ∃ on, on = (ops[k]'(by omega)).n := ⟨_, rfl⟩
      rw [← hon] at c5 ms hn
      have MS := hid_intro ms
      clear c0 c1 c2 c3 c4 c6 ho hg hon ms
      go_wp2
      go_roundw
      case rel => exact ⟨k + 1, by omega, by go_num, by rw [MS.out]; congr 1; split <;> omega, by rw [MS.out]; omega, by trivial⟩
      case measure => simp [intOf]; omega
    · have hkm : k = min len 200 := by omega
      by_cases a1 : (k : Int) < (len : Int)
      · have a2 : ¬ (k : Int) < 200 := by omega
        go_wp2
        go_ret
        exact ⟨by rw [← hkm]; congr 2; simp; omega, rfl⟩
      · go_wp2
        go_ret
        exact ⟨by rw [← hkm]; congr 2; simp; omega, rfl⟩
end Go.Proofs.Ytiljdhhfhjhhiaa
