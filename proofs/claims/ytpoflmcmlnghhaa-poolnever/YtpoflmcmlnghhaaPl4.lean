import Derived.Test.YtpoflmcmlnghhaaPl3
namespace Go.Proofs.Ytpoflmcmlnghhaa
open Go.RowKit Go.Maps

/-- Is none of them free? -/
def noF (p : Po) (g : List Int) : Bool := g.all fun x => !hasI p.l x
def mayP (p : Po) (g : List Int) : Bool := noF p g && rp 1 p.c g
theorem noF_take {p : Po} {g : List Int} {i : Nat} (h : i < g.length) (k : noF p (g.take i) = true) (e : hasI p.l (g.getD i 0) = false) : noF p (g.take (i + 1)) = true := by
  unfold noF at *
  have hg : g.getD i 0 = g[i] := by simp [List.getD, List.getElem?_eq_getElem h]
  rw [List.take_add_one, List.getElem?_eq_getElem h, List.all_append, k]
  rw [hg] at e
  simp [e]
theorem noF_no {p : Po} {g : List Int} {i : Nat} (h : i < g.length) (e : hasI p.l (g.getD i 0) = true) : mayP p g = false := by
  have : noF p g = false := by
    unfold noF
    rw [List.all_eq_false]
    exact ⟨_, nget_mem h, by rw [e]; simp⟩
  simp [mayP, this]

set_option maxHeartbeats 1000000 in
set_option maxRecDepth 100000 in
theorem mayGo_any {w : World} {B s q : Nat} {p : Po} (h : Pl w B s q p) (a : Option Addr) (n cap : Nat) (g : List Int) (hl : Nt w a g) (hn : g.length = n) (hw : Wf g) (hm : n ≤ 9223372036854775807) :
    Calls Try.prog 43 #[.pointer (some ⟨B, 0, none⟩), .slice a n cap] w fun e w' => e = .returned (.bool (mayP p g)) ∧ w' = w := by
  have c0 := h.c0
  have c2 := h.c2
  have HM := hid_intro h.ms
  have HL := hid_intro hl
  have HW := hid_intro hw
  clear h hl hw
  go_enter Try.func43, Try.ntmps43
  go_wp2
  go_loopw [6, 7, 8, 11] (fun _ _ _ si wr => ∃ i : Nat, i ≤ n ∧ si = .int .i64 i ∧ noF p (g.take i) = true ∧ wr = w) (fun _ _ _ si _ => n - (zOf si).toNat)
  case atStart => exact ⟨0, Nat.zero_le _, rfl, rfl, rfl⟩
  case round =>
    obtain ⟨i, hi, rfl, ha, rfl⟩ := hrel
    have HA := hid_intro ha
    clear ha
    by_cases hlt : i < n
    · obtain ⟨b, off, rfl, d0⟩ := HL.out.row i (by omega)
      have hx := HW.out.getD (i := i) (by omega)
      cases hh : hasI p.l (g.getD i 0) with
      | true =>
        have HN := hid_intro (noF_no (p := p) (show i < g.length by omega) hh)
        have HH := hid_intro hh
        clear hh
        generalize g.getD i 0 = x at *
        go_wp2_with (first
          | (at_lookup; refine wpList_lookup_own_ok_int _ rfl _ _ 67 rfl 3 3 .i64 keyedI Try.underlying67 Try.underlying3 (zeroI _) s p.l.length (imD p.l) rfl HM.out _ _ rfl (keyOf_int_mk Try.underlying3 (wf64 hx)) ?_; intro cc hat hwc; rw [imD_has, HH.out]; clear hat hwc)
          | go_in)
        go_ret
        exact ⟨by rw [HN.out]; rfl, rfl⟩
      | false =>
        have HN := hid_intro (noF_take (p := p) (show i < g.length by omega) HA.out hh)
        have HH := hid_intro hh
        clear hh
        generalize g.getD i 0 = x at *
        go_wp2_with (first
          | (at_lookup; refine wpList_lookup_own_ok_int _ rfl _ _ 67 rfl 3 3 .i64 keyedI Try.underlying67 Try.underlying3 (zeroI _) s p.l.length (imD p.l) rfl HM.out _ _ rfl (keyOf_int_mk Try.underlying3 (wf64 hx)) ?_; intro cc hat hwc; rw [imD_has, HH.out]; clear hat hwc)
          | go_in)
        go_roundw
        case rel => exact ⟨i + 1, by omega, by go_num, HN.out, by trivial⟩
        case measure => simp [zOf]; omega
    · have hin : i = n := by omega
      subst hin
      have HN : Hid (mayP p g = rp 1 p.c g) := by
        show mayP p g = _
        have := HA.out
        rw [← hn, List.take_length] at this
        simp [mayP, this]
      go_wp2_with fail
      refine (rise_any a i cap p.c g _ HL.out hn hm).mono ?_
      rintro en w2 ⟨rfl, rfl⟩
      go_wp2
      go_ret
      exact ⟨by rw [HN.out]; rfl, rfl⟩

/-- The least f for which what is free behind the commit fits: t: what is free and gone together, u: what is usable, d: what is taken of it. -/
structure Lf (t u d f : Nat) : Prop where
  stop : t - min (d + f) u ≤ f * 1021
  go : ∀ j, j < f → j * 1021 < t - min (d + j) u
def lst (t u d : Nat) : Nat := ((List.range (t + 1)).find? fun f => decide (t - min (d + f) u ≤ f * 1021)).getD 0
set_option maxRecDepth 100000 in
theorem Lf.uniq {t u d f g : Nat} (h : Lf t u d f) (k : Lf t u d g) : f = g := by
  rcases Nat.lt_trichotomy f g with e | e | e
  · have := k.go f e; have := h.stop; omega
  · exact e
  · have := h.go g e; have := k.stop; omega
set_option maxRecDepth 100000 in
theorem lst_ok (t u d : Nat) : Lf t u d (lst t u d) := by
  unfold lst
  have hs : ((List.range (t + 1)).find? fun f => decide (t - min (d + f) u ≤ f * 1021)).isSome = true := by
    rw [List.find?_isSome]
    exact ⟨t, by simp, by simp; omega⟩
  obtain ⟨f, hf⟩ := Option.isSome_iff_exists.1 hs
  rw [hf]
  have h1 := List.find?_some hf
  simp only [decide_eq_true_eq] at h1
  refine ⟨h1, fun j hj => ?_⟩
  have h2 := (List.find?_range_eq_some.1 hf).2.2 j hj
  simp at h2
  omega
theorem Lf.eq {t u d f : Nat} (h : Lf t u d f) : f = lst t u d := h.uniq (lst_ok t u d)
theorem lst_le (t u d : Nat) : lst t u d ≤ t := by
  have h := lst_ok t u d
  by_cases h0 : lst t u d = 0
  · omega
  · have := h.go (lst t u d - 1) (by omega)
    omega

/-- How many pages of frees a commit needs; -1: there is no such commit. -/
def lsP (p : Po) (d : Int) (g : List Int) : Int := if d < 0 ∨ mayP p g = false then -1 else (lst (p.l.length + g.length) (us p).length (min d (us p).length).toNat : Nat)

set_option maxHeartbeats 1000000 in
set_option maxRecDepth 100000 in
theorem lists_no {w : World} {B s q : Nat} {p : Po} (h : Pl w B s q p) (d : Int) (a : Option Addr) (n cap : Nat) (g : List Int) (hl : Nt w a g) (hn : g.length = n) (hw : Wf g) (hm : n ≤ 9223372036854775807) (hd : d < 0 ∨ mayP p g = false) :
    Calls Try.prog 22 #[.pointer (some ⟨B, 0, none⟩), .int .i64 d, .slice a n cap] w fun e w' => e = .returned (.int .i64 (-1)) ∧ w' = w := by
  by_cases h0 : d < 0
  · clear hd
    go_enter Try.func22, Try.ntmps22
    go_wp2
    go_ret
    exact ⟨rfl, rfl⟩
  · have hf : mayP p g = false := by rcases hd with e | e; exact absurd e h0; exact e
    have HC := hid_intro (mayGo_any h a n cap g hl hn hw hm)
    rw [hf] at HC
    clear hd hf h hl hw
    go_enter Try.func22, Try.ntmps22
    go_wp2_with (go_at_call 43; refine HC.out.mono ?_; rintro en w2 ⟨rfl, rfl⟩)
    go_ret
    exact ⟨rfl, rfl⟩

set_option maxHeartbeats 2000000 in
set_option maxRecDepth 100000 in
theorem lists_yes {w : World} {B s q : Nat} {p : Po} (h : Pl w B s q p) (ok : Ok p) (d : Int) (a : Option Addr) (n cap : Nat) (g : List Int) (hl : Nt w a g) (hn : g.length = n) (hw : Wf g) (hm : n ≤ 1000000) (hd : 0 ≤ d) (hd2 : d ≤ 9223372036854775807) (hf : mayP p g = true) :
    Calls Try.prog 22 #[.pointer (some ⟨B, 0, none⟩), .int .i64 d, .slice a n cap] w fun e w' => e = .returned (.int .i64 (lsP p d g)) ∧ w.grownBy w' none := by
  have HE : Hid (lsP p d g = (lst (p.l.length + g.length) (us p).length (min d (us p).length).toNat : Nat)) := by
    show lsP p d g = _
    unfold lsP
    rw [if_neg (by rw [hf]; simp; omega)]
  have HC := hid_intro (mayGo_any h a n cap g hl hn hw (by omega))
  rw [hf] at HC
  have hpl := ok.len h.ms.ris
  have hul := us_len p
  have c2 := h.c2
  have HLN := hid_intro (fun (W : World) (hW : w.grownBy W none) => (World.ownsMap.len (h.ms.keptN hW) Try.underlying67 3).trans (by rw [imD_size]))
  have HU := hid_intro (fun (W : World) (hW : w.grownBy W none) => usable_any (h.keptN hW) (by omega))
  rw [hn] at HE
  clear h ok hf hl hw
  obtain ⟨u, hu⟩ : ∃ u, u = (us p).length := ⟨_, rfl⟩
  obtain ⟨t, ht⟩ : ∃ t, t = p.l.length := ⟨_, rfl⟩
  rw [← hu] at hul HE
  rw [← ht] at hul hpl HE HLN
  have HUE := hid_intro hu
  clear hu ht
  have c2d : w.drew.cell? ⟨B, 2, none⟩ = some (.map (some s)) := c2
  have ln0 := HLN.out w.drew ((Qt.refl w).drew.grown none)
  have hd0 : decide (d < 0) = false := by simp; omega
  obtain ⟨m, hm1⟩ : ∃ m : Nat, m = (min d (u : Int)).toNat := ⟨_, rfl⟩
  rw [← hm1] at HE
  have hm2 : min d (u : Int) = (m : Int) := by rw [hm1]; omega
  have hm3 : m ≤ u := by omega
  clear hm1
  have e1 : IntKind.i64.wrap ((t : Int) + (n : Int)) = (t : Int) + (n : Int) := by simp [IntKind.wrap, IntKind.signed, IntKind.bits]; omega
  go_enter Try.func22, Try.ntmps22
  go_wp2_with (go_at_call 43; refine HC.out.mono ?_; rintro en w2 ⟨rfl, rfl⟩)
  go_region_held3 (fun w' => w'.cell? ⟨B, 2, none⟩ = some (.map (some s)) ∧ (Builtin.len_ #[67] 3 #[.map (some s)]).run Try.prog w' = .ok (.int .i64 (t : Int)) w') (first | exact ⟨c2, HLN.out _ (World.grownBy.refl _ _)⟩ | exact T2.out | go_keep)
    (first | (go_at_call 14; refine (HU.out w2.drew ((Qt.refl w2).drew.grown none)).mono ?_; rintro en w3 ⟨v, rfl, ho, hg⟩; have HG := hid_intro (grown_trans ((Qt.refl w2).drew.grown none) hg); have T2 := hid_intro (show w3.cell? ⟨B, 2, none⟩ = some (.map (some s)) ∧ (Builtin.len_ #[67] 3 #[.map (some s)]).run Try.prog w3 = .ok (.int .i64 (t : Int)) w3 from ⟨HG.out.cell c2 (by simp), HLN.out _ HG.out⟩); rw [← HUE.out] at ho; obtain ⟨ao, cp, rfl, _⟩ := owns_ints ho; clear ho hg))
  all_goals
    clear T2 HC HU HLN ln0 c2d c2
    go_wp2
    go_loopw [9] (fun sf wr => ∃ f : Nat, sf = .int .i64 f ∧ (∀ j, j < f → j * 1021 < (t + n) - min (m + j) u) ∧ f ≤ t + n ∧ wr = w3) (fun sf _ => (t + n) - (zOf sf).toNat)
    case atStart => exact ⟨0, rfl, fun j hj => by omega, by omega, rfl⟩
    case round =>
      obtain ⟨f, rfl, hgo, hle, rfl⟩ := hrel
      have HGO := hid_intro hgo
      clear hgo
      obtain ⟨x, hx⟩ : ∃ x, x = min (m + f) u := ⟨_, rfl⟩
      have hx1 : min ((m : Int) + (f : Int)) (u : Int) = (x : Int) := by omega
      have hxu : x ≤ u := by omega
      have HX := hid_intro hx
      clear hx
      by_cases hgt : f * 1021 < (t + n) - x
      · have hc : (f : Int) * 1021 < (t : Int) + (n : Int) - (x : Int) := by omega
        have HG2 : Hid (∀ j, j < f + 1 → j * 1021 < (t + n) - min (m + j) u) := by
          intro j hj
          by_cases e : j = f
          · subst e; rw [← HX.out]; exact hgt
          · exact HGO.out j (by omega)
        go_wp2
        go_roundw
        case rel => exact ⟨f + 1, by go_num, HG2.out, by omega, by trivial⟩
        case measure => simp [zOf]; omega
      · have hc : ¬ ((f : Int) * 1021 < (t : Int) + (n : Int) - (x : Int)) := by omega
        have HF : Hid (f = lst (t + n) u m) := Lf.eq ⟨by rw [← HX.out]; omega, HGO.out⟩
        go_wp2
        go_ret
        exact ⟨by rw [HE.out, ← HF.out]; rfl, HG.out⟩

/-- Lists, of anything. -/
theorem lists_any {w : World} {B s q : Nat} {p : Po} (h : Pl w B s q p) (ok : Ok p) (d : Int) (a : Option Addr) (n cap : Nat) (g : List Int) (hl : Nt w a g) (hn : g.length = n) (hw : Wf g) (hm : n ≤ 1000000) (hd2 : d ≤ 9223372036854775807) :
    Calls Try.prog 22 #[.pointer (some ⟨B, 0, none⟩), .int .i64 d, .slice a n cap] w fun e w' => e = .returned (.int .i64 (lsP p d g)) ∧ w.grownBy w' none := by
  by_cases hd : d < 0 ∨ mayP p g = false
  · refine (lists_no h d a n cap g hl hn hw (by omega) hd).mono ?_
    rintro e w' ⟨rfl, rfl⟩
    exact ⟨by unfold lsP; rw [if_pos hd], World.grownBy.refl _ _⟩
  · refine lists_yes h ok d a n cap g hl hn hw hm (by omega) hd2 ?_
    cases e : mayP p g with
    | true => rfl
    | false => exact absurd (.inr e) hd
end Go.Proofs.Ytpoflmcmlnghhaa
