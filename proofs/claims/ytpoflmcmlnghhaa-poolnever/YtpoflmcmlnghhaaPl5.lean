import Derived.Test.YtpoflmcmlnghhaaPl4
namespace Go.Proofs.Ytpoflmcmlnghhaa
open Go.RowKit Go.Maps

theorem grown_cellP (w : World) (b i : Nat) (v : Value) : w.grownBy (w.setCell ⟨b, i, none⟩ v) (some b) :=
  ⟨rfl, rfl, rfl, by simp, fun k _ hne => Below.heap_setCell w _ v k (fun e => hne (by rw [e]))⟩
theorem Pl.set0 {w : World} {B s q : Nat} {p : Po} (h : Pl w B s q p) (x : Int) : Pl (w.setCell ⟨B, 0, none⟩ (.int .i64 x)) B s q { p with c := x } := by
  have hg := grown_cellP w B 0 (.int .i64 x)
  refine ⟨?_, h.ms.kept hg (by intro e; exact h.nes (Option.some.inj e)), h.mq.kept hg (by intro e; exact h.neq (Option.some.inj e)), h.ne⟩
  have := heap_setCell_same w B 0 _ _ (.int .i64 x) h.bx
  rw [this]
  rfl
theorem own_take {w : World} {base n k cap : Nat} {ao : Option Addr} {zs : List Int} (h : w.ownsRow base 3 1 (.slice ao n cap) n (zs.map (Value.int .i64))) (hk : k ≤ n) : w.ownsRow base 3 1 (.slice ao k cap) k ((zs.take k).map (Value.int .i64)) := by
  have hl := h.1
  rw [List.length_map, Nat.mul_one] at hl
  refine ⟨by simp; omega, ?_⟩
  rcases h.2 with ⟨e, h0⟩ | ⟨g, cap', cur, e, hb, hc, h1, h2, h3, h4⟩
  · injection e with e1 e2 e3
    subst e1 e3
    obtain rfl : k = 0 := by omega
    exact .inl ⟨rfl, rfl⟩
  · injection e with e1 e2 e3
    subst e1 e3
    refine .inr ⟨g, cap, cur, rfl, hb, hc, by omega, h2, h3, ?_⟩
    rw [Nat.mul_one] at *
    rw [List.map_take, ← h4, List.take_take, Nat.min_eq_left hk]

theorem own_addr {w : World} {base n : Nat} {v : Value} {xs : List Value} {e : TypeId} (h : w.ownsRow base e 1 v n xs) : ∀ ao m cp, v = .slice ao m cp → Option.map (fun x : Addr => x.add 0) ao = ao := by
  intro ao m cp e
  rcases h.2 with ⟨e1, _⟩ | ⟨g, cap, cur, e1, _⟩
  · rw [e1] at e
    injection e with e1 _ _
    rw [← e1]
    rfl
  · rw [e1] at e
    injection e with e1 _ _
    rw [← e1]
    rfl
theorem own_ne_pl {w : World} {base sz n : Nat} {v : Value} {xs : List Value} (h : w.ownsRow base 3 sz v n xs) {B s q : Nat} {p : Po} (hp : Pl w B s q p) : ∀ g, v.ownBlock = some g → ¬ Bk B s q g := by
  intro g hg hb
  obtain ⟨_, cur, hc⟩ := own_lt h hg
  rcases hb with rfl | rfl | rfl
  · rw [hp.bx] at hc
    simp at hc
  · exact own_ne_map h hp.ms hg.symm
  · exact own_ne_map h hp.mq hg.symm
theorem Pl.kept {w w' : World} {B s q : Nat} {p : Po} {row : Option Nat} (h : Pl w B s q p) (hg : w.grownBy w' row) (hr : ∀ g, row = some g → ¬ Bk B s q g) : Pl w' B s q p :=
  h.same fun i hi => hg.block i (by rcases hi with rfl | rfl | rfl; exact h.lt; exact h.ms.lt; exact h.mq.lt) (fun e => hr i e.symm hi)
/-- The map of what is free has turned. -/
theorem Pl.setS {w w' : World} {B s q : Nat} {p : Po} {l : List (Int × Int)} (h : Pl w B s q p) (hg : w.grownBy w' (some s)) (hm : Im w' s l) : Pl w' B s q { p with l := l } :=
  ⟨(hg.block B h.lt (by intro e; exact h.nes (Option.some.inj e).symm)).trans h.bx, hm, h.mq.kept hg (by intro e; exact h.ne (Option.some.inj e).symm), h.ne⟩
def dels (l : List (Int × Int)) (xs : List Int) : List (Int × Int) := xs.foldl delI l
theorem dels_snoc (l : List (Int × Int)) (xs : List Int) (x : Int) : dels l (xs ++ [x]) = delI (dels l xs) x := by simp [dels]
theorem mem_dels (l : List (Int × Int)) (xs : List Int) (p : Int × Int) : p ∈ dels l xs ↔ p ∈ l ∧ p.1 ∉ xs := by
  induction xs generalizing l with
  | nil => simp [dels]
  | cons x xs ih =>
    show p ∈ dels (delI l x) xs ↔ _
    rw [ih, mem_delI]
    simp only [List.mem_cons, not_or]
    constructor
    · rintro ⟨⟨h1, h2⟩, h3⟩; exact ⟨h1, h2, h3⟩
    · rintro ⟨h1, h2, h3⟩; exact ⟨⟨h1, h2⟩, h3⟩
theorem Ris.dels {l : List (Int × Int)} (h : Ris l) (xs : List Int) : Ris (dels l xs) := by
  induction xs generalizing l with
  | nil => exact h
  | cons x xs ih => exact ih (h.del x)
theorem dels_len (l : List (Int × Int)) (xs : List Int) : (dels l xs).length ≤ l.length := by
  induction xs generalizing l with
  | nil => exact Nat.le_refl _
  | cons x xs ih => exact Nat.le_trans (ih (delI l x)) (del_len x)
/-- So many numbers from c on. -/
def ups (c : Int) (n : Nat) : List Int := (List.range n).map fun (i : Nat) => c + i
theorem ups_len (c : Int) (n : Nat) : (ups c n).length = n := by simp [ups]
theorem ups_succ (c : Int) (n : Nat) : ups c (n + 1) = ups c n ++ [c + n] := by simp [ups, List.range_succ]
/-- What is taken, and the pool behind it. -/
def tkn (p : Po) (n : Nat) : List Int := (us p).take n ++ ups p.c (n - (us p).length)
def tkP (p : Po) (n : Nat) : Po := { p with l := dels p.l ((us p).take n), c := p.c + ((n - (us p).length : Nat) : Int) }
theorem tkn_len (p : Po) (n : Nat) : (tkn p n).length = n := by
  unfold tkn
  rw [List.length_append, List.length_take, ups_len]
  omega
theorem zget_take {L : List Int} {i k : Nat} (h : i < k) : (L.take k).getD i 0 = L.getD i 0 := by simp [List.getD, h]
theorem take_snoc {L : List Int} {i : Nat} (h : i < L.length) : L.take (i + 1) = L.take i ++ [L.getD i 0] := by
  rw [List.take_add_one, List.getElem?_eq_getElem h]
  simp [List.getD, List.getElem?_eq_getElem h]

set_option maxHeartbeats 4000000 in
set_option maxRecDepth 100000 in
theorem take_any {w : World} {B s q : Nat} {p : Po} (h : Pl w B s q p) (hs : p.l.length ≤ 1000000) (hc : 0 ≤ p.c) (hc2 : p.c ≤ 1000000) (n : Nat) (hn : n ≤ 2000000) :
    Calls Try.prog 44 #[.pointer (some ⟨B, 0, none⟩), .int .i64 n] w fun e w' => ∃ v, e = .returned v ∧ w'.ownsRow w.heap.size 3 1 v n ((tkn p n).map (Value.int .i64)) ∧ Pl w' B s q (tkP p n) ∧ Fr w w' (Bk B s q) := by
  obtain ⟨i1, hi1, hy0, hy1, hy2⟩ := info_parts info_int
  have HP := hid_intro h
  have hul := us_len p
  have HUW : Hid (Wf (us p)) := fun x hx => by
    obtain ⟨y, hy, rfl, _⟩ := mem_us.1 hx
    exact of_wf64 (h.ms.kw y hy)
  clear h
  obtain ⟨u, hu⟩ : ∃ u, u = (us p).length := ⟨_, rfl⟩
  have HC := hid_intro (usable_any HP.out hs)
  rw [← hu] at HC hul
  obtain ⟨k, hk⟩ : ∃ k : Nat, k = min n u := ⟨_, rfl⟩
  have hk1 : min (n : Int) (u : Int) = (k : Int) := by omega
  have hku : k ≤ u := by omega
  have HU := hid_intro hu
  have HK := hid_intro hk
  clear hu hk
  go_enter Try.func44, Try.ntmps44
  go_wp2_with fail
  refine HC.out.mono ?_
  rintro en w1 ⟨v, rfl, ho, hg⟩
  have hadd := own_addr ho
  obtain ⟨ao, cp, rfl, hnt, hcp, hcp2, hnil, hbs⟩ := owns_ints ho
  have hadd2 := hadd ao u cp rfl
  have HP1 := hid_intro (HP.out.keptN hg)
  have HF1 := hid_intro (Fr.ofN (F := Bk B s q) hg)
  have hsz := hg.size
  have HO := hid_intro (own_take ho hku)
  have hkc : (k : Int) ≤ (cp : Int) := by omega
  have hk0 : (0 : Int) ≤ (k : Int) := by omega
  clear ho hg hnt hbs hnil hadd
  go_wp2
  go_loopw [8, 19] (fun _ si wr => ∃ i : Nat, i ≤ k ∧ si = .int .i64 i ∧ wr.ownsRow w.heap.size 3 1 (.slice ao k cp) k (((us p).take k).map (Value.int .i64)) ∧ Pl wr B s q { p with l := dels p.l ((us p).take i) } ∧ Fr w wr (Bk B s q)) (fun _ si _ => k - (zOf si).toNat)
  case atStart => exact ⟨0, Nat.zero_le _, rfl, HO.out, HP1.out, HF1.out⟩
  case round =>
    obtain ⟨i, hi, rfl, ho, hp, hf⟩ := hrel
    have HO2 := hid_intro ho
    have HP2 := hid_intro hp
    have HF2 := hid_intro hf
    have c2 := hp.c2
    have HM2 := hid_intro hp.ms
    clear ho hp hf HO HP1 HF1
    by_cases hlt : i < k
    · obtain ⟨ao', cp', e1, hnt, _⟩ := owns_ints HO2.out
      injection e1 with e1 e2 e3
      subst e1
      have hkl : ((us p).take k).length = k := by rw [List.length_take, ← HU.out]; omega
      obtain ⟨b, off, rfl, d0⟩ := hnt.row i (by omega)
      rw [zget_take hlt] at d0
      have hx := HUW.out.getD (i := i) (by rw [← HU.out]; omega)
      have HTK := hid_intro (take_snoc (L := us p) (i := i) (by rw [← HU.out]; omega))
      clear hnt hkl e2 e3
      generalize (us p).getD i 0 = x at *
      go_wp2_with (first
        | (at_delete; refine wpList_delete_own _ rfl _ _ 67 3 rfl 3 keyedI Try.underlying67 _ s _ (imD (dels p.l ((us p).take i))) rfl HM2.out _ _ rfl (keyOf_int_mk Try.underlying3 (wf64 hx)) ?_; intro w2 hown2 hturn2)
        | go_in)
      have hg2 := hturn2.grown
      have HO3 := hid_intro (own_keptR HO2.out hg2 (fun g e e' => own_ne_map HO2.out HM2.out (by rw [e, ← e'])))
      have hp3 := HP2.out.setS hg2 (Im.del hown2)
      rw [← dels_snoc, ← HTK.out] at hp3
      have HP3 := hid_intro hp3
      have HF3 := hid_intro (HF2.out.trans (Fr.of hg2 (fun j e => .inr (.inr (.inl (Option.some.inj e).symm)))))
      clear hp3 hg2 hown2 hturn2
      go_wp2
      go_roundw
      case rel => exact ⟨i + 1, by omega, by go_num, HO3.out, HP3.out, HF3.out⟩
      case measure => simp [zOf]; omega
    · have hik : i = k := by omega
      subst hik
      have HT : Hid ((us p).take i = (us p).take n) := by
        show _ = _
        by_cases e : n ≤ u
        · rw [HK.out, Nat.min_eq_left e]
        · rw [HK.out, List.take_of_length_le (by rw [← HU.out]; omega), List.take_of_length_le (by rw [← HU.out]; omega)]
      rw [HT.out] at HO2 HP2
      clear c2 HM2
      go_wp2
      go_loopw [6] (fun sv wr => ∃ j : Nat, j ≤ n - u ∧ wr.ownsRow w.heap.size 3 1 sv (i + j) (((us p).take n ++ ups p.c j).map (Value.int .i64)) ∧ Pl wr B s q { p with l := dels p.l ((us p).take n), c := p.c + j } ∧ Fr w wr (Bk B s q)) (fun sv _ => n - (lnOf sv))
      case atStart => exact ⟨0, Nat.zero_le _, by simpa [ups] using HO2.out, by simpa using HP2.out, HF2.out⟩
      case round =>
        obtain ⟨j, hj, ho, hp, hf⟩ := hrel
        obtain ⟨a2, c2, rfl, -, hc2, hc3, -, -⟩ := owns_ints ho
        have c0 := hp.c0
        have HO3 := hid_intro ho
        have HP3 := hid_intro hp
        have HF3 := hid_intro hf
        have hss := hf.size
        clear ho hp hf HO2 HP2 HF2
        by_cases hlt : i + j < n
        · have hlt2 : ((i : Int) + (j : Int)) < (n : Int) := by omega
          have hju : j < n - u := by
            have := HK.out
            omega
          obtain ⟨x, hx⟩ : ∃ x, x = p.c + (j : Int) := ⟨_, rfl⟩
          have c0' : wr.cell? ⟨B, 0, none⟩ = some (.int .i64 x) := by rw [hx]; exact c0
          have hx0 : 0 ≤ x := by omega
          have hx1 : x ≤ 4000000 := by omega
          have HX := hid_intro hx
          clear hx c0
          go_wp2_with (first
            | (at_builtin; refine wpList_append_own _ rfl _ _ 22 rfl w.heap.size 3 i1 (.int .i64 0) 1 8 Try.underlying22 hi1 hy0 hy1 hy2 rfl (by decide) (.slice a2 (i + j) c2) (i + j) (((us p).take n ++ ups p.c j).map (Value.int .i64)) rfl (HO3.out.alloc _) ⟨wr.heap.size, 0, none⟩ 1 1 [.int .i64 x] rfl rfl (cell_one_new _ _ _) (by intro u hu; simp at hu; subst hu; rfl) (by unfold maxLen; omega) (by omega) (by simp; omega) ?_; intro v' w10 ho hg10 _; have HG10 := hid_intro hg10; have HO10 := hid_intro ho; have hga := World.grownBy_alloc wr (.cells #[.int .i64 x] 3) none; have HP10 := hid_intro (((HP3.out.keptN hga)).kept hg10 (own_ne_pl (HO3.out.alloc (.cells #[.int .i64 x] 3)) (HP3.out.keptN hga))); have c10 : w10.cell? ⟨B, 0, none⟩ = some (.int .i64 x) := (by rw [HX.out]; exact HP10.out.c0); have f10 := HP10.out.fz 0; clear ho hg10 hga c0')
            | go_in)
          have ho5 : w10.ownsRow w.heap.size 3 1 v' (i + (j + 1)) (((us p).take n ++ ups p.c (j + 1)).map (Value.int .i64)) := by
            have e : ((us p).take n ++ ups p.c (j + 1)).map (Value.int .i64) = ((us p).take n ++ ups p.c j).map (Value.int .i64) ++ [.int .i64 x] := by
              rw [ups_succ, HX.out]
              simp
            rw [e]
            exact HO10.out
          have hgs := grown_cellP w10 B 0 (.int .i64 (x + 1))
          have ho6 := own_keptR ho5 hgs (fun g e e' => own_ne_pl ho5 HP10.out g e (.inl (Option.some.inj e').symm))
          have hp6 := HP10.out.set0 (x + 1)
          have e6 : x + 1 = p.c + ((j + 1 : Nat) : Int) := by rw [HX.out]; omega
          have hf6 : Fr w (w10.setCell ⟨B, 0, none⟩ (.int .i64 (x + 1))) (Bk B s q) := by
            refine Fr.trans ?_ (Fr.of hgs (fun k e => .inr (.inl (Option.some.inj e).symm)))
            refine (HF3.out.trans (Fr.ofN (World.grownBy_alloc wr (.cells #[.int .i64 x] 3) none))).then (Fr.of (F := fun m => (Value.slice a2 (i + j) c2).ownBlock = some m) HG10.out (fun k e => .inr e)) ?_
            intro m hm hlt'
            have := (own_lt HO3.out hm).1
            omega
          obtain ⟨a3, c3, rfl, -⟩ := owns_ints ho5
          refine ⟨⟨j + 1, by omega, ho6, ?_, hf6⟩, by simp [lnOf]; omega⟩
          rw [← e6]
          exact hp6
        · have hjn : i + j = n := by
            have := HK.out
            omega
          have hju : j = n - u := by
            have := HK.out
            omega
          have hlt2 : ¬ ((i : Int) + (j : Int)) < (n : Int) := by omega
          have HO4 : Hid (wr.ownsRow w.heap.size 3 1 (.slice a2 (i + j) c2) n ((tkn p n).map (Value.int .i64))) := by
            have := HO3.out
            show wr.ownsRow _ _ _ _ n _
            unfold tkn
            rw [← HU.out, ← hju]
            have e : (i + j) = n := hjn
            rw [e] at this ⊢
            exact this
          have HP4 : Hid (Pl wr B s q (tkP p n)) := by
            have := HP3.out
            show Pl wr B s q (tkP p n)
            unfold tkP
            rw [← HU.out, ← hju]
            exact this
          clear hjn hju HO3 HP3
          go_wp2
          go_ret
          exact ⟨_, rfl, HO4.out, HP4.out, HF3.out⟩
end Go.Proofs.Ytpoflmcmlnghhaa
