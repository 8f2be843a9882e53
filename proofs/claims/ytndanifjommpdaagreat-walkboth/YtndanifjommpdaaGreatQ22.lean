import Derived.Test.YtndanifjommpdaaGreatQ20
namespace Go.Proofs.YtndanifjommpdaaGreat
open Go.RowKit
theorem seps_few {L : List (List Int)} (h : bsize L ≤ 4092) : L.length ≤ 370 := by
 have := bsize_least L
 omega
set_option maxHeartbeats 4000000 in
set_option maxRecDepth 100000 in
theorem bjoins_any (n : Nat) : JoinsC (n + 1) := by
 intro b v x y so sn sc s w hx hy ox oy hs hv
 obtain ⟨b', a, m, c, sa, sm, sc1, e, hb, _, hss⟩ := hx
 simp only [tyN, Value.iface.injEq, Value.pointer.injEq, Option.some.injEq, Addr.mk.injEq, true_and, and_true] at e
 subst e
 obtain ⟨d, a2, m2, c2, sa2, sm2, sc2, rfl, hd, _, hss2⟩ := hy
 obtain ⟨_, _, _, x4, x5⟩ := ox
 obtain ⟨_, _, _, y4, y5⟩ := oy
 have l1 := hss.len
 have l2 := hss2.len
 have f1 := seps_few x4
 have f2 := seps_few y4
 have k1 := cell_heap (i := 2) hb rfl
 have k2 := cell_heap (i := 2) hd rfl
 have KX : Hid (∀ z ∈ (BnT.row (T := NdT n) x).ss ++ ([s] ++ (BnT.row (T := NdT n) y).ss), z.length ≤ 140737488351232) := by
  intro z hz
  simp only [List.mem_append, List.mem_cons, List.not_mem_nil, or_false] at hz
  rcases hz with h | rfl | h
  ·have := (x5 z h).k2; omega
  ·have := hv.k2; omega
  ·have := (y5 z h).k2; omega
 have JB := hid_intro (fun (W : World) (h : w.grownBy W none) => joinBranches_any sa sm sc1 (BnT.row (T := NdT n) x).ss so sn sc s sa2 sm2 sc2 (BnT.row (T := NdT n) y).ss W (hss.kept (FrT.of h)).lz l1 hss.cap.2.2 (hs.b.keptN h) hs.l1 hs.l2 (hss2.kept (FrT.of h)).lz l2 hss2.cap.2.2 (by omega) KX.out)
 have HJ : Hid (joinsT (n + 1) x s y = decide (bsize ((BnT.row (T := NdT n) x).ss ++ ([s] ++ (BnT.row (T := NdT n) y).ss)) ≤ 3000)) := rfl
 have G0 := hid_intro ((Qt.refl w).drew.grown none)
 have hta := assertB
 rw [HJ.out]
 show Calls Tryz.prog 122 _ _ _
 clear hb hd hss hss2 hs x5 y5
 go_enter Tryz.func122, Tryz.ntmps122
 go_wp2_with fail
 go_region_held3 (fun w' => w'.cell? ⟨b, 2, none⟩ = some (.slice sa sm sc1) ∧ w'.cell? ⟨d, 2, none⟩ = some (.slice sa2 sm2 sc2)) (first | exact ⟨k1, k2⟩ | exact S1 | go_keep) (first
  | (go_at_call 139; (with_reducible refine (JB.out _ G0.out).mono ?_); rintro en w6 ⟨rfl, hg6⟩; have GG := grown_trans G0.out hg6; have S1 := And.intro (GG.cell k1 (by simp)) (GG.cell k2 (by simp))))
 all_goals go_wp2
 all_goals (go_ret; exact ⟨rfl, GG⟩)
set_option maxHeartbeats 4000000 in
set_option maxRecDepth 100000 in
theorem search_tr (A B : Nat) (n : Nat) (p : Nat → Bool) (w : World) (hn : n ≤ 100000)
  (hp : ∀ (k : Nat) (w1 : World), k < n → w.grownBy w1 none → Calls Tryz.prog 132 #[.int .i64 k, .pointer (some ⟨A, 0, none⟩), .pointer (some ⟨B, 0, none⟩)] w1 fun en w' => en = .returned (.bool (p k)) ∧ w1.grownBy w' none) :
  Calls Tryz.prog 49 #[.int .i64 n, .func (.func 132) #[] #[.pointer (some ⟨A, 0, none⟩), .pointer (some ⟨B, 0, none⟩)]] w fun en w' => (∃ k : Nat, en = .returned (.int .i64 k) ∧ k ≤ n ∧ (0 < k → p (k - 1) = false) ∧ (k < n → p k = true)) ∧ w.grownBy w' none := by
 have HP := hid_intro hp
 clear hp
 go_enter Tryz.func49, Tryz.ntmps49
 go_wp2
 go_loopw [5, 6, 7] (fun si sj _ wr => ∃ i j : Nat, i ≤ j ∧ j ≤ n ∧ si = .int .i64 i ∧ sj = .int .i64 j ∧ (0 < i → p (i - 1) = false) ∧ (j < n → p j = true) ∧ w.grownBy wr none) (fun si sj _ _ => (intOf sj).toNat - (intOf si).toNat)
 case atStart => exact ⟨0, n, Nat.zero_le _, Nat.le_refl _, rfl, rfl, fun h => by omega, fun h => by omega, World.grownBy.refl _ _⟩
 case round =>
  obtain ⟨i, j, hij, hj, rfl, rfl, hlo, hhi, hg⟩ := hrel
  have HLO := hid_intro hlo
  have HHI := hid_intro hhi
  have HG := hid_intro hg
  clear hlo hhi hg
  by_cases hlt : i < j
  ·obtain ⟨m, hm⟩ : ∃ m : Nat, (i + j) / 2 = m := ⟨_, rfl⟩
   have h1 : i ≤ m ∧ m < j := by omega
   have e1 : ((i : Int) + (j : Int)) / 2 = (m : Int) := by omega
   have e2 : ((i : Int) + (j : Int)) % 18446744073709551616 = (i : Int) + (j : Int) := by omega
   go_wp2_with fail
   refine (HP.out m _ (by omega) HG.out).mono ?_
   rintro en w2 ⟨rfl, hg2⟩
   have HG2 := hid_intro (grown_trans HG.out hg2)
   clear hg2 HG
   cases hb : p m with
   | false =>
    have HB : Hid (0 < m + 1 → p (m + 1 - 1) = false) := fun _ => hb
    clear hb
    go_wp2
    go_roundw
    case rel => exact ⟨m + 1, j, by omega, hj, by go_num, rfl, HB.out, HHI.out, HG2.out⟩
    case measure => simp [intOf]; omega
   | true =>
    have HB : Hid (m < n → p m = true) := fun _ => hb
    clear hb
    go_wp2
    go_roundw
    case rel => exact ⟨i, m, by omega, by omega, rfl, rfl, HLO.out, HB.out, HG2.out⟩
    case measure => simp [intOf]; omega
  ·have hin : i = j := by omega
   subst hin
   go_wp2
   go_ret
   exact ⟨⟨i, rfl, hj, HLO.out, HHI.out⟩, HG.out⟩
theorem place_cons (x : List Int) (L : List (List Int)) (key : List Int) : placeT (x :: L) key = if cmpZ x key ≤ 0 then placeT L key + 1 else 0 := by
 unfold placeT
 rw [List.takeWhile_cons]
 by_cases h : cmpZ x key ≤ 0 <;> simp [h]
theorem place_at {key : List Int} : ∀ {L : List (List Int)} {k : Nat}, L.Pairwise (fun a b => cmpZ a b < 0) → k ≤ L.length → (0 < k → cmpZ (L.getD (k - 1) []) key ≤ 0) → (k < L.length → 0 < cmpZ (L.getD k []) key) → placeT L key = k
 | [], k, _, hk, _, _ => by simp [placeT] at *; omega
 | x :: L, 0, _, _, _, h2 => by
  have := h2 (by simp)
  rw [place_cons, if_neg (by simpa using this)]
 | x :: L, k + 1, hs, hk, h1, h2 => by
  have hp := List.pairwise_cons.1 hs
  simp only [List.length_cons] at hk h2
  have h3 := h1 (by omega)
  rw [show k + 1 - 1 = k by omega] at h3
  have hx : cmpZ x key ≤ 0 := by
   cases k with
   | zero => simpa using h3
   | succ k =>
    have e : (x :: L).getD (k + 1) [] = L.getD k [] := by simp [List.getD]
    rw [e] at h3
    have hm : L.getD k [] ∈ L := by
     rw [show L.getD k [] = L[k]'(by omega) by simp [List.getD, List.getElem?_eq_getElem (show k < L.length by omega)]]
     exact List.getElem_mem _
    have := lt_trans10 (hp.1 _ hm) h3
    omega
  rw [place_cons, if_pos hx]
  congr 1
  refine place_at hp.2 (by omega) (fun h0 => ?_) (fun h0 => ?_)
  ·cases k with
   | zero => omega
   | succ k =>
    have e : (x :: L).getD (k + 1) [] = L.getD k [] := by simp [List.getD]
    rw [e] at h3
    simpa using h3
  ·have := h2 (by omega)
   have e : (x :: L).getD (k + 1) [] = L.getD k [] := by simp [List.getD]
   rw [e] at this
   exact this
theorem seps_rise {T : Type} {F : T → List PrT} : ∀ (ns : List T) (ss : List (List Int)), (ss.map Sum.inr).Sublist (wordT F ns ss)
 | [], ss => List.Sublist.refl _
 | x :: xs, [] => by simp
 | x :: xs, s :: ss => by
  rw [wordT, List.map_cons]
  exact List.Sublist.trans ((seps_rise xs ss).cons_cons _) (List.sublist_append_right _ _)
theorem rise_of {T : Type} {F : T → List PrT} {ns : List T} {ss : List (List Int)} (h : SepT F ns ss) : ss.Pairwise fun a b => cmpZ a b < 0 := by
 have := h.ord.sublist (seps_rise ns ss)
 rw [List.pairwise_map] at this
 exact this.imp (fun k => rk_ss.1 k)
set_option maxHeartbeats 4000000 in
set_option maxRecDepth 100000 in
theorem place1_any (b A B : Nat) (sa : Option Addr) (sm sc : Nat) (ka : Option Addr) (kn kc : Nat) (L : List (List Int)) (key : List Int) (k : Nat) (w : World) (hA : w.cell? ⟨A, 0, none⟩ = some (.pointer (some ⟨b, 0, none⟩))) (hB : w.cell? ⟨B, 0, none⟩ = some (.slice ka kn kc)) (hc : w.cell? ⟨b, 2, none⟩ = some (.slice sa sm sc)) (hl : SsT w sa sm sc L) (hk : k < sm)
  (hb : Byt w ka kn kc key) (bt : Bt key) (bl : ∀ s ∈ L, Bt s) :
  Calls Tryz.prog 132 #[.int .i64 k, .pointer (some ⟨A, 0, none⟩), .pointer (some ⟨B, 0, none⟩)] w fun en w' => en = .returned (.bool (decide (0 < cmpZ (L.getD k []) key))) ∧ w.grownBy w' none := by
 have hlen := hl.len
 have hx : L[k]? = some (L.getD k []) := by rw [List.getElem?_eq_getElem (by omega)]; simp [List.getD, List.getElem?_eq_getElem (show k < L.length by omega)]
 obtain ⟨g, off, qa, qn, qc, rfl, c0, hp⟩ := hl.str hx
 have HC := hid_intro (fun (W : World) (h : W.heap = w.heap) => compare_any qa ka qn kn qc kc (L.getD k []) key W (hp.b.heap h) (hb.heap h) (bl _ (List.mem_of_getElem? hx)) bt)
 have hk2 : (0 : Int) ≤ (k : Int) ∧ (k : Int) < (sm : Int) := by omega
 generalize L.getD k [] = s at *
 clear hb hp hl bl hx
 go_enter Tryz.func132, Tryz.ntmps132
 go_wp2
 go_region_with (go_at_call 51; refine (HC.out w.drew rfl).mono ?_; rintro en w2 ⟨rfl, rfl⟩)
 all_goals (go_wp2; go_ret; exact ⟨rfl, (Qt.refl _).drew.grown none⟩)
set_option maxHeartbeats 4000000 in
set_option maxRecDepth 100000 in
theorem place_any (b : Nat) (sa : Option Addr) (sm sc : Nat) (ka : Option Addr) (kn kc : Nat) (L : List (List Int)) (key : List Int) (w : World) (hc : w.cell? ⟨b, 2, none⟩ = some (.slice sa sm sc)) (hl : SsT w sa sm sc L) (hm : sm ≤ 5000) (hs : L.Pairwise fun a b => cmpZ a b < 0)
  (hb : Byt w ka kn kc key) (bt : Bt key) (bl : ∀ s ∈ L, Bt s) :
  Calls Tryz.prog 127 #[.pointer (some ⟨b, 0, none⟩), .slice ka kn kc] w fun en w' => en = .returned (.int .i64 ((placeT L key : Nat) : Int)) ∧ w.grownBy w' none := by
 have hlen := hl.len
 have hmf : ∀ (fn : Fn) (first cap : Array Value) (w : World), (Instr.makeFunc fn first cap).run Tryz.prog w = .ok (.func fn first cap) w := fun _ _ _ _ => rfl
 have G1 := hid_intro (World.grownBy_alloc w (.cells #[.pointer (some ⟨b, 0, none⟩)] 113) none)
 have G2 := hid_intro (grown_trans G1.out (World.grownBy_alloc (w.alloc (.cells #[.pointer (some ⟨b, 0, none⟩)] 113)) (.cells #[.slice ka kn kc] 23) none))
 have HP : Hid (∀ (k : Nat) (w1 : World), k < sm → ((w.alloc (.cells #[.pointer (some ⟨b, 0, none⟩)] 113)).alloc (.cells #[.slice ka kn kc] 23)).grownBy w1 none → Calls Tryz.prog 132 #[.int .i64 k, .pointer (some ⟨w.heap.size, 0, none⟩), .pointer (some ⟨w.heap.size + 1, 0, none⟩)] w1 fun en w' => en = .returned (.bool (decide (0 < cmpZ (L.getD k []) key))) ∧ w1.grownBy w' none) := by
  intro k w1 hk hg
  have hg2 := grown_trans G2.out hg
  have c1 : ((w.alloc (.cells #[.pointer (some ⟨b, 0, none⟩)] 113)).alloc (.cells #[.slice ka kn kc] 23)).cell? ⟨w.heap.size + 1, 0, none⟩ = some (.slice ka kn kc) := cell_heap (heap_at1 w _ _ _) rfl
  have c2 : ((w.alloc (.cells #[.pointer (some ⟨b, 0, none⟩)] 113)).alloc (.cells #[.slice ka kn kc] 23)).cell? ⟨w.heap.size, 0, none⟩ = some (.pointer (some ⟨b, 0, none⟩)) := cell_heap (heap_old (heap_at0 w _ _)) rfl
  exact place1_any b _ _ sa sm sc ka kn kc L key k w1 (hg.cell c2 (by simp)) (hg.cell c1 (by simp)) (hg2.cell hc (by simp)) (hl.kept (FrT.of hg2)) hk (hb.keptN hg2) bt bl
 have hbl := cell_lt hc
 have HS := hid_intro hs
 clear hl hb hs bl
 go_enter Tryz.func127, Tryz.ntmps127
 go_wp2_with fail
 refine (search_tr _ _ sm _ _ (by omega) HP.out).mono ?_
 rintro en w2 ⟨⟨k, rfl, h1, h2, h3⟩, hg⟩
 have hf : placeT L key = k := place_at HS.out (by omega) (fun h => by have := h2 h; simpa using this) (fun h => by have := h3 (by omega); simpa using this)
 have HF := hid_intro hf
 have HG := hid_intro (grown_trans G2.out hg)
 clear hf h2 h3 hg HP
 go_wp2
 go_ret
 rw [HF.out]
 exact ⟨rfl, HG.out⟩
def fGet : Nat → Nat
 | 0 => 109
 | _ + 1 => 120
def GetC (n : Nat) : Prop := ∀ (b : Nat) (x : NdT n) (ka : Option Addr) (kn kc : Nat) (key : List Int) (w : World), NodeT n w (.iface (tyN n) (.pointer (some ⟨b, 0, none⟩))) x → OkT n x → Byt w ka kn kc key → Bt key →
 Calls Tryz.prog (fGet n) #[.pointer (some ⟨b, 0, none⟩), .slice ka kn kc] w fun en w' => (∃ ao n' c, en = .returned (.tuple #[.slice ao n' c, .bool (getT n x key).isSome]) ∧ BtyT w' ao n' c ((getT n x key).getD [])) ∧ w.grownBy w' none
theorem get_at {n : Nat} {x : NdT (n + 1)} {y : NdT n} {key : List Int} (h : (BnT.row (T := NdT n) x).ns[placeT (BnT.row (T := NdT n) x).ss key]? = some y) : getT (n + 1) x key = getT n y key := by rw [getT, h]
theorem getC0 : GetC 0 := fun b x ka kn kc key w hx ox hk bt => lget_any b x ka kn kc key w hx (LokT.of ox) hk bt
set_option maxHeartbeats 8000000 in
set_option maxRecDepth 100000 in
theorem getC_L (hG : GetC 0) : GetC 1 := by
 intro b x ka kn kc key w hx ox hk bt
 obtain ⟨b', a, m, c, sa, sm, sc, e, hb, hns, hss⟩ := hx
 simp only [tyN, Value.iface.injEq, Value.pointer.injEq, Option.some.injEq, Addr.mk.injEq, true_and, and_true] at e
 subst e
 obtain ⟨x1, x2, x3, x4, x5⟩ := ox
 obtain ⟨y, hy⟩ := at_place x3 x1 key
 have ls := hss.len
 have ln := hns.len
 have f1 := seps_few x4
 have k1 := cell_heap (i := 1) hb rfl
 have k2 := cell_heap (i := 2) hb rfl
 have G0 := hid_intro ((Qt.refl w).drew.grown none)
 have PL := hid_intro (fun (W : World) (h : w.grownBy W none) => place_any b sa sm sc ka kn kc (BnT.row (T := NdT 0) x).ss key W (h.cell k2 (by simp)) (hss.kept (FrT.of h)) (by omega) (rise_of x3) (hk.keptN h) bt (fun s hs => (x5 s hs).kb))
 obtain ⟨g, off, u, rfl, c1, hu⟩ := NsT.node (n := 0) hns hy.at_
 obtain ⟨b1, rfl⟩ := hu.atL
 have hlt := hy.lt
 have KG : Hid (∀ (W : World), w.grownBy W none → Calls Tryz.prog 109 #[.pointer (some ⟨b1, 0, none⟩), .slice ka kn kc] W fun en w' => (∃ ao n' c, en = .returned (.tuple #[.slice ao n' c, .bool (getT 0 y key).isSome]) ∧ BtyT w' ao n' c ((getT 0 y key).getD [])) ∧ W.grownBy w' none) := fun W h => hG b1 y ka kn kc key W (NodeT.kept _ hu (FrT.of h)) (x2 y (List.mem_of_getElem? hy.at_)) (hk.keptN h) bt
 have he : getT 1 x key = getT 0 y key := get_at hy.at_
 have HE := hid_intro he
 clear he
 rw [HE.out]
 generalize placeT (BnT.row (T := NdT 0) x).ss key = i at *
 have v1 : (0 : Int) ≤ (i : Int) ∧ (i : Int) < (m : Int) := by omega
 have hme := mL_get
 show Calls Tryz.prog 120 _ _ _
 clear hb hns hss hk hu x2 x3 x5 hy
 go_enter Tryz.func120, Tryz.ntmps120
 go_wp2_with fail
 go_region_held3 (fun w' => w'.cell? ⟨b, 1, none⟩ = some (.slice (some ⟨g, off, none⟩) m c) ∧ w'.cell? ⟨g, off + i, none⟩ = some (.iface 98 (.pointer (some ⟨b1, 0, none⟩)))) (first | exact ⟨k1, c1⟩ | exact S1 | exact S2 | go_keep) (first
  | (go_at_call 127; (with_reducible refine (PL.out _ G0.out).mono ?_); rintro en w4 ⟨rfl, hg4⟩; have GA := grown_trans G0.out hg4; have S1 := And.intro (GA.cell k1 (by simp)) (GA.cell c1 (by simp)))
  | (go_at_call 109; (with_reducible refine (KG.out _ GA).mono ?_); rintro en w5 ⟨⟨ao, n', c', rfl, hv⟩, hg5⟩; have GB := grown_trans GA hg5; have S2 := And.intro (GB.cell k1 (by simp)) (GB.cell c1 (by simp))))
 all_goals go_wp2
 all_goals (go_ret2; exact ⟨⟨_, _, _, rfl, hv⟩, GB⟩)
set_option maxHeartbeats 8000000 in
set_option maxRecDepth 100000 in
theorem getC_B {n : Nat} (hG : GetC (n + 1)) : GetC (n + 1 + 1) := by
 intro b x ka kn kc key w hx ox hk bt
 obtain ⟨b', a, m, c, sa, sm, sc, e, hb, hns, hss⟩ := hx
 simp only [tyN, Value.iface.injEq, Value.pointer.injEq, Option.some.injEq, Addr.mk.injEq, true_and, and_true] at e
 subst e
 obtain ⟨x1, x2, x3, x4, x5⟩ := ox
 obtain ⟨y, hy⟩ := at_place x3 x1 key
 have ls := hss.len
 have ln := hns.len
 have f1 := seps_few x4
 have k1 := cell_heap (i := 1) hb rfl
 have k2 := cell_heap (i := 2) hb rfl
 have G0 := hid_intro ((Qt.refl w).drew.grown none)
 have PL := hid_intro (fun (W : World) (h : w.grownBy W none) => place_any b sa sm sc ka kn kc (BnT.row (T := NdT (n + 1)) x).ss key W (h.cell k2 (by simp)) (hss.kept (FrT.of h)) (by omega) (rise_of x3) (hk.keptN h) bt (fun s hs => (x5 s hs).kb))
 obtain ⟨g, off, u, rfl, c1, hu⟩ := NsT.node (n := (n + 1)) hns hy.at_
 obtain ⟨b1, rfl⟩ := hu.atB
 have hlt := hy.lt
 have KG : Hid (∀ (W : World), w.grownBy W none → Calls Tryz.prog 120 #[.pointer (some ⟨b1, 0, none⟩), .slice ka kn kc] W fun en w' => (∃ ao n' c, en = .returned (.tuple #[.slice ao n' c, .bool (getT (n + 1) y key).isSome]) ∧ BtyT w' ao n' c ((getT (n + 1) y key).getD [])) ∧ W.grownBy w' none) := fun W h => hG b1 y ka kn kc key W (NodeT.kept _ hu (FrT.of h)) (x2 y (List.mem_of_getElem? hy.at_)) (hk.keptN h) bt
 have he : getT (n + 1 + 1) x key = getT (n + 1) y key := get_at hy.at_
 have HE := hid_intro he
 clear he
 rw [HE.out]
 generalize placeT (BnT.row (T := NdT (n + 1)) x).ss key = i at *
 have v1 : (0 : Int) ≤ (i : Int) ∧ (i : Int) < (m : Int) := by omega
 have hme := mB_get
 show Calls Tryz.prog 120 _ _ _
 clear hb hns hss hk hu x2 x3 x5 hy
 go_enter Tryz.func120, Tryz.ntmps120
 go_wp2_with fail
 go_region_held3 (fun w' => w'.cell? ⟨b, 1, none⟩ = some (.slice (some ⟨g, off, none⟩) m c) ∧ w'.cell? ⟨g, off + i, none⟩ = some (.iface 113 (.pointer (some ⟨b1, 0, none⟩)))) (first | exact ⟨k1, c1⟩ | exact S1 | exact S2 | go_keep) (first
  | (go_at_call 127; (with_reducible refine (PL.out _ G0.out).mono ?_); rintro en w4 ⟨rfl, hg4⟩; have GA := grown_trans G0.out hg4; have S1 := And.intro (GA.cell k1 (by simp)) (GA.cell c1 (by simp)))
  | (go_at_call 120; (with_reducible refine (KG.out _ GA).mono ?_); rintro en w5 ⟨⟨ao, n', c', rfl, hv⟩, hg5⟩; have GB := grown_trans GA hg5; have S2 := And.intro (GB.cell k1 (by simp)) (GB.cell c1 (by simp))))
 all_goals go_wp2
 all_goals (go_ret2; exact ⟨⟨_, _, _, rfl, hv⟩, GB⟩)
theorem getC : ∀ n, GetC n
 | 0 => getC0
 | 1 => getC_L getC0
 | n + 1 + 1 => getC_B (getC (n + 1))
theorem keep2 {W : World} {G b i : Nat} {u v x : Value} (h : W.cell? ⟨b, i, none⟩ = some x) (hne : b ≠ G) : ((W.setCell ⟨G, 0, none⟩ u).setCell ⟨G, 1, none⟩ v).cell? ⟨b, i, none⟩ = some x := by
 rw [← h]
 refine World.cell?_of_block ?_
 rw [heap_setCell_other _ ⟨G, 1, none⟩ b v (fun e => hne e), heap_setCell_other _ ⟨G, 0, none⟩ b u (fun e => hne e)]
theorem node_at {n : Nat} {W : World} {p : Nat} {a : Option Addr} {m c : Nat} {sa : Option Addr} {sm sc : Nat} {r : RwT (NdT n)} {no : Int} (h : W.heap[p]? = some (.cells #[.int .i64 no, .slice a m c, .slice sa sm sc] 115 (0, 0))) (hr : RowT n W a m c sa sm sc r) : NodeT (n + 1) W (.iface 113 (.pointer (some ⟨p, 0, none⟩))) (⟨no, r⟩ : BnT (NdT n)) := ⟨_, a, m, c, sa, sm, sc, rfl, h, hr.ns, hr.ss⟩
set_option maxHeartbeats 16000000 in
set_option maxRecDepth 100000 in
theorem settledBranch_any {n : Nat} (r : RwT (NdT n)) (hok : RokT n r) (hc : 4092 < bsize r.ss → 2 ≤ cutB r.ss ∧ cutB r.ss < r.ss.length) (a : Option Addr) (m c : Nat) (sa : Option Addr) (sm sc : Nat) (w : World) (hr : RowT n w a m c sa sm sc r) (hm : m ≤ 5000) :
  Calls Tryz.prog 128 #[.agg #[.slice a m c, .slice sa sm sc]] w fun en w' => (∃ a m c sa sm sc, en = .returned (.agg #[.slice a m c, .slice sa sm sc]) ∧ RowT (n + 1) w' a m c sa sm sc (settleB r)) ∧ w.grownBy w' none := by
 have ln := hr.ns.len
 have ls := hr.ss.len
 have hsl := hok.sep.len
 have caps := hr.ss.cap
 have capn := hr.ns.cap
 have G1 := hid_intro (grown_al (grown_al (World.grownBy.refl w none) (.cells #[.slice a m c, .slice sa sm sc] 72)) (.cells #[.slice none 0 0, .slice none 0 0] 72))
 have X1 : Hid (((w.alloc (.cells #[.slice a m c, .slice sa sm sc] 72)).alloc (.cells #[.slice none 0 0, .slice none 0 0] 72)).heap[w.heap.size]? = some (.cells #[.slice a m c, .slice sa sm sc] 72 (0, 0))) := heap_old (heap_at0 w _ _)
 have B1 : Hid (BxT ((w.alloc (.cells #[.slice a m c, .slice sa sm sc] 72)).alloc (.cells #[.slice none 0 0, .slice none 0 0] 72)) (w.heap.size + 1)) := ⟨_, _, heap_at1 w _ _ _⟩
 have R1 := hid_intro (hr.kept (FrT.of G1.out))
 have e0 := cell_heap (i := 0) X1.out rfl
 have e1 := cell_heap (i := 1) X1.out rfl
 have KK : Hid (∀ x ∈ r.ss, x.length ≤ 140737488351232) := fun x hx => by
  have := (hok.vs x hx).k2
  omega
 have HZ := hid_intro (fun (W : World) (h : RowT n W a m c sa sm sc r) => bsize_any sa sm sc r.ss W h.ss.lz ls (by omega) caps.1 caps.2.1 KK.out)
 by_cases h0 : m = 0
 ·have es : settleB r = ⟨[], []⟩ := by unfold settleB; rw [if_pos (by omega)]
  rw [es]
  subst h0
  obtain ⟨⟨x, cx⟩, ⟨y, cy⟩, z1, z2⟩ := B1.out.cells
  clear hr HZ hc
  go_enter Tryz.func128, Tryz.ntmps128
  go_wp2
  exact bodyPost_ret (results_row rfl _ _ (w.heap.size + 1) (.slice none 0 0) (.slice none 0 0) rfl (heap_at1 w _ _ _)) rfl ⟨⟨_, _, _, _, _, _, rfl, ⟨SlT.nil _ _ _ _, SlT.nil _ _ _ _⟩⟩, G1.out⟩
 ·have n0 : ¬ ((m : Int) = 0) := by omega
  by_cases hf : bsize r.ss ≤ 4092
  ·have es : settleB r = ⟨[⟨0, r⟩], []⟩ := by unfold settleB; rw [if_neg (by omega), if_pos hf]
   rw [es]
   clear hr hc
   go_enter Tryz.func128, Tryz.ntmps128
   go_wp2_with fail
   generalize (w.alloc (.cells #[.slice a m c, .slice sa sm sc] 72)).alloc (.cells #[.slice none 0 0, .slice none 0 0] 72) = w1 at *
   refine (HZ.out w1 R1.out).mono ?_
   rintro en w3 ⟨rfl, hg3⟩
   have G3 := hid_intro hg3
   have d0 := hg3.cell e0 (by simp)
   have d1 := hg3.cell e1 (by simp)
   have hlt := cell_lt d0
   clear hg3 e0 e1
   go_wp2_with fail
   refine (cfits_any _ w3).mono ?_
   rintro en w4 ⟨rfl, rfl⟩
   rw [decide_eq_true hf]
   have NL := hid_intro (node_branch 0 (R1.out.kept (FrT.of G3.out)))
   have GL := hid_intro (World.grownBy_alloc w4 (.cells #[.int .i64 0, .slice a m c, .slice sa sm sc] 115) none)
   go_wp2_with fail
   refine (alone_row (n := n + 1) NL.out (World.grownBy.refl _ _)).mono ?_
   rintro en w5 ⟨⟨a5, m5, c5, sa5, sm5, sc5, rfl, hr5⟩, hg5⟩
   have G5 := hid_intro (grown_trans G3.out (grown_trans GL.out hg5))
   have B5 := B1.out.keptN G5.out
   obtain ⟨⟨x, cx⟩, ⟨y, cy⟩, z1, z2⟩ := B5.cells
   have HB := hid_intro B5
   have HR := hid_intro hr5
   clear B5 hr5 hg5
   go_wp2
   refine ret_rowG (p := 2) rfl HB.out (by omega) HR.out (grown_trans G1.out G5.out) ?_ ?_ <;> rfl
  ·obtain ⟨hc1, hc2⟩ := hc (by omega)
   have es : settleB r = ⟨[⟨0, ⟨r.ns.take (cutB r.ss), r.ss.take (cutB r.ss - 1)⟩⟩, ⟨0, ⟨r.ns.drop (cutB r.ss), r.ss.drop (cutB r.ss)⟩⟩], [r.ss.getD (cutB r.ss - 1) []]⟩ := by unfold settleB; rw [if_neg (by omega), if_neg hf]
   rw [es]
   have HC := hid_intro (fun (W : World) (h : RowT n W a m c sa sm sc r) => cutBranch_any sa sm sc r.ss W h.ss.lz ls (by omega) caps.1 caps.2.1 KK.out)
   have hbest := cutB_best r.ss
   rw [ls] at hbest
   have HU := hid_intro (fun (k : Nat) (h : Best (fun i => bsize (r.ss.take (i - 1))) (fun i => bsize (r.ss.drop i)) sm k) => h.uniq hbest)
   generalize cutB r.ss = k at *
   have hsk : r.ss[k - 1]? = some (r.ss.getD (k - 1) []) := by
    rw [List.getElem?_eq_getElem (by omega)]
    simp [List.getD, List.getElem?_eq_getElem (show k - 1 < r.ss.length by omega)]
   generalize r.ss.getD (k - 1) [] = s at *
   obtain ⟨b, off, rfl⟩ : ∃ b off, a = some ⟨b, off, none⟩ := by
    obtain ⟨es, h1, _⟩ := hr.ns.ex
    exact h1.where (by omega)
   obtain ⟨sg, soff, so, sn, sc', rfl, c3w, hsw⟩ := hr.ss.str hsk
   have hsg := cell_lt c3w
   have CW := hid_intro (grown_trans (World.grownBy.refl w none) G1.out)
   have hs1 : Hid (((w.alloc (.cells #[.slice (some ⟨b, off, none⟩) m c, .slice (some ⟨sg, soff, none⟩) sm sc] 72)).alloc (.cells #[.slice none 0 0, .slice none 0 0] 72)).heap.size = w.heap.size + 1 + 1) := by simp [Hid]
   clear hbest es hc
   go_enter Tryz.func128, Tryz.ntmps128
   go_wp2_with fail
   generalize (w.alloc (.cells #[.slice (some ⟨b, off, none⟩) m c, .slice (some ⟨sg, soff, none⟩) sm sc] 72)).alloc (.cells #[.slice none 0 0, .slice none 0 0] 72) = w1 at *
   refine (HZ.out w1 R1.out).mono ?_
   rintro en w3 ⟨rfl, hg3⟩
   have G3 := hid_intro hg3
   have d0 := hg3.cell e0 (by simp)
   have d1 := hg3.cell e1 (by simp)
   clear hg3 e0 e1
   go_wp2_with fail
   refine (cfits_any _ w3).mono ?_
   rintro en w4 ⟨rfl, rfl⟩
   rw [decide_eq_false hf]
   go_wp2_with fail
   refine (HC.out w4 (R1.out.kept (FrT.of G3.out))).mono ?_
   rintro en w5 ⟨⟨k9, rfl, hb9⟩, hg5⟩
   have hk9 := HU.out k9 hb9
   subst hk9
   have G5 := hid_intro (grown_trans G3.out hg5)
   have c0 := hg5.cell d0 (by simp)
   have c1 := hg5.cell d1 (by simp)
   have R5 := R1.out.kept (FrT.of G5.out)
   have c3 := (grown_trans CW.out G5.out).cell c3w (by simp)
   have hs := hsw.kept (FrT.of (grown_trans CW.out G5.out))
   have RT := hid_intro R5
   have SS := hid_intro hs
   obtain ⟨j, hj⟩ : ∃ j, k9 - 1 = j := ⟨_, rfl⟩
   rw [hj] at c3
   have v1 : ((k9 : Nat) : Int) - 1 = (j : Int) := by omega
   have v2 : IntKind.i64.wrap (j : Int) = (j : Int) := by rw [IntKind.wrap_i64]; omega
   have v3 : (0 : Int) ≤ (j : Int) ∧ (j : Int) < (sm : Int) := by omega
   have v4 : (0 : Int) ≤ (k9 : Int) := by omega
   have v5 : (k9 : Int) ≤ (m : Int) := by omega
   have v6 : (k9 : Int) ≤ (c : Int) := by omega
   have v7 : (k9 : Int) ≤ (sm : Int) := by omega
   have v8 : (k9 : Int) ≤ (sc : Int) := by omega
   have v9 : (j : Int) ≤ (sc : Int) := by omega
   have va : ¬ c = k9 := by omega
   have vb : ¬ sc = k9 := by omega
   have vc : (0 : Int) ≤ (j : Int) := by omega
   have hs5 := hid_intro G5.out.size
   clear hb9 hg5 HU HZ HC d0 d1 hsk R5 hs hr hsw c3w
   go_upto_region 6 with fail
   go_cut [4] from 25 to 35 (fun s4 wx => s4 = .pointer (some ⟨w5.heap.size, 0, none⟩) ∧ wx = (w5.alloc (.cells #[.slice (some ⟨b, off, none⟩) k9 c, .slice (some ⟨sg, soff, none⟩) j sc] 72)).drew)
   case first =>
    go_region_held3 (fun w' => w'.cell? ⟨w.heap.size, 0, none⟩ = some (.slice (some ⟨b, off, none⟩) m c) ∧ w'.cell? ⟨w.heap.size, 1, none⟩ = some (.slice (some ⟨sg, soff, none⟩) sm sc)) (first | exact ⟨c0, c1⟩ | go_keep) (fail)
    all_goals (go_wp2_with fail; go_meet; exact ⟨rfl, rfl⟩)
   case rest =>
    obtain ⟨rfl, rfl⟩ := hcut
    have hs6 : Hid ((w5.alloc (.cells #[.slice (some ⟨b, off, none⟩) k9 c, .slice (some ⟨sg, soff, none⟩) j sc] 72)).drew.heap.size = w5.heap.size + 1) := by simp [Hid]
    have GA := hid_intro (grown_dw (grown_al (World.grownBy.refl w5 none) (.cells #[.slice (some ⟨b, off, none⟩) k9 c, .slice (some ⟨sg, soff, none⟩) j sc] 72)))
    have HA : Hid ((w5.alloc (.cells #[.slice (some ⟨b, off, none⟩) k9 c, .slice (some ⟨sg, soff, none⟩) j sc] 72)).drew.heap[w5.heap.size]? = some (.cells #[.slice (some ⟨b, off, none⟩) k9 c, .slice (some ⟨sg, soff, none⟩) j sc] 72 (0, 0))) := heap_dw (heap_at0 w5 _ _)
    have c0a := GA.out.cell c0 (by simp)
    have c1a := GA.out.cell c1 (by simp)
    have c3a := GA.out.cell c3 (by simp)
    generalize (w5.alloc (.cells #[.slice (some ⟨b, off, none⟩) k9 c, .slice (some ⟨sg, soff, none⟩) j sc] 72)).drew = w6 at *
    go_upto_region 7 with fail
    go_cut [5] from 35 to 44 (fun s5 wx => s5 = .pointer (some ⟨w6.heap.size, 0, none⟩) ∧ wx = (w6.alloc (.cells #[.slice (some ⟨b, off + k9, none⟩) (m - k9) (c - k9), .slice (some ⟨sg, soff + k9, none⟩) (sm - k9) (sc - k9)] 72)).drew)
    case first =>
     go_region_held3 (fun w' => w'.cell? ⟨w.heap.size, 0, none⟩ = some (.slice (some ⟨b, off, none⟩) m c) ∧ w'.cell? ⟨w.heap.size, 1, none⟩ = some (.slice (some ⟨sg, soff, none⟩) sm sc)) (first | exact ⟨c0a, c1a⟩ | go_keep) (fail)
     all_goals (go_wp2_with fail; go_meet; exact ⟨rfl, rfl⟩)
    case rest =>
     obtain ⟨rfl, rfl⟩ := hcut
     have GB := hid_intro (grown_dw (grown_al (World.grownBy.refl w6 none) (.cells #[.slice (some ⟨b, off + k9, none⟩) (m - k9) (c - k9), .slice (some ⟨sg, soff + k9, none⟩) (sm - k9) (sc - k9)] 72)))
     have HB2 := heap_dw (heap_at0 w6 #[.slice (some ⟨b, off + k9, none⟩) (m - k9) (c - k9), .slice (some ⟨sg, soff + k9, none⟩) (sm - k9) (sc - k9)] 72)
     have f0 := cell_heap (i := 0) (heap_kept HA.out GB.out) rfl
     have f1 := cell_heap (i := 1) (heap_kept HA.out GB.out) rfl
     have f2 := cell_heap (i := 0) HB2 rfl
     have f3 := cell_heap (i := 1) HB2 rfl
     have f4 := GB.out.cell c1a (by simp)
     have f5 := GB.out.cell c3a (by simp)
     have G7 := hid_intro (grown_trans GA.out GB.out)
     have TT := hid_intro (And.intro f0 (And.intro f1 (And.intro f2 (And.intro f3 (And.intro f4 f5)))))
     generalize (w6.alloc (.cells #[.slice (some ⟨b, off + k9, none⟩) (m - k9) (c - k9), .slice (some ⟨sg, soff + k9, none⟩) (sm - k9) (sc - k9)] 72)).drew = w7 at *
     have L1 : Hid (RowT n w7 (some ⟨b, off, none⟩) k9 c (some ⟨sg, soff, none⟩) j sc ⟨r.ns.take k9, r.ss.take (k9 - 1)⟩) := by
      have h := RT.out.kept (FrT.of G7.out)
      rw [← hj]
      exact ⟨SlT.take h.ns (by omega), SlT.take h.ss (by omega)⟩
     have L2 : Hid (RowT n w7 (some ⟨b, off + k9, none⟩) (m - k9) (c - k9) (some ⟨sg, soff + k9, none⟩) (sm - k9) (sc - k9) ⟨r.ns.drop k9, r.ss.drop k9⟩) := by
      have h := RT.out.kept (FrT.of G7.out)
      have h1 := SlT.drop h.ns (i := k9) (by omega)
      have h2 := SlT.drop h.ss (i := k9) (by omega)
      rw [Nat.mul_one] at h1 h2
      exact ⟨h1, h2⟩
     have BO : Hid (∀ (W : World) (p q : Nat), w7.grownBy W none → W.heap[p]? = some (.cells #[.int .i64 0, .slice (some ⟨b, off, none⟩) k9 c, .slice (some ⟨sg, soff, none⟩) j sc] 115 (0, 0)) → W.heap[q]? = some (.cells #[.int .i64 0, .slice (some ⟨b, off + k9, none⟩) (m - k9) (c - k9), .slice (some ⟨sg, soff + k9, none⟩) (sm - k9) (sc - k9)] 115 (0, 0)) → Calls Tryz.prog 71 #[.iface 113 (.pointer (some ⟨p, 0, none⟩)), .slice so sn sc', .iface 113 (.pointer (some ⟨q, 0, none⟩))] W fun en w' => (∃ a m c sa sm sc, en = .returned (.agg #[.slice a m c, .slice sa sm sc]) ∧ RowT (n + 1) w' a m c sa sm sc ⟨[(⟨0, ⟨r.ns.take k9, r.ss.take (k9 - 1)⟩⟩ : BnT (NdT n)), (⟨0, ⟨r.ns.drop k9, r.ss.drop k9⟩⟩ : BnT (NdT n))], [s]⟩) ∧ W.grownBy w' none) := fun W p q hg hp hq =>
      both_row (n := n + 1) (node_at hp (L1.out.kept (FrT.of hg))) (node_at hq (L2.out.kept (FrT.of hg))) ⟨_, _, _, rfl, SS.out.kept (FrT.of (grown_trans G7.out hg))⟩ (World.grownBy.refl _ _)
     clear c0 c1 c3 c0a c1a c3a f0 f1 f2 f3 f4 f5 HB2 L1 L2 RT SS hj HA GA GB
     go_upto_region 8 with fail
     go_region_held3 (fun w' => w'.cell? ⟨w5.heap.size, 0, none⟩ = some (.slice (some ⟨b, off, none⟩) k9 c) ∧ w'.cell? ⟨w5.heap.size, 1, none⟩ = some (.slice (some ⟨sg, soff, none⟩) j sc) ∧ w'.cell? ⟨w6.heap.size, 0, none⟩ = some (.slice (some ⟨b, off + k9, none⟩) (m - k9) (c - k9)) ∧ w'.cell? ⟨w6.heap.size, 1, none⟩ = some (.slice (some ⟨sg, soff + k9, none⟩) (sm - k9) (sc - k9)) ∧ w'.cell? ⟨w.heap.size, 1, none⟩ = some (.slice (some ⟨sg, soff, none⟩) sm sc) ∧ w'.cell? ⟨sg, soff + j, none⟩ = some (.slice so sn sc')) (first | (with_reducible exact T9) | ((with_reducible refine And.intro (keep1 TT.out.1 ?_) (And.intro (keep1 TT.out.2.1 ?_) (And.intro (keep1 TT.out.2.2.1 ?_) (And.intro (keep1 TT.out.2.2.2.1 ?_) (And.intro (keep1 TT.out.2.2.2.2.1 ?_) (keep1 TT.out.2.2.2.2.2 ?_)))))) <;> (repeat' first | (with_reducible exact World.grownBy.refl _ _) | (with_reducible exact H9) | (with_reducible apply grown_dw) | (with_reducible apply grown_al)); done) | (refine And.intro (keep2 T9.1 ?_) (And.intro (keep2 T9.2.1 ?_) (And.intro (keep2 T9.2.2.1 ?_) (And.intro (keep2 T9.2.2.2.1 ?_) (And.intro (keep2 T9.2.2.2.2.1 ?_) (keep2 T9.2.2.2.2.2 ?_))))) <;> (have q1 := hs1.out; have q5 := hs5.out; have q6 := hs6.out; omega)) | go_keep) (first
      | (go_at_call 71; (with_reducible refine (BO.out _ _ _ ?_ ?_ ?_).mono ?_); (· (repeat' first | (with_reducible exact World.grownBy.refl _ _) | (with_reducible apply grown_dw) | (with_reducible apply grown_al))); (· (repeat' first | (with_reducible exact heap_at0 _ _ _) | (with_reducible exact heap_at1 _ _ _ _) | (with_reducible apply heap_dw) | (with_reducible apply heap_old))); (· (repeat' first | (with_reducible exact heap_at0 _ _ _) | (with_reducible exact heap_at1 _ _ _ _) | (with_reducible apply heap_dw) | (with_reducible apply heap_old))); rintro en w9 ⟨⟨a9, m9, c9, sa9, sm9, sc9, rfl, RR⟩, hg9⟩; have H9 : w7.grownBy w9 none := grown_trans (by (repeat' first | (with_reducible exact World.grownBy.refl _ _) | (with_reducible apply grown_dw) | (with_reducible apply grown_al))) hg9; have T9 := And.intro (H9.cell TT.out.1 (by simp)) (And.intro (H9.cell TT.out.2.1 (by simp)) (And.intro (H9.cell TT.out.2.2.1 (by simp)) (And.intro (H9.cell TT.out.2.2.2.1 (by simp)) (And.intro (H9.cell TT.out.2.2.2.2.1 (by simp)) (H9.cell TT.out.2.2.2.2.2 (by simp)))))); have B9 := B1.out.keptN (grown_trans G5.out (grown_trans G7.out H9)); obtain ⟨⟨x1, cx⟩, ⟨y1, cy⟩, z1, z2⟩ := B9.cells))
     all_goals go_wp2
     all_goals (refine ret_rowG (p := 2) rfl B9 (by omega) RR (grown_trans G1.out (grown_trans G5.out (grown_trans G7.out H9))) ?_ ?_ <;> rfl)
def TidyD (n : Nat) : Prop := ∀ (r : RwT (NdT n)) (fr tq : Int) (i0 cnt : Nat), (if (0 : Int) > fr then (0 : Int) else fr) = (i0 : Int) → cnt = (tq + 1 - (i0 : Int)).toNat → (-100000 ≤ tq ∧ tq ≤ 100000) → (-100000 ≤ fr ∧ fr ≤ 100000) → RokT n r → ∀ (a : Option Addr) (m c : Nat) (sa : Option Addr) (sm sc : Nat) (w : World), RowT n w a m c sa sm sc r → m ≤ 5000 →
  Calls Tryz.prog 130 #[.agg #[.slice a m c, .slice sa sm sc], .int .i64 fr, .int .i64 tq] w fun en w' => (∃ a m c sa sm sc, en = .returned (.agg #[.slice a m c, .slice sa sm sc]) ∧ RowT n w' a m c sa sm sc (tidyT (joinsT n) (joinedT n) cnt r i0)) ∧ w.grownBy w' none
def ReplD (n : Nat) : Prop := ∀ (r b : RwT (NdT n)) (i : Nat), r.ns.length = r.ss.length + 1 → i < r.ns.length → ∀ (a : Option Addr) (m c : Nat) (sa : Option Addr) (sm sc : Nat) (ba : Option Addr) (bm bc : Nat) (bsa : Option Addr) (bsm bsc : Nat) (w : World), RowT n w a m c sa sm sc r → RowT n w ba bm bc bsa bsm bsc b → m ≤ 5000 → sm ≤ 5000 → bm ≤ 5000 → bsm ≤ 5000 →
  Calls Tryz.prog 129 #[.agg #[.slice a m c, .slice sa sm sc], .int .i64 i, .agg #[.slice ba bm bc, .slice bsa bsm bsc]] w fun en w' => (∃ a m c sa sm sc, en = .returned (.agg #[.slice a m c, .slice sa sm sc]) ∧ RowT n w' a m c sa sm sc (replT r i b)) ∧ w.grownBy w' none
theorem ret_rowC {fn : Func} {p : Tmp} {n : Nat} {r : RwT (NdT n)} {w w5 : World} {G : Nat} {a : Option Addr} {m c : Nat} {sa : Option Addr} {sm sc : Nat} (h : fn.results = #[.cell p 72]) (hb : BxT w5 G) (hG : w.heap.size ≤ G) (hr : RowT n w5 a m c sa sm sc r) (hg : w.grownBy w5 none) {ac : Act} (hp : ac.tmps.getD p undef = .pointer (some ⟨G, 0, none⟩)) (hd : ac.defers = []) :
  bodyPost Tryz.prog fn (fun en w' => ChT n (some r) en w' ∧ w.grownBy w' none) Exit.ret ac ((w5.setCell ⟨G, 0, none⟩ (.slice a m c)).setCell ⟨G, 1, none⟩ (.slice sa sm sc)) := ret_rowG h hb hG hr hg hp hd
def fChanged : Nat → Nat
 | 0 => 52
 | _ + 1 => 117
def ChangedC (n : Nat) : Prop := ∀ (b : Nat) (x : NdT n) (ka : Option Addr) (kn kc : Nat) (key : List Int) (na : Option Addr) (nn nc : Nat) (now : List PrT) (w : World), NodeT n w (.iface (tyN n) (.pointer (some ⟨b, 0, none⟩))) x → OkT n x → Byt w ka kn kc key → Bt key → PsT w na nn nc now → NowT key now →
 Calls Tryz.prog (fChanged n) #[.pointer (some ⟨b, 0, none⟩), .slice ka kn kc, .slice na nn nc] w fun en w' => ChT n (changedT n x key now) en w' ∧ w.grownBy w' none
theorem changedC0 : ChangedC 0 := fun b x ka kn kc key na nn nc now w hx ox hk bt hn hv => lchanged_some b x ka kn kc key na nn nc now w hx (LokT.of ox) hk bt hn hv ox.1
theorem branch_next {n : Nat} {x : NdT (n + 1)} {key : List Int} {now : List PrT} {k : NdT n} {q : RwT (NdT n)} (ox : OkT (n + 1) x) (hn : NowT key now) (hk : AtT (flatT n) (BnT.row (T := NdT n) x) key k) (hq : changedT n k key now = some q) :
  changedT (n + 1) x key now = some (settleB (tidyT (joinsT n) (joinedT n) (placeT (BnT.row (T := NdT n) x).ss key + q.ns.length - (placeT (BnT.row (T := NdT n) x).ss key - 1)) (replT (BnT.row (T := NdT n) x) (placeT (BnT.row (T := NdT n) x).ss key) q) (placeT (BnT.row (T := NdT n) x).ss key - 1))) ∧
  RokT n (replT (BnT.row (T := NdT n) x) (placeT (BnT.row (T := NdT n) x).ss key) q) ∧ q.ns.length ≤ 2 ∧ q.ss.length ≤ 1 ∧ (replT (BnT.row (T := NdT n) x) (placeT (BnT.row (T := NdT n) x).ss key) q).ns.length ≤ (BnT.row (T := NdT n) x).ns.length + 1 ∧
  ∀ t, t = tidyT (joinsT n) (joinedT n) (placeT (BnT.row (T := NdT n) x).ss key + q.ns.length - (placeT (BnT.row (T := NdT n) x).ss key - 1)) (replT (BnT.row (T := NdT n) x) (placeT (BnT.row (T := NdT n) x).ss key) q) (placeT (BnT.row (T := NdT n) x).ss key - 1) → RokT n t ∧ t.ns.length ≤ (BnT.row (T := NdT n) x).ns.length + 1 ∧ (4092 < bsize t.ss → 2 ≤ cutB t.ss ∧ cutB t.ss < t.ss.length) := by
 obtain ⟨x1, x2, x3, x4, x5⟩ := ox
 have hok := x2 k (List.mem_of_getElem? hk.at_)
 obtain ⟨b1, b2, b3⟩ := changed_all n k key now q hok hn hq
 have hin : ∀ p ∈ q.ns.flatMap (flatT n), p.key = key ∨ p ∈ flatT n k := by
  intro p hp
  rw [b1] at hp
  rcases upd_mem hp with h | h
  ·exact .inl (hn.key p h)
  ·exact .inr h
 have hrr : RokT n (BnT.row (T := NdT n) x) := ⟨x2, x3, x5⟩
 have hR := rok_repl hrr hk b2 hin
 have hsl := b2.sep.len
 have hlt := hk.lt
 have hlen : (replT (BnT.row (T := NdT n) x) (placeT (BnT.row (T := NdT n) x).ss key) q).ns.length ≤ (BnT.row (T := NdT n) x).ns.length + 1 := by
  unfold replT
  split <;> simp only [List.length_append, List.length_take, List.length_drop] <;> omega
 refine ⟨?_, hR, b3, by omega, hlen, fun t ht => ?_⟩
 ·rw [changedT, hk.at_]
  simp only [hq, Option.map_some]
 ·have hT := ok_tidy (ok_joined n) (placeT (BnT.row (T := NdT n) x).ss key + q.ns.length - (placeT (BnT.row (T := NdT n) x).ss key - 1)) _ (placeT (BnT.row (T := NdT n) x).ss key - 1) hR
  have hsub := sub_tidy (J := joinsT n) (D := joinedT n) (placeT (BnT.row (T := NdT n) x).ss key + q.ns.length - (placeT (BnT.row (T := NdT n) x).ss key - 1)) (replT (BnT.row (T := NdT n) x) (placeT (BnT.row (T := NdT n) x).ss key) q) (placeT (BnT.row (T := NdT n) x).ss key - 1)
  rw [← ht] at hT hsub
  have hss : (replT (BnT.row (T := NdT n) x) (placeT (BnT.row (T := NdT n) x).ss key) q).ss.Sublist (BnT.row (T := NdT n) x).ss ∨ ∃ A s B, (replT (BnT.row (T := NdT n) x) (placeT (BnT.row (T := NdT n) x).ss key) q).ss = A ++ ([s] ++ B) ∧ A ++ B = (BnT.row (T := NdT n) x).ss := by
   unfold replT
   split
   ·rename_i h0
    have e0 : q.ss = [] := List.length_eq_zero_iff.1 (by omega)
    refine .inl ?_
    show (_ ++ (q.ss ++ _)).Sublist _
    rw [e0, List.nil_append]
    conv => rhs; rw [← List.take_append_drop (placeT (BnT.row (T := NdT n) x).ss key - 1) (BnT.row (T := NdT n) x).ss]
    refine List.Sublist.append (List.Sublist.refl _) (List.drop_sublist_drop_left _ ?_)
    have := tw_le (BnT.row (T := NdT n) x).ss key
    omega
   ·rename_i h0
    show (_ ++ (q.ss ++ _)).Sublist _ ∨ _
    match hbs : q.ss, hsl with
    | [], _ =>
     refine .inl ?_
     rw [List.nil_append, List.take_append_drop]
     exact List.Sublist.refl _
    | [s], _ => exact .inr ⟨_, s, _, rfl, List.take_append_drop _ _⟩
    | _ :: _ :: _, h =>
     simp only [List.length_cons] at h
     omega
  have htl := hT.sep.len
  have hrl := hR.sep.len
  have hsb := hsub.length_le
  refine ⟨hT, by omega, fun hbig => ?_⟩
  rcases hss with h | ⟨A, s, B, e1, e2⟩
  ·have := bsize_le10 (hsub.trans h)
   omega
  ·have := bcut10 (by rw [e1] at hsub; exact hsub) (fun y hy => (hT.vs y hy).k2) (by rw [e2]; exact x4) hbig
   exact ⟨this.1, this.2.1⟩
theorem branch_stop {n : Nat} {x : NdT (n + 1)} {key : List Int} {now : List PrT} {k : NdT n} (hk : AtT (flatT n) (BnT.row (T := NdT n) x) key k) (hq : changedT n k key now = none) : changedT (n + 1) x key now = none := by
 rw [changedT, hk.at_]
 simp only [hq, Option.map_none]
set_option maxHeartbeats 16000000 in
set_option maxRecDepth 100000 in
theorem changedC_L (hT : TidyD 0) (hRP : ReplD 0) (hC : ChangedC 0) : ChangedC 1 := by
 intro b x ka kn kc key na nn nc now w hx ox hk bt hnow hn
 have HOX := hid_intro ox
 obtain ⟨b', a, m, c, sa, sm, sc, e, hb, hns, hss⟩ := hx
 simp only [tyN, Value.iface.injEq, Value.pointer.injEq, Option.some.injEq, Addr.mk.injEq, true_and, and_true] at e
 subst e
 obtain ⟨x1, x2, x3, x4, x5⟩ := ox
 obtain ⟨y, hy⟩ := at_place x3 x1 key
 have ls := hss.len
 have ln := hns.len
 have f1 := seps_few x4
 have hsl : (BnT.row (T := NdT 0) x).ns.length = (BnT.row (T := NdT 0) x).ss.length + 1 := by
  have := x3.len
  have := List.length_pos_iff.2 x1
  omega
 have k1 := cell_heap (i := 1) hb rfl
 have k2 := cell_heap (i := 2) hb rfl
 have hbl := cell_lt k1
 have HB0 := hid_intro hb
 have G1 := hid_intro (World.grownBy_alloc w (.cells #[.slice none 0 0, .slice none 0 0] 72) none)
 have B1 := hid_intro (BxT.new w (.slice none 0 0) (.slice none 0 0))
 have PL := hid_intro (fun (W : World) (h : w.grownBy W none) => place_any b sa sm sc ka kn kc (BnT.row (T := NdT 0) x).ss key W (h.cell k2 (by simp)) (hss.kept (FrT.of h)) (by omega) (rise_of x3) (hk.keptN h) bt (fun s hs => (x5 s hs).kb))
 obtain ⟨g, off, u, rfl, c1, hu⟩ := NsT.node (n := 0) hns hy.at_
 obtain ⟨b1, rfl⟩ := hu.atL
 have hlt := hy.lt
 have KC : Hid (∀ (W : World), w.grownBy W none → Calls Tryz.prog 52 #[.pointer (some ⟨b1, 0, none⟩), .slice ka kn kc, .slice na nn nc] W fun en w' => ChT 0 (changedT 0 y key now) en w' ∧ W.grownBy w' none) := fun W h => hC b1 y ka kn kc key na nn nc now W (NodeT.kept _ hu (FrT.of h)) (x2 y (List.mem_of_getElem? hy.at_)) (hk.keptN h) bt (hnow.kept (FrT.of h)) hn
 have RX := hid_intro (show RowT 0 w (some ⟨g, off, none⟩) m c sa sm sc (BnT.row (T := NdT 0) x) from ⟨hns, hss⟩)
 have hme := mL_changed
 have HY := hid_intro hy
 have HN := hid_intro hn
 have hix := hy.lt
 show Calls Tryz.prog 117 _ _ _
 cases hq : changedT 0 y key now with
 | none =>
  rw [branch_stop HY.out hq]
  rw [hq] at KC
  generalize placeT (BnT.row (T := NdT 0) x).ss key = i at *
  have v1 : (0 : Int) ≤ (i : Int) ∧ (i : Int) < (m : Int) := by omega
  clear hb hns hss hk hu x2 x3 x5 hy hnow hn hq k2
  go_enter Tryz.func117, Tryz.ntmps117
  go_wp2_with fail
  refine (PL.out _ G1.out).mono ?_
  rintro en w2 ⟨rfl, hg2⟩
  have G2 := hid_intro (grown_trans G1.out hg2)
  have d1 := G2.out.cell k1 (by simp)
  have d2 := G2.out.cell c1 (by simp)
  clear hg2 k1 c1
  go_wp2_with fail
  refine (KC.out _ G2.out).mono ?_
  rintro en w3 ⟨h3, hg3⟩
  have h4 : en = .panicked [{ v := .iface 97 (.agg #[]), recovered := false }] := h3
  subst h4
  exact ⟨rfl, rfl, grown_trans G2.out hg3⟩
 | some q =>
  obtain ⟨q1, q2, q3, q4, q5, q6⟩ := branch_next HOX.out HN.out HY.out hq
  rw [q1]
  rw [hq] at KC
  generalize ht : tidyT (joinsT 0) (joinedT 0) (placeT (BnT.row (T := NdT 0) x).ss key + q.ns.length - (placeT (BnT.row (T := NdT 0) x).ss key - 1)) (replT (BnT.row (T := NdT 0) x) (placeT (BnT.row (T := NdT 0) x).ss key) q) (placeT (BnT.row (T := NdT 0) x).ss key - 1) = t at *
  obtain ⟨t1, t2, t3⟩ := q6 t rfl
  have QT := hid_intro (And.intro t1 (And.intro t2 t3))
  have HT := hid_intro ht
  have Q2 := hid_intro q2
  have HSL := hid_intro hsl
  clear t1 t2 t3 q6 q2 ht q1 hq
  generalize placeT (BnT.row (T := NdT 0) x).ss key = i at *
  have v1 : (0 : Int) ≤ (i : Int) ∧ (i : Int) < (m : Int) := by omega
  clear hb hns hss hk hu x2 x3 x5 hy hnow hn k2
  have GS : Hid (w.heap.size < (w.alloc (.cells #[.slice none 0 0, .slice none 0 0] 72)).heap.size) := by simp [Hid]
  go_enter Tryz.func117, Tryz.ntmps117
  go_wp2_with fail
  refine (PL.out _ G1.out).mono ?_
  rintro en w2 ⟨rfl, hg2⟩
  have GZ := hid_intro hg2
  have G2 := hid_intro (grown_trans G1.out hg2)
  have d1 := G2.out.cell k1 (by simp)
  have d2 := G2.out.cell c1 (by simp)
  clear hg2 c1
  go_wp2_with fail
  refine (KC.out _ G2.out).mono ?_
  rintro en w3 ⟨⟨a3, m3, c3, sa3, sm3, sc3, rfl, hr3⟩, hg3⟩
  have hgz := hid_intro hg3
  have G3 := hid_intro (grown_trans G2.out hg3)
  have l3 := hr3.ns.len
  have l4 := hr3.ss.len
  have GX := hid_intro (World.grownBy_alloc w3 (.cells #[.slice a3 m3 c3, .slice sa3 sm3 sc3] 72) none)
  have X4 := heap_at0 w3 #[.slice a3 m3 c3, .slice sa3 sm3 sc3] 72
  have R3 := hid_intro (hr3.kept (FrT.of GX.out))
  have e0 := cell_heap (i := 0) X4 rfl
  have e1 := cell_heap (i := 1) X4 rfl
  have k2' := cell_heap (i := 2) HB0.out rfl
  have e2 := (grown_trans G3.out GX.out).cell k1 (by simp)
  have e3 := (grown_trans G3.out GX.out).cell k2' (by simp)
  have G4 := hid_intro (grown_trans G3.out GX.out)
  clear hg3 hr3 X4 d1 d2 k2' k1
  go_upto_region 3 with fail
  generalize w3.alloc (.cells #[.slice a3 m3 c3, .slice sa3 sm3 sc3] 72) = w4 at *
  have TT := hid_intro (And.intro e0 (And.intro e1 (And.intro e2 e3)))
  obtain ⟨fr, hfr⟩ : ∃ fr : Int, (i : Int) - 1 = fr := ⟨_, rfl⟩
  obtain ⟨su, hsu⟩ : ∃ su : Int, (i : Int) + (m3 : Int) = su := ⟨_, rfl⟩
  obtain ⟨tq, htq⟩ : ∃ tq : Int, su - 1 = tq := ⟨_, rfl⟩
  have wf : IntKind.i64.wrap fr = fr := by rw [IntKind.wrap_i64]; omega
  have ws : IntKind.i64.wrap su = su := by rw [IntKind.wrap_i64]; omega
  have wt : IntKind.i64.wrap tq = tq := by rw [IntKind.wrap_i64]; omega
  have RP := hid_intro (fun (W : World) (h : w4.grownBy W none) => hRP (BnT.row (T := NdT 0) x) q i HSL.out hix _ m c sa sm sc a3 m3 c3 sa3 sm3 sc3 W (RX.out.kept (FrT.of (grown_trans G4.out h))) (R3.out.kept (FrT.of h)) (by omega) (by omega) (by omega) (by omega))
  have TD := hid_intro (fun (a5 : Option Addr) (m5 c5 : Nat) (sa5 : Option Addr) (sm5 sc5 : Nat) (W : World) (h : RowT 0 W a5 m5 c5 sa5 sm5 sc5 (replT (BnT.row (T := NdT 0) x) i q)) (h5 : m5 ≤ 5000) => hT (replT (BnT.row (T := NdT 0) x) i q) fr tq (i - 1) (i + q.ns.length - (i - 1)) (by split <;> omega) (by omega) (by omega) (by omega) Q2.out a5 m5 c5 sa5 sm5 sc5 W h h5)
  rw [HT.out] at TD
  have ST := hid_intro (fun (a5 : Option Addr) (m5 c5 : Nat) (sa5 : Option Addr) (sm5 sc5 : Nat) (W : World) (h : RowT 0 W a5 m5 c5 sa5 sm5 sc5 t) (h5 : m5 ≤ 5000) => settledBranch_any t QT.out.1 QT.out.2.2 a5 m5 c5 sa5 sm5 sc5 W h h5)
  have B4 := hid_intro (B1.out.keptN (show (w.alloc (.cells #[.slice none 0 0, .slice none 0 0] 72)).grownBy w4 none from grown_trans GZ.out (grown_trans hgz.out GX.out)))
  clear e0 e1 e2 e3
  go_region_held3 (fun w' => w'.cell? ⟨w3.heap.size, 0, none⟩ = some (.slice a3 m3 c3) ∧ w'.cell? ⟨w3.heap.size, 1, none⟩ = some (.slice sa3 sm3 sc3) ∧ w'.cell? ⟨b, 1, none⟩ = some (.slice (some ⟨g, off, none⟩) m c) ∧ w'.cell? ⟨b, 2, none⟩ = some (.slice sa sm sc)) (first | (with_reducible exact T5) | (with_reducible exact T6) | (with_reducible exact T7) | exact TT.out | (refine And.intro (keep2 T7.1 ?_) (And.intro (keep2 T7.2.1 ?_) (And.intro (keep2 T7.2.2.1 ?_) (keep2 T7.2.2.2 ?_))) <;> (have z0 := GZ.out.size; have z3 := hgz.out.size; have z1 := GS.out; omega)) | go_keep) (first
   | (go_at_call 129; (with_reducible refine (RP.out _ ((Qt.refl w4).drew.grown none)).mono ?_); rintro en w5 ⟨⟨a5, m5, c5, sa5, sm5, sc5, rfl, hr5⟩, hg5⟩; have H5 := grown_trans ((Qt.refl w4).drew.grown none) hg5; have l5 := hr5.ns.len; have T5 := And.intro (H5.cell TT.out.1 (by simp)) (And.intro (H5.cell TT.out.2.1 (by simp)) (And.intro (H5.cell TT.out.2.2.1 (by simp)) (H5.cell TT.out.2.2.2 (by simp)))))
   | (go_at_call 130; (with_reducible refine (TD.out _ _ _ _ _ _ _ hr5 (by omega)).mono ?_); rintro en w6 ⟨⟨a6, m6, c6, sa6, sm6, sc6, rfl, hr6⟩, hg6⟩; have H6 := grown_trans H5 hg6; have l6 := hr6.ns.len; have q7 := QT.out.2.1; have T6 := And.intro (H6.cell TT.out.1 (by simp)) (And.intro (H6.cell TT.out.2.1 (by simp)) (And.intro (H6.cell TT.out.2.2.1 (by simp)) (H6.cell TT.out.2.2.2 (by simp)))))
   | (go_at_call 128; (with_reducible refine (ST.out _ _ _ _ _ _ _ hr6 (by omega)).mono ?_); rintro en w7 ⟨⟨a7, m7, c7, sa7, sm7, sc7, rfl, hr7⟩, hg7⟩; have H7 := grown_trans H6 hg7; have T7 := And.intro (H7.cell TT.out.1 (by simp)) (And.intro (H7.cell TT.out.2.1 (by simp)) (And.intro (H7.cell TT.out.2.2.1 (by simp)) (H7.cell TT.out.2.2.2 (by simp)))); have B7 := B4.out.keptN H7; obtain ⟨⟨x1, cx⟩, ⟨y1, cy⟩, z1, z2⟩ := B7.cells))
  all_goals go_wp2
  all_goals
   refine ret_rowC (p := 6) rfl B7 (Nat.le_refl _) hr7 (grown_trans G4.out H7) ?_ ?_ <;> rfl
set_option maxHeartbeats 16000000 in
set_option maxRecDepth 100000 in
theorem changedC_B {n : Nat} (hT : TidyD (n + 1)) (hRP : ReplD (n + 1)) (hC : ChangedC (n + 1)) : ChangedC (n + 1 + 1) := by
 intro b x ka kn kc key na nn nc now w hx ox hk bt hnow hn
 have HOX := hid_intro ox
 obtain ⟨b', a, m, c, sa, sm, sc, e, hb, hns, hss⟩ := hx
 simp only [tyN, Value.iface.injEq, Value.pointer.injEq, Option.some.injEq, Addr.mk.injEq, true_and, and_true] at e
 subst e
 obtain ⟨x1, x2, x3, x4, x5⟩ := ox
 obtain ⟨y, hy⟩ := at_place x3 x1 key
 have ls := hss.len
 have ln := hns.len
 have f1 := seps_few x4
 have hsl : (BnT.row (T := NdT (n + 1)) x).ns.length = (BnT.row (T := NdT (n + 1)) x).ss.length + 1 := by
  have := x3.len
  have := List.length_pos_iff.2 x1
  omega
 have k1 := cell_heap (i := 1) hb rfl
 have k2 := cell_heap (i := 2) hb rfl
 have hbl := cell_lt k1
 have HB0 := hid_intro hb
 have G1 := hid_intro (World.grownBy_alloc w (.cells #[.slice none 0 0, .slice none 0 0] 72) none)
 have B1 := hid_intro (BxT.new w (.slice none 0 0) (.slice none 0 0))
 have PL := hid_intro (fun (W : World) (h : w.grownBy W none) => place_any b sa sm sc ka kn kc (BnT.row (T := NdT (n + 1)) x).ss key W (h.cell k2 (by simp)) (hss.kept (FrT.of h)) (by omega) (rise_of x3) (hk.keptN h) bt (fun s hs => (x5 s hs).kb))
 obtain ⟨g, off, u, rfl, c1, hu⟩ := NsT.node (n := (n + 1)) hns hy.at_
 obtain ⟨b1, rfl⟩ := hu.atB
 have hlt := hy.lt
 have KC : Hid (∀ (W : World), w.grownBy W none → Calls Tryz.prog 117 #[.pointer (some ⟨b1, 0, none⟩), .slice ka kn kc, .slice na nn nc] W fun en w' => ChT (n + 1) (changedT (n + 1) y key now) en w' ∧ W.grownBy w' none) := fun W h => hC b1 y ka kn kc key na nn nc now W (NodeT.kept _ hu (FrT.of h)) (x2 y (List.mem_of_getElem? hy.at_)) (hk.keptN h) bt (hnow.kept (FrT.of h)) hn
 have RX := hid_intro (show RowT (n + 1) w (some ⟨g, off, none⟩) m c sa sm sc (BnT.row (T := NdT (n + 1)) x) from ⟨hns, hss⟩)
 have hme := mB_changed
 have HY := hid_intro hy
 have HN := hid_intro hn
 have hix := hy.lt
 show Calls Tryz.prog 117 _ _ _
 cases hq : changedT (n + 1) y key now with
 | none =>
  rw [branch_stop HY.out hq]
  rw [hq] at KC
  generalize placeT (BnT.row (T := NdT (n + 1)) x).ss key = i at *
  have v1 : (0 : Int) ≤ (i : Int) ∧ (i : Int) < (m : Int) := by omega
  clear hb hns hss hk hu x2 x3 x5 hy hnow hn hq k2
  go_enter Tryz.func117, Tryz.ntmps117
  go_wp2_with fail
  refine (PL.out _ G1.out).mono ?_
  rintro en w2 ⟨rfl, hg2⟩
  have G2 := hid_intro (grown_trans G1.out hg2)
  have d1 := G2.out.cell k1 (by simp)
  have d2 := G2.out.cell c1 (by simp)
  clear hg2 k1 c1
  go_wp2_with fail
  refine (KC.out _ G2.out).mono ?_
  rintro en w3 ⟨h3, hg3⟩
  have h4 : en = .panicked [{ v := .iface 97 (.agg #[]), recovered := false }] := h3
  subst h4
  exact ⟨rfl, rfl, grown_trans G2.out hg3⟩
 | some q =>
  obtain ⟨q1, q2, q3, q4, q5, q6⟩ := branch_next HOX.out HN.out HY.out hq
  rw [q1]
  rw [hq] at KC
  generalize ht : tidyT (joinsT (n + 1)) (joinedT (n + 1)) (placeT (BnT.row (T := NdT (n + 1)) x).ss key + q.ns.length - (placeT (BnT.row (T := NdT (n + 1)) x).ss key - 1)) (replT (BnT.row (T := NdT (n + 1)) x) (placeT (BnT.row (T := NdT (n + 1)) x).ss key) q) (placeT (BnT.row (T := NdT (n + 1)) x).ss key - 1) = t at *
  obtain ⟨t1, t2, t3⟩ := q6 t rfl
  have QT := hid_intro (And.intro t1 (And.intro t2 t3))
  have HT := hid_intro ht
  have Q2 := hid_intro q2
  have HSL := hid_intro hsl
  clear t1 t2 t3 q6 q2 ht q1 hq
  generalize placeT (BnT.row (T := NdT (n + 1)) x).ss key = i at *
  have v1 : (0 : Int) ≤ (i : Int) ∧ (i : Int) < (m : Int) := by omega
  clear hb hns hss hk hu x2 x3 x5 hy hnow hn k2
  have GS : Hid (w.heap.size < (w.alloc (.cells #[.slice none 0 0, .slice none 0 0] 72)).heap.size) := by simp [Hid]
  go_enter Tryz.func117, Tryz.ntmps117
  go_wp2_with fail
  refine (PL.out _ G1.out).mono ?_
  rintro en w2 ⟨rfl, hg2⟩
  have GZ := hid_intro hg2
  have G2 := hid_intro (grown_trans G1.out hg2)
  have d1 := G2.out.cell k1 (by simp)
  have d2 := G2.out.cell c1 (by simp)
  clear hg2 c1
  go_wp2_with fail
  refine (KC.out _ G2.out).mono ?_
  rintro en w3 ⟨⟨a3, m3, c3, sa3, sm3, sc3, rfl, hr3⟩, hg3⟩
  have hgz := hid_intro hg3
  have G3 := hid_intro (grown_trans G2.out hg3)
  have l3 := hr3.ns.len
  have l4 := hr3.ss.len
  have GX := hid_intro (World.grownBy_alloc w3 (.cells #[.slice a3 m3 c3, .slice sa3 sm3 sc3] 72) none)
  have X4 := heap_at0 w3 #[.slice a3 m3 c3, .slice sa3 sm3 sc3] 72
  have R3 := hid_intro (hr3.kept (FrT.of GX.out))
  have e0 := cell_heap (i := 0) X4 rfl
  have e1 := cell_heap (i := 1) X4 rfl
  have k2' := cell_heap (i := 2) HB0.out rfl
  have e2 := (grown_trans G3.out GX.out).cell k1 (by simp)
  have e3 := (grown_trans G3.out GX.out).cell k2' (by simp)
  have G4 := hid_intro (grown_trans G3.out GX.out)
  clear hg3 hr3 X4 d1 d2 k2' k1
  go_upto_region 3 with fail
  generalize w3.alloc (.cells #[.slice a3 m3 c3, .slice sa3 sm3 sc3] 72) = w4 at *
  have TT := hid_intro (And.intro e0 (And.intro e1 (And.intro e2 e3)))
  obtain ⟨fr, hfr⟩ : ∃ fr : Int, (i : Int) - 1 = fr := ⟨_, rfl⟩
  obtain ⟨su, hsu⟩ : ∃ su : Int, (i : Int) + (m3 : Int) = su := ⟨_, rfl⟩
  obtain ⟨tq, htq⟩ : ∃ tq : Int, su - 1 = tq := ⟨_, rfl⟩
  have wf : IntKind.i64.wrap fr = fr := by rw [IntKind.wrap_i64]; omega
  have ws : IntKind.i64.wrap su = su := by rw [IntKind.wrap_i64]; omega
  have wt : IntKind.i64.wrap tq = tq := by rw [IntKind.wrap_i64]; omega
  have RP := hid_intro (fun (W : World) (h : w4.grownBy W none) => hRP (BnT.row (T := NdT (n + 1)) x) q i HSL.out hix _ m c sa sm sc a3 m3 c3 sa3 sm3 sc3 W (RX.out.kept (FrT.of (grown_trans G4.out h))) (R3.out.kept (FrT.of h)) (by omega) (by omega) (by omega) (by omega))
  have TD := hid_intro (fun (a5 : Option Addr) (m5 c5 : Nat) (sa5 : Option Addr) (sm5 sc5 : Nat) (W : World) (h : RowT (n + 1) W a5 m5 c5 sa5 sm5 sc5 (replT (BnT.row (T := NdT (n + 1)) x) i q)) (h5 : m5 ≤ 5000) => hT (replT (BnT.row (T := NdT (n + 1)) x) i q) fr tq (i - 1) (i + q.ns.length - (i - 1)) (by split <;> omega) (by omega) (by omega) (by omega) Q2.out a5 m5 c5 sa5 sm5 sc5 W h h5)
  rw [HT.out] at TD
  have ST := hid_intro (fun (a5 : Option Addr) (m5 c5 : Nat) (sa5 : Option Addr) (sm5 sc5 : Nat) (W : World) (h : RowT (n + 1) W a5 m5 c5 sa5 sm5 sc5 t) (h5 : m5 ≤ 5000) => settledBranch_any t QT.out.1 QT.out.2.2 a5 m5 c5 sa5 sm5 sc5 W h h5)
  have B4 := hid_intro (B1.out.keptN (show (w.alloc (.cells #[.slice none 0 0, .slice none 0 0] 72)).grownBy w4 none from grown_trans GZ.out (grown_trans hgz.out GX.out)))
  clear e0 e1 e2 e3
  go_region_held3 (fun w' => w'.cell? ⟨w3.heap.size, 0, none⟩ = some (.slice a3 m3 c3) ∧ w'.cell? ⟨w3.heap.size, 1, none⟩ = some (.slice sa3 sm3 sc3) ∧ w'.cell? ⟨b, 1, none⟩ = some (.slice (some ⟨g, off, none⟩) m c) ∧ w'.cell? ⟨b, 2, none⟩ = some (.slice sa sm sc)) (first | (with_reducible exact T5) | (with_reducible exact T6) | (with_reducible exact T7) | exact TT.out | (refine And.intro (keep2 T7.1 ?_) (And.intro (keep2 T7.2.1 ?_) (And.intro (keep2 T7.2.2.1 ?_) (keep2 T7.2.2.2 ?_))) <;> (have z0 := GZ.out.size; have z3 := hgz.out.size; have z1 := GS.out; omega)) | go_keep) (first
   | (go_at_call 129; (with_reducible refine (RP.out _ ((Qt.refl w4).drew.grown none)).mono ?_); rintro en w5 ⟨⟨a5, m5, c5, sa5, sm5, sc5, rfl, hr5⟩, hg5⟩; have H5 := grown_trans ((Qt.refl w4).drew.grown none) hg5; have l5 := hr5.ns.len; have T5 := And.intro (H5.cell TT.out.1 (by simp)) (And.intro (H5.cell TT.out.2.1 (by simp)) (And.intro (H5.cell TT.out.2.2.1 (by simp)) (H5.cell TT.out.2.2.2 (by simp)))))
   | (go_at_call 130; (with_reducible refine (TD.out _ _ _ _ _ _ _ hr5 (by omega)).mono ?_); rintro en w6 ⟨⟨a6, m6, c6, sa6, sm6, sc6, rfl, hr6⟩, hg6⟩; have H6 := grown_trans H5 hg6; have l6 := hr6.ns.len; have q7 := QT.out.2.1; have T6 := And.intro (H6.cell TT.out.1 (by simp)) (And.intro (H6.cell TT.out.2.1 (by simp)) (And.intro (H6.cell TT.out.2.2.1 (by simp)) (H6.cell TT.out.2.2.2 (by simp)))))
   | (go_at_call 128; (with_reducible refine (ST.out _ _ _ _ _ _ _ hr6 (by omega)).mono ?_); rintro en w7 ⟨⟨a7, m7, c7, sa7, sm7, sc7, rfl, hr7⟩, hg7⟩; have H7 := grown_trans H6 hg7; have T7 := And.intro (H7.cell TT.out.1 (by simp)) (And.intro (H7.cell TT.out.2.1 (by simp)) (And.intro (H7.cell TT.out.2.2.1 (by simp)) (H7.cell TT.out.2.2.2 (by simp)))); have B7 := B4.out.keptN H7; obtain ⟨⟨x1, cx⟩, ⟨y1, cy⟩, z1, z2⟩ := B7.cells))
  all_goals go_wp2
  all_goals
   refine ret_rowC (p := 6) rfl B7 (Nat.le_refl _) hr7 (grown_trans G4.out H7) ?_ ?_ <;> rfl
def TidyC (n : Nat) : Prop := ∀ (r : RwT (NdT n)) (fr tq : Int) (i0 cnt : Nat), (if (0 : Int) > fr then (0 : Int) else fr) = (i0 : Int) → cnt = (tq + 1 - (i0 : Int)).toNat → (-100000 ≤ tq ∧ tq ≤ 100000) → (-100000 ≤ fr ∧ fr ≤ 100000) → RokT n r → ∀ (a : Option Addr) (m c : Nat) (sa : Option Addr) (sm sc : Nat) (w : World), RowT n w a m c sa sm sc r → m ≤ 5000 →
  Calls Tryz.prog 130 #[.agg #[.slice a m c, .slice sa sm sc], .int .i64 fr, .int .i64 tq] w fun en w' => (∃ a m c sa sm sc, en = .returned (.agg #[.slice a m c, .slice sa sm sc]) ∧ RowT n w' a m c sa sm sc (tidyT (joinsT n) (joinedT n) cnt r i0)) ∧ w.grownBy w' none
def BoxR (n : Nat) (w : World) (r : RwT (NdT n)) (s8 : Value) (wx : World) : Prop := ∃ G a m c sa sm sc, s8 = .pointer (some ⟨G, 0, none⟩) ∧ wx.heap[G]? = some (.cells #[.slice a m c, .slice sa sm sc] 72 (0, 0)) ∧ RowT n wx a m c sa sm sc r ∧ w.grownBy wx none
theorem box_put {n : Nat} {w w6 : World} {A : Nat} {a : Option Addr} {m c : Nat} {sa : Option Addr} {sm sc : Nat} {r : RwT (NdT n)} (hb : BxT w6 A) (h : RowT n w6 a m c sa sm sc r) (hg : w.grownBy w6 none) (hA : w.heap.size ≤ A) : BoxR n w r (.pointer (some ⟨A, 0, none⟩)) ((w6.setCell ⟨A, 0, none⟩ (.slice a m c)).setCell ⟨A, 1, none⟩ (.slice sa sm sc)) := by
 obtain ⟨k1, k2, k3⟩ := hb.put (.slice a m c) (.slice sa sm sc)
 exact ⟨A, a, m, c, sa, sm, sc, rfl, k1, h.kept k2, grown_new hg k3 hA⟩
end Go.Proofs.YtndanifjommpdaaGreat
