import Derived.Test.YtnfelndfpmnkmaaGreatDoorQ16
namespace Go.Proofs.YtnfelndfpmnkmaaGreatDoor
open Go.RowKit
structure Su (w : World) (base top : Nat) (xs : List Value) (L : List (List Int)) : Prop where
 len : xs.length = L.length
 ex : ∃ gf : Nat → Nat, (∀ j, j < L.length → xs[j]? = some (.slice (some ⟨gf j, 0, none⟩) (L.getD j []).length (L.getD j []).length) ∧ Rw w (gf j) (L.getD j []) ∧ base ≤ gf j ∧ (L.getD j []).length ≤ 20000 ∧ gf j < top) ∧ ∀ j j', j < j' → j' < L.length → gf j < gf j'
theorem Su.sv {w : World} {base top : Nat} {xs : List Value} {L : List (List Int)} (h : Su w base top xs L) : Sv w base xs L := by
 obtain ⟨gf, h1, _⟩ := h.ex
 exact ⟨h.len, fun j hj => ⟨gf j, (h1 j hj).1, (h1 j hj).2.1, (h1 j hj).2.2.1, (h1 j hj).2.2.2.1⟩⟩
theorem Su.nil (w : World) (base top : Nat) : Su w base top [] [] := ⟨rfl, fun _ => 0, fun j hj => by simp at hj, fun j j' _ hj => by simp at hj⟩
theorem Su.kept {w w' : World} {base top : Nat} {xs : List Value} {L : List (List Int)} {row : Option Nat} (h : Su w base top xs L) (hg : w.grownBy w' row) (hne : ∀ (g : Nat) (zs : List Int), base ≤ g → Rw w g zs → some g ≠ row) : Su w' base top xs L := by
 obtain ⟨gf, h1, h2⟩ := h.ex
 refine ⟨h.len, gf, fun j hj => ?_, h2⟩
 obtain ⟨k1, k2, k3, k4, k5⟩ := h1 j hj
 exact ⟨k1, k2.kept hg (hne _ _ k3 k2), k3, k4, k5⟩
theorem Su.keptN {w w' : World} {base top : Nat} {xs : List Value} {L : List (List Int)} (h : Su w base top xs L) (hg : w.grownBy w' none) : Su w' base top xs L := h.kept hg (fun _ _ _ _ => by simp)
theorem Su.raise {w : World} {base top : Nat} {xs : List Value} {L : List (List Int)} (h : Su w base top xs L) : Su w base w.heap.size xs L := by
 obtain ⟨gf, h1, h2⟩ := h.ex
 exact ⟨h.len, gf, fun j hj => ⟨(h1 j hj).1, (h1 j hj).2.1, (h1 j hj).2.2.1, (h1 j hj).2.2.2.1, (h1 j hj).2.1.lt⟩, h2⟩
theorem Su.snoc {w : World} {base top : Nat} {xs : List Value} {L : List (List Int)} (h : Su w base top xs L) {g n : Nat} {x : List Int} (hx : Rw w g x) (hn : x.length = n) (hb : base ≤ g) (hm : n ≤ 20000) (ht : top ≤ g) : Su w base (g + 1) (xs ++ [.slice (some ⟨g, 0, none⟩) n n]) (L ++ [x]) := by
 have hl := h.len
 obtain ⟨gf, h1, h2⟩ := h.ex
 refine ⟨by simp [hl], fun j => if j < L.length then gf j else g, fun j hj => ?_, fun j j' hjj hj' => ?_⟩
 ·rw [List.length_append] at hj
  simp only [List.length_cons, List.length_nil] at hj
  by_cases e : j < L.length
  ·obtain ⟨k1, k2, k3, k4, k5⟩ := h1 j e
   have eg : (L ++ [x]).getD j [] = L.getD j [] := by simp [List.getD, List.getElem?_append_left e]
   rw [eg]
   simp only [if_pos e]
   exact ⟨by rw [List.getElem?_append_left (by omega)]; exact k1, k2, k3, k4, by omega⟩
  ·obtain rfl : j = L.length := by omega
   have eg : (L ++ [x]).getD L.length [] = x := by simp [List.getD]
   rw [eg, hn]
   simp only [if_neg e]
   exact ⟨by rw [List.getElem?_append_right (by omega), hl, Nat.sub_self]; rfl, hx, hb, hm, by omega⟩
 ·rw [List.length_append] at hj'
  simp only [List.length_cons, List.length_nil] at hj'
  by_cases e : j' < L.length
  ·simp only [if_pos e, if_pos (show j < L.length by omega)]
   exact h2 j j' hjj e
  ·simp only [if_neg e, if_pos (show j < L.length by omega)]
   have := (h1 j (by omega)).2.2.2.2
   omega
structure Bp (w w' : World) (a : Option Addr) (n cap : Nat) (b : Option Addr) (m cap2 : Nat) (L : List (List Int)) (K : List Kd) : Prop where
 ex : ∃ b1 xs top, w.heap.size ≤ b1 ∧ w'.ownsRow b1 26 1 (.slice a n cap) n xs ∧ Su w' b1 top xs L ∧ w'.ownsRow b1 61 2 (.slice b m cap2) m (kc K)
theorem Bp.zero (w w' : World) : Bp w w' none 0 0 none 0 0 [] [] := ⟨w.heap.size, [], 0, Nat.le_refl _, ⟨rfl, .inl ⟨rfl, rfl⟩⟩, Su.nil _ _ _, ⟨rfl, .inl ⟨rfl, rfl⟩⟩⟩
theorem Bp.keptN {w w' w'' : World} {a : Option Addr} {n cap : Nat} {b : Option Addr} {m cap2 : Nat} {L : List (List Int)} {K : List Kd} (h : Bp w w' a n cap b m cap2 L K) (hg : w'.grownBy w'' none) : Bp w w'' a n cap b m cap2 L K := by
 obtain ⟨b1, xs, top, h1, h2, h3, h4⟩ := h.ex
 exact ⟨b1, xs, top, h1, h2.kept hg (by cases (Value.slice a n cap).ownBlock <;> simp), h3.keptN hg, h4.kept hg (by cases (Value.slice b m cap2).ownBlock <;> simp)⟩
theorem Bp.from {w0 w w' : World} {a : Option Addr} {n cap : Nat} {b : Option Addr} {m cap2 : Nat} {L : List (List Int)} {K : List Kd} (h : Bp w w' a n cap b m cap2 L K) (hs : w0.heap.size ≤ w.heap.size) : Bp w0 w' a n cap b m cap2 L K := by
 obtain ⟨b1, xs, top, h1, h2, h3, h4⟩ := h.ex
 exact ⟨b1, xs, top, by omega, h2, h3, h4⟩
structure Bo (w wr : World) (R G base : Nat) (po : Option Addr) (pn : Nat) (zs P : List Int) (i j : Nat) (st : Nat × Int) (M : List (List Int)) (K : List Kd) (v v2 : Value) (xs : List Value) (top : Nat) : Prop where
 rd : Rd wr R G zs st.1 st.2
 pb : Byt wr po pn pn P
 own : wr.ownsRow base 26 1 v i xs
 own2 : wr.ownsRow base 61 2 v2 j (kc K)
 sv : Su wr base top xs M
 gr : w.grownBy wr (some R)
 far : R < base ∧ G < base ∧ w.heap.size ≤ base ∧ base ≤ wr.heap.size
 pg : ∀ ad, po = some ad → 0 < pn → ad.block = G
 len : M.length = i ∧ 0 < j
theorem Bo.call {w wr w' : World} {R G base : Nat} {po : Option Addr} {pn : Nat} {zs P : List Int} {i j : Nat} {st st' : Nat × Int} {M : List (List Int)} {K : List Kd} {v v2 : Value} {xs : List Value} {top : Nat} (h : Bo w wr R G base po pn zs P i j st M K v v2 xs top) (hr : Rd w' R G zs st'.1 st'.2) (hg : wr.grownBy w' (some R)) : Bo w w' R G base po pn zs P i j st' M K v v2 xs top := by
 have hne : v.ownBlock ≠ some R := fun e => by have := (h.own.lt R e).1; have := h.far.1; omega
 have hne2 : v2.ownBlock ≠ some R := fun e => by have := (h.own2.lt R e).1; have := h.far.1; omega
 exact ⟨hr, h.pb.kept hg (fun ad e hn e2 => by have := h.pg ad e hn; have := Option.some.inj e2; have := h.rd.ne; omega), h.own.kept hg (.inr hne), h.own2.kept hg (.inr hne2), h.sv.kept hg (fun g _ hb _ e => by have := Option.some.inj e; have := h.far.1; omega), grown_trans h.gr hg, ⟨h.far.1, h.far.2.1, h.far.2.2.1, Nat.le_trans h.far.2.2.2 hg.size⟩, h.pg, h.len⟩
theorem Bo.keptN {w wr w' : World} {R G base : Nat} {po : Option Addr} {pn : Nat} {zs P : List Int} {i j : Nat} {st : Nat × Int} {M : List (List Int)} {K : List Kd} {v v2 : Value} {xs : List Value} {top : Nat} (h : Bo w wr R G base po pn zs P i j st M K v v2 xs top) (hg : wr.grownBy w' none) : Bo w w' R G base po pn zs P i j st M K v v2 xs top :=
 h.call (h.rd.kept hg (by simp) (by simp)) (grown_any hg)
theorem Bo.addSep {w wr w' : World} {R G base : Nat} {po : Option Addr} {pn : Nat} {zs P : List Int} {i j : Nat} {st : Nat × Int} {M : List (List Int)} {K : List Kd} {v v' v2 : Value} {xs : List Value} {top : Nat} (h : Bo w wr R G base po pn zs P i j st M K v v2 xs top) {g n : Nat} {x : List Int} (hx : Rw wr g x) (hn : x.length = n) (hb : base ≤ g) (hm : n ≤ 20000) (ht : top ≤ g)
  (ho : w'.ownsRow base 26 1 v' (i + 1) (xs ++ [.slice (some ⟨g, 0, none⟩) n n])) (hg : wr.grownBy w' v.ownBlock) : Bo w w' R G base po pn zs P (i + 1) j st (M ++ [x]) K v' v2 (xs ++ [.slice (some ⟨g, 0, none⟩) n n]) (g + 1) := by
 have hk : ∀ k, k < base → some k ≠ v.ownBlock := fun k hk e => by have := (h.own.lt k e.symm).1; omega
 have hrw : ∀ (g : Nat) (zs : List Int), base ≤ g → Rw wr g zs → some g ≠ v.ownBlock := fun g zs _ hr => own_ne h.own hr (by decide)
 have h2 : v2.ownBlock ≠ v.ownBlock := own_two h.own h.own2 (by decide) h.len.2 |> fun q e => q e.symm
 exact ⟨h.rd.kept hg (hk R h.far.1) (hk G h.far.2.1), h.pb.kept hg (fun ad e hn => by rw [h.pg ad e hn]; exact hk G h.far.2.1), ho, h.own2.kept hg (.inr h2), (h.sv.kept hg hrw).snoc (hx.kept hg (hrw g x hb hx)) hn hb hm ht, grown_ownR h.gr hg (fun g e => by have := (h.own.lt g e).1; have := h.far.2.2.1; omega), ⟨h.far.1, h.far.2.1, h.far.2.2.1, Nat.le_trans h.far.2.2.2 hg.size⟩, h.pg, by simp [h.len.1], h.len.2⟩
theorem Bo.addKid {w wr w' : World} {R G base : Nat} {po : Option Addr} {pn : Nat} {zs P : List Int} {i j : Nat} {st : Nat × Int} {M : List (List Int)} {K : List Kd} {v v2 v2' : Value} {xs : List Value} {top : Nat} (h : Bo w wr R G base po pn zs P i j st M K v v2 xs top) (k : Kd)
  (ho : w'.ownsRow base 61 2 v2' (j + 1) (kc K ++ [.int .i64 k.no, .int .i64 k.keys])) (hg : wr.grownBy w' v2.ownBlock) : Bo w w' R G base po pn zs P i (j + 1) st M (K ++ [k]) v v2' xs top := by
 have hk : ∀ k, k < base → some k ≠ v2.ownBlock := fun k hk e => by have := (h.own2.lt k e.symm).1; omega
 have hrw : ∀ (g : Nat) (zs : List Int), base ≤ g → Rw wr g zs → some g ≠ v2.ownBlock := fun g zs _ hr => own_ne h.own2 hr (by decide)
 have h2 : v.ownBlock ≠ v2.ownBlock := own_two h.own h.own2 (by decide) h.len.2
 exact ⟨h.rd.kept hg (hk R h.far.1) (hk G h.far.2.1), h.pb.kept hg (fun ad e hn => by rw [h.pg ad e hn]; exact hk G h.far.2.1), h.own.kept hg (.inr h2), by rw [kc_snoc]; exact ho, h.sv.kept hg hrw, grown_ownR h.gr hg (fun g e => by have := (h.own2.lt g e).1; have := h.far.2.2.1; omega), ⟨h.far.1, h.far.2.1, h.far.2.2.1, Nat.le_trans h.far.2.2.2 hg.size⟩, h.pg, h.len.1, Nat.succ_pos _⟩
theorem Bo.raise {w wr : World} {R G base : Nat} {po : Option Addr} {pn : Nat} {zs P : List Int} {i j : Nat} {st : Nat × Int} {M : List (List Int)} {K : List Kd} {v v2 : Value} {xs : List Value} {top : Nat} (h : Bo w wr R G base po pn zs P i j st M K v v2 xs top) : Bo w wr R G base po pn zs P i j st M K v v2 xs wr.heap.size :=
 ⟨h.rd, h.pb, h.own, h.own2, h.sv.raise, h.gr, h.far, h.pg, h.len⟩
set_option maxHeartbeats 4000000 in
set_option maxRecDepth 100000 in
theorem bread_own (R G : Nat) (zs : List Int) (w : World) (h : Rd w R G zs 0 0) (hbt : Bt zs) (hz : zs.length ≤ 5000) :
  Calls Tryz.prog 30 #[.pointer (some ⟨R, 0, none⟩)] w fun en w' => (∃ a n cap b m cap2, en = .returned (.tuple #[.int .i64 ((hLevel zs).1 : Nat), .slice a n cap, .slice b m cap2]) ∧ Lz w' a (seps (bparse zs)) ∧ Kl w' b (kids (hKid zs).1 (bparse zs)) ∧ (bparse zs).length = n ∧ m = n + 1 ∧ n ≤ cap ∧ cap ≤ 9223372036854775807 ∧ m ≤ cap2 ∧ cap2 ≤ 9223372036854775807 ∧ Bp w w' a n cap b m cap2 (seps (bparse zs)) (kids (hKid zs).1 (bparse zs))) ∧ w.grownBy w' (some R) := by
 obtain ⟨i0, hi, hz0, hz1, hz2⟩ := info_parts info_bytesS
 obtain ⟨i1, hi1, hy0, hy1, hy2⟩ := info_parts info_kid
 have HPZ : Hid (bparse zs = bLoop zs (hPre zs).1 ((hCount zs).1 - 1) (hKid zs).2 []) := rfl
 have H1 := hid_intro (rd_B R G zs (0, 0) 1 w h)
 have H2 := hid_intro (fun (W : World) (hW : Rd W R G zs (sB zs (0, 0) 1).2.1 (sB zs (0, 0) 1).2.2) => rd_N1 R G zs (sB zs (0, 0) 1).2 W hW hbt)
 have e2 : sN zs (sB zs (0, 0) 1).2 1 = hLevel zs := rfl
 rw [e2] at H2
 have H3 := hid_intro (fun (W : World) (hW : Rd W R G zs (hLevel zs).2.1 (hLevel zs).2.2) => rd_N2 R G zs (hLevel zs).2 W hW hbt)
 have e3 : sN zs (hLevel zs).2 2 = hCount zs := rfl
 rw [e3] at H3
 have H4 := hid_intro (fun (W : World) (hW : Rd W R G zs (hCount zs).2.1 (hCount zs).2.2) => readString_any R G zs (hCount zs).2 W hW hbt)
 have e4 : sKey zs [] (hCount zs).2 = hPre zs := rfl
 rw [e4] at H4
 have H5 := hid_intro (fun (W : World) (hW : Rd W R G zs (hPre zs).2.1 (hPre zs).2.2) => rd_B R G zs (hPre zs).2 (2 * ((hCount zs).1 - 1 : Int)) W hW)
 have H6 := hid_intro (fun (W : World) (hW : Rd W R G zs (sB zs (hPre zs).2 (2 * ((hCount zs).1 - 1 : Int))).2.1 (sB zs (hPre zs).2 (2 * ((hCount zs).1 - 1 : Int))).2.2) => readKid_any R G zs (sB zs (hPre zs).2 (2 * ((hCount zs).1 - 1 : Int))).2 W hW hbt)
 have e6 : sK zs (sB zs (hPre zs).2 (2 * ((hCount zs).1 - 1 : Int))).2 = hKid zs := rfl
 rw [e6] at H6
 have n1 := sN_lt zs (sB zs (0, 0) 1).2 1 hbt
 rw [e2] at n1
 have n2 := sN_lt zs (hLevel zs).2 2 hbt
 rw [e3] at n2
 clear e2 e3 e4 e6
 generalize bparse zs = BP at *
 generalize (sB zs (hPre zs).2 (2 * ((hCount zs).1 - 1 : Int))).2 = s5 at *
 generalize (hKid zs).2 = s6 at *
 generalize (hKid zs).1 = k at *
 generalize (hPre zs).2 = s4 at *
 generalize (hPre zs).1 = P at *
 generalize (hCount zs).2 = s3 at *
 generalize (hCount zs).1 = N at *
 generalize (hLevel zs).2 = s2 at *
 generalize (hLevel zs).1 = lv at *
 generalize (sB zs (0, 0) 1).2 = s1 at *
 have hN : N < 65536 := n2
 have hlv : lv < 256 := n1
 have HNE := hid_intro h.ne
 clear h n1 n2
 go_enter Tryz.func30, Tryz.ntmps30
 go_wp2_with fail
 refine H1.out.mono ?_
 rintro en w1 ⟨⟨_, _, rfl, _, _, _⟩, hr1, hg1⟩
 have D1 := hid_intro hr1
 have G1 := hid_intro hg1
 clear hr1 hg1 H1
 go_wp2_with fail
 refine (H2.out _ D1.out).mono ?_
 rintro en w2 ⟨rfl, hr2, hg2⟩
 have D2 := hid_intro hr2
 have G2 := hid_intro (grown_trans G1.out hg2)
 clear hr2 hg2 H2 D1 G1
 go_wp2_with fail
 refine (H3.out _ D2.out).mono ?_
 rintro en w3 ⟨rfl, hr3, hg3⟩
 have D3 := hid_intro hr3
 have G3 := hid_intro (grown_trans G2.out hg3)
 clear hr3 hg3 H3 D2 G2
 go_wp2_with fail
 refine (H4.out _ D3.out).mono ?_
 rintro en w4 ⟨⟨po, pn, rfl, hb4, hpo, hpn⟩, hr4, hg4⟩
 have D4 := hid_intro hr4
 have B4 := hid_intro hb4
 have PO := hid_intro hpo
 have G4 := hid_intro (grown_trans G3.out hg4)
 clear hr4 hg4 hb4 hpo H4 D3 G3
 go_wp2_with fail
 refine (H5.out _ D4.out).mono ?_
 rintro en w5 ⟨⟨_, _, rfl, _, _, _⟩, hr5, hg5⟩
 have D5 := hid_intro hr5
 have B5 := hid_intro (B4.out.kept hg5 (fun ad e h e2 => by obtain ⟨q, hq⟩ := PO.out h; rw [e] at hq; obtain rfl := Option.some.inj hq; exact HNE.out (Option.some.inj e2)))
 have G5 := hid_intro (grown_trans G4.out hg5)
 clear hr5 hg5 H5 D4 B4 G4
 go_wp2_with fail
 refine (H6.out _ D5.out).mono ?_
 rintro en w6 ⟨rfl, hr6, hg6⟩
 have D6 := hid_intro hr6
 have B6 := hid_intro (B5.out.kept hg6 (fun ad e h e2 => by obtain ⟨q, hq⟩ := PO.out h; rw [e] at hq; obtain rfl := Option.some.inj hq; exact HNE.out (Option.some.inj e2)))
 have G6 := hid_intro (grown_trans G5.out hg6)
 clear hr6 hg6 H6 D5 B5 G5
 obtain ⟨no, hno⟩ : ∃ no, k.no = no := ⟨_, rfl⟩
 obtain ⟨ks, hks⟩ : ∃ ks, k.keys = ks := ⟨_, rfl⟩
 rw [hno, hks]
 have HKC : Hid (kc [k] = [.int .i64 no, .int .i64 ks]) := by show _ = _; rw [← hno, ← hks]; rfl
 clear hno hks
 have ga := World.grownBy_alloc w6 (.cells #[.int .i64 no, .int .i64 ks] 61) none
 have HS0 : Hid (Bo w (w6.alloc (.cells #[.int .i64 no, .int .i64 ks] 61)) R G w6.heap.size po pn zs P 0 1 s6 [] [k] (.slice none 0 0) (.slice (some ⟨w6.heap.size, 0, none⟩) 1 1) [] 0) :=
  ⟨D6.out.kept ga (by simp) (by simp), B6.out.keptN ga, ⟨rfl, .inl ⟨rfl, rfl⟩⟩, by rw [HKC.out]; exact owns_kid_new w6 w6.heap.size _ _ (Nat.le_refl _), Su.nil _ _ _, grown_trans G6.out (grown_any ga), ⟨D6.out.lt.1, D6.out.lt.2, G6.out.size, by simp⟩, fun ad e h => by obtain ⟨q, hq⟩ := PO.out h; rw [e] at hq; obtain rfl := Option.some.inj hq; rfl, rfl, by omega⟩
 clear ga D6 B6 G6
 go_wp2
 generalize w6.alloc (.cells #[.int .i64 no, .int .i64 ks] 61) = w7 at *
 obtain ⟨base, hbase⟩ : ∃ base, w6.heap.size = base := ⟨_, rfl⟩
 rw [hbase] at HS0
 rw [hbase]
 clear hbase
 have hcast : ((2 : Int) * ((N : Int) - 1)) = 2 * ((N : Int) - 1) := rfl
 clear hcast
 go_loopw [8, 9, 10, 11, 31] (fun sk ss _ _ si wr => ∃ (i : Nat) (st : Nat × Int) (M : List Sk) (xs : List Value) (top : Nat), i ≤ N ∧ si = .int .i64 i ∧ bLoop zs P (N - 1 - i) st M = BP ∧ M.length = i ∧ i ≤ N - 1 ∧ Bo w wr R G base po pn zs P i (i + 1) st (seps M) (kids k M) ss sk xs top) (fun _ _ _ _ si _ => N - (intOf si).toNat)
 case atStart => exact ⟨0, s6, [], [], 0, Nat.zero_le _, rfl, HPZ.out.symm, rfl, Nat.zero_le _, HS0.out⟩
 case round =>
  rename_i sk ss _ _ si wr
  obtain ⟨i, st, M, xs, top, hi', rfl, hsl, hml, hin1, hrn⟩ := hrel
  have HRN := hid_intro hrn
  have HSL := hid_intro hsl
  have HML := hid_intro hml
  clear hsl hrn HS0 HPZ hml
  by_cases hlt : i < N - 1
  ·have g1 : (i : Int) < (N : Int) - 1 := by omega
   have H8 := hid_intro (readString_any R G zs st wr HRN.out.rd hbt)
   have H9 := hid_intro (fun (W : World) (hW : Rd W R G zs (sKey zs [] st).2.1 (sKey zs [] st).2.2) => readKid_any R G zs (sKey zs [] st).2 W hW hbt)
   have HSS : Hid (BP = if (sK zs (sKey zs [] st).2).2.2 = 0 then bLoop zs P (N - 1 - (i + 1)) (sK zs (sKey zs [] st).2).2 (M ++ [⟨P ++ (sKey zs [] st).1, (sK zs (sKey zs [] st).2).1⟩]) else M ++ [⟨P ++ (sKey zs [] st).1, (sK zs (sKey zs [] st).2).1⟩]) := by
    show _ = _
    rw [← HSL.out, show N - 1 - i = (N - 1 - (i + 1)) + 1 by omega, bLoop]
    rfl
   clear HSL
   generalize (sK zs (sKey zs [] st).2).2 = st2 at *
   generalize (sK zs (sKey zs [] st).2).1 = k' at *
   generalize (sKey zs [] st).2 = st1 at *
   generalize (sKey zs [] st).1 = X at *
   have HER := hid_intro (fun (W : World) (hW : Rd W R G zs st2.1 st2.2) => err_any R G zs st2.1 st2.2 W hW)
   go_wp2_with fail
   refine H8.out.mono ?_
   rintro en w8 ⟨⟨so, sn, rfl, hb8, hso, hsn⟩, hr8, hg8⟩
   have N8 := hid_intro (HRN.out.call hr8 hg8).raise
   have B8 := hid_intro hb8
   clear hb8 hso hr8 hg8 H8 HRN
   go_wp2_with fail
   refine (joined_any po pn pn P so sn sn X _ N8.out.pb B8.out (by omega) (by omega)).mono ?_
   rintro en w9 ⟨rfl, hr9, hg9⟩
   have N9 := hid_intro (N8.out.keptN hg9)
   have X9 := hid_intro hr9
   have hgb : base ≤ w8.heap.size := N8.out.far.2.2.2
   have hPX : Hid ((P ++ X).length = pn + sn) := by show _ = _; rw [List.length_append, N8.out.pb.len, B8.out.len]
   clear hr9 hg9 N8 B8
   generalize w8.heap.size = g at *
   go_wp2_with (at_builtin; refine wpList_append_own _ rfl _ _ 22 rfl base 26 i0 (.slice none 0 0) 1 24 Tryz.underlying22 hi hz0 hz1 hz2 rfl (by decide) _ i xs rfl (N9.out.own.alloc _) ⟨w9.heap.size, 0, none⟩ 1 1 [.slice (some ⟨g, 0, none⟩) (pn + sn) (pn + sn)] rfl rfl (cell_one_new _ _ _) (by intro u hu; simp at hu; subst hu; rfl) (by unfold maxLen; omega) (by omega) (by have := N9.out.far.2.2.2; simp; omega) ?_)
   intro v' w10 ho hg10 _
   have N10 := hid_intro ((N9.out.keptN (World.grownBy_alloc w9 _ none)).addSep (X9.out.keptN (World.grownBy_alloc w9 _ none)) hPX.out hgb (by omega) (Nat.le_refl _) ho hg10)
   clear ho hg10 N9 X9
   go_wp2_with fail
   refine (H9.out _ N10.out.rd).mono ?_
   rintro en w11 ⟨rfl, hr11, hg11⟩
   have N11 := hid_intro (N10.out.call hr11 hg11)
   clear hr11 hg11 N10 H9
   obtain ⟨no', hno⟩ : ∃ no', k'.no = no' := ⟨_, rfl⟩
   obtain ⟨ks', hks⟩ : ∃ ks', k'.keys = ks' := ⟨_, rfl⟩
   rw [hno, hks]
   have HNO := hid_intro hno
   have HKS := hid_intro hks
   clear hno hks
   go_wp2_with (at_builtin; refine wpList_append_own _ rfl _ _ 23 rfl base 61 i1 (.agg #[.int .i64 0, .int .i64 0]) 2 16 Tryz.underlying23 hi1 hy0 hy1 hy2 rfl (by decide) _ (i + 1) (kc (kids k M)) rfl (N11.out.own2.alloc _) ⟨w11.heap.size, 0, none⟩ 1 1 [.int .i64 no', .int .i64 ks'] rfl rfl (cell_two_new _ _ _ _) (by intro u hu; simp at hu; rcases hu with rfl | rfl <;> rfl) (by unfold maxLen; omega) (by omega) (by have := N11.out.far.2.2.2; simp; omega) ?_)
   intro v2' w12 ho hg12 _
   have N12 := hid_intro ((N11.out.keptN (World.grownBy_alloc w11 _ none)).addKid k' (by rw [HNO.out, HKS.out]; exact ho) hg12)
   clear ho hg12 N11
   go_wp2_with fail
   refine (HER.out _ N12.out.rd).mono ?_
   rintro en w13 ⟨rfl, hq13⟩
   have N13 := hid_intro (N12.out.keptN (hq13.grown none))
   clear hq13 N12 HER
   have HE1 : Hid (seps M ++ [P ++ X] = seps (M ++ [⟨P ++ X, k'⟩])) := by show _ = _; unfold seps; simp
   have HE2 : Hid (kids k M ++ [k'] = kids k (M ++ [⟨P ++ X, k'⟩])) := by show _ = _; unfold kids; simp
   rw [HE1.out, HE2.out] at N13
   obtain ⟨pp, ee⟩ := st2
   by_cases he : ee = 0
   ·subst he
    have HSS1 := hid_intro (HSS.out.trans (if_pos rfl))
    clear HSS
    go_wp2
    go_roundw
    case rel => exact ⟨i + 1, (pp, 0), _, _, _, by omega, by go_num, HSS1.out.symm, by simp [HML.out], by omega, N13.out⟩
    case measure => simp [intOf]; omega
   ·have HSS1 := hid_intro (HSS.out.trans (if_neg he))
    clear HSS
    obtain ⟨a, cap, e1, e2, e3, e4, e5⟩ := N13.out.sv.sv.lz N13.out.own
    obtain ⟨b, cap2, f1, f2, f3, f4, f5⟩ := kc_kl N13.out.own2
    have GR := hid_intro N13.out.gr
    subst e1 f1
    have HBP : Hid (Bp w w13 a (i + 1) cap b (i + 1 + 1) cap2 (seps (M ++ [⟨P ++ X, k'⟩])) (kids k (M ++ [⟨P ++ X, k'⟩]))) := ⟨base, _, _, N13.out.far.2.2.1, N13.out.own, N13.out.sv, N13.out.own2⟩
    have HE := hid_intro e2
    have HF := hid_intro f2
    have HLN : Hid (BP.length = i + 1) := by show _ = _; rw [HSS1.out]; simp [HML.out]
    clear e2 f2 e3 f3 N13
    go_wp2
    (try simp only [Exit.inBlock, Exit.then]); refine bodyPost_ret (results_tmp3 rfl _ _ _) rfl ?_
    rw [HSS1.out] at *
    exact ⟨⟨a, i + 1, cap, b, i + 1 + 1, cap2, rfl, HE.out, HF.out, HLN.out, rfl, e4, e5, f4, f5, HBP.out⟩, GR.out⟩
  ·have hin : N - 1 = i := by omega
   have g1 : ¬ (i : Int) < (N : Int) - 1 := by omega
   have HSL1 : Hid (M = BP) := by
    have := HSL.out
    rw [hin, Nat.sub_self] at this
    exact this
   obtain ⟨a, cap, e1, e2, e3, e4, e5⟩ := HRN.out.sv.sv.lz HRN.out.own
   obtain ⟨b, cap2, f1, f2, f3, f4, f5⟩ := kc_kl HRN.out.own2
   have GR := hid_intro HRN.out.gr
   subst e1 f1
   have HBP : Hid (Bp w wr a i cap b (i + 1) cap2 (seps M) (kids k M)) := ⟨base, _, _, HRN.out.far.2.2.1, HRN.out.own, HRN.out.sv, HRN.out.own2⟩
   have HE := hid_intro e2
   have HF := hid_intro f2
   clear e2 f2 e3 f3 HRN HSL
   go_wp2
   (try simp only [Exit.inBlock, Exit.then]); refine bodyPost_ret (results_tmp3 rfl _ _ _) rfl ?_
   rw [← HSL1.out]
   exact ⟨⟨a, i, cap, b, i + 1, cap2, rfl, HE.out, HF.out, HML.out, rfl, e4, e5, f4, f5, HBP.out⟩, GR.out⟩
set_option maxHeartbeats 1000000 in
set_option maxRecDepth 100000 in
theorem bdecode_bodyO (ao : Option Addr) (c : Nat) (zs : List Int) (w : World) (hb : Byt w ao 4092 c zs) (hbt : Bt zs) :
  Calls Tryz.prog 11 #[.slice ao 4092 c] w fun en w' => (∃ lv a n cap b m cap2 e L K, en = .returned (.tuple #[.int .i64 lv, .slice a n cap, .slice b m cap2, .int .i64 e]) ∧ Bdec zs lv L K e ∧ Lz w' a L ∧ Lb L ∧ L.length = n ∧ n ≤ cap ∧ cap ≤ 9223372036854775807 ∧ Kl w' b K ∧ K.length = m ∧ m ≤ cap2 ∧ cap2 ≤ 9223372036854775807 ∧ Bp w w' a n cap b m cap2 L K) ∧ w.grownBy w' none := by
 have hl := hb.len
 have HPL := hid_intro (bparse_len hbt)
 have HLB := hid_intro (bparse_lb hbt (by omega))
 have HPB : Hid (∀ lv k M, BGood zs lv k M → ((hLevel zs).1 : Int) = lv ∧ (hKid zs).1 = k ∧ bparse zs = M) := fun lv k M h => by have := bparse_body h; exact ⟨this.1, this.2.1, this.2.2.1⟩
 have HB := hid_intro hb
 clear hb
 go_enter Tryz.func11, Tryz.ntmps11
 go_wp2_with fail
 refine (newReader_any ao 4092 c zs _ HB.out (by omega)).mono ?_
 rintro en w1 ⟨R, rfl, hr1, hg1, hR⟩
 have D1 := hid_intro hr1
 have G1 := hid_intro hg1
 clear hr1 hg1
 go_wp2_with fail
 refine (bread_own R w.heap.size zs _ D1.out hbt (by omega)).mono ?_
 rintro en w3 ⟨⟨a, n, cap, b, m, cap2, rfl, hlz, hkl, hn, rfl, hnc, hcm, hmc, hcm2, hna⟩, hg3⟩
 have A3 := hid_intro (hna.from G1.out.size)
 clear hna
 have G3 := hid_intro (grown_new G1.out hg3 (by omega))
 have L3 := hid_intro hlz
 have K3 := hid_intro hkl
 have B3 := hid_intro (HB.out.keptN G3.out)
 have hn5 : n ≤ 4093 := by have := HPL.out; omega
 clear hlz hkl hg3 G1 D1 HPL
 generalize hpz : bparse zs = M at *
 generalize hlz : (hLevel zs).1 = lv at *
 generalize hkz : (hKid zs).1 = k at *
 clear hpz hlz hkz
 go_wp2_with fail
 refine (bencode_any (lv : Int) a n cap (seps M) b (n + 1) cap2 (kids k M) _ L3.out HLB.out (by rw [seps_len]; exact hn) (by omega) hnc hcm K3.out (by rw [kids_len, hn]) (by omega)).mono ?_
 rintro en w4 ⟨⟨bo, j, c', e, ys, rfl, hb4, hbe, hj4, hj5, hj6, _⟩, hg4⟩
 have B4 := hid_intro hb4
 have L4 := hid_intro (L3.out.keptN hg4)
 have A4 := hid_intro (A3.out.keptN hg4)
 have K4 := hid_intro (K3.out.keptN hg4)
 have Z4 := hid_intro (B3.out.keptN hg4)
 have G4 := hid_intro (grown_trans G3.out hg4)
 have HYB := hid_intro (hbe.bt HLB.out)
 have HBE := hid_intro hbe
 clear hb4 hg4 hbe L3 K3 B3 G3
 have HN2 : Hid (∀ lv' k' M', BGood zs lv' k' M' → e = 0 ∧ ys = zs) := by
  intro lv' k' M' h
  obtain ⟨rfl, rfl, rfl⟩ := HPB.out lv' k' M' h
  have he : e = 0 := HBE.out.code.trans h.1
  obtain ⟨k2, M2, h1, h2, h3⟩ := HBE.out.good he
  obtain ⟨rfl, rfl⟩ := branch_inj h1 h2
  exact ⟨he, h3.2.symm.trans h.2⟩
 by_cases he : e = 0
 ·by_cases hy : ys = zs
  ·have HGD : Hid (Bdec zs (lv : Int) (seps M) (kids k M) 0) := ⟨.inl rfl, fun _ => ⟨hl, k, M, rfl, rfl, by
    obtain ⟨k2, M2, h1, h2, h3⟩ := HBE.out.good he
    obtain ⟨rfl, rfl⟩ := branch_inj h1 h2
    rw [← hy]; exact h3⟩, fun h => absurd rfl h⟩
   subst he
   clear HBE HN2
   go_wp2_with fail
   refine (equal_yes _ _ _ _ _ _ _ _ _ B4.out Z4.out hy).mono ?_
   rintro en w5 ⟨rfl, rfl⟩
   clear hy
   go_wp2
   (try simp only [Exit.inBlock, Exit.then]); refine bodyPost_ret (results_tmp4 rfl _ _ _) rfl ?_
   exact ⟨⟨_, a, n, cap, b, n + 1, cap2, 0, seps M, kids k M, rfl, HGD.out, L4.out, HLB.out, by rw [seps_len]; exact hn, hnc, hcm, K4.out, by rw [kids_len, hn], hmc, hcm2, A4.out⟩, G4.out⟩
  ·have HND : Hid (Bdec zs 0 [] [] 50) := ⟨.inr rfl, (fun h => by cases h), fun _ => ⟨rfl, rfl, rfl, fun lv' k' M' h => hy (HN2.out lv' k' M' h).2⟩⟩
   subst he
   clear HBE HN2
   go_wp2_with fail
   refine (equal_no _ _ _ _ _ _ _ _ _ B4.out Z4.out HYB.out hbt hy).mono ?_
   rintro en w5 ⟨rfl, rfl⟩
   clear hy
   go_wp2
   (try simp only [Exit.inBlock, Exit.then]); refine bodyPost_ret (results_tmp4 rfl _ _ _) rfl ?_
   exact ⟨⟨0, none, 0, 0, none, 0, 0, 50, [], [], rfl, HND.out, Lz.zero _ _, (fun s hs => by cases hs), rfl, Nat.le_refl _, by omega, Kl.zero _ _, rfl, Nat.le_refl _, by omega, Bp.zero _ _⟩, G4.out⟩
 ·have HND : Hid (Bdec zs 0 [] [] 50) := ⟨.inr rfl, (fun h => by cases h), fun _ => ⟨rfl, rfl, rfl, fun lv' k' M' h => he (HN2.out lv' k' M' h).1⟩⟩
  clear HBE HN2
  go_wp2
  (try simp only [Exit.inBlock, Exit.then]); refine bodyPost_ret (results_tmp4 rfl _ _ _) rfl ?_
  exact ⟨⟨0, none, 0, 0, none, 0, 0, 50, [], [], rfl, HND.out, Lz.zero _ _, (fun s hs => by cases hs), rfl, Nat.le_refl _, by omega, Kl.zero _ _, rfl, Nat.le_refl _, by omega, Bp.zero _ _⟩, G4.out⟩
theorem bdecode_own (ao : Option Addr) (n c : Nat) (zs : List Int) (w : World) (hb : Byt w ao n c zs) (hbt : Bt zs) :
  Calls Tryz.prog 11 #[.slice ao n c] w fun en w' => (∃ lv a n cap b m cap2 e L K, en = .returned (.tuple #[.int .i64 lv, .slice a n cap, .slice b m cap2, .int .i64 e]) ∧ Bdec zs lv L K e ∧ Lz w' a L ∧ Lb L ∧ L.length = n ∧ n ≤ cap ∧ cap ≤ 9223372036854775807 ∧ Kl w' b K ∧ K.length = m ∧ m ≤ cap2 ∧ cap2 ≤ 9223372036854775807 ∧ Bp w w' a n cap b m cap2 L K) ∧ w.grownBy w' none := by
 have hl := hb.len
 by_cases h : n = 4092
 ·subst h
  exact bdecode_bodyO ao c zs w hb hbt
 ·refine (bdecode_len ao n c w h).mono ?_
  rintro en w' ⟨rfl, rfl⟩
  exact ⟨⟨0, none, 0, 0, none, 0, 0, 50, [], [], rfl, ⟨.inr rfl, (fun h => by cases h), fun _ => ⟨rfl, rfl, rfl, fun lv' k' M' hg => h (by rw [← hl]; exact hg.len)⟩⟩, Lz.zero _ _, (fun s hs => by cases hs), rfl, Nat.le_refl _, by omega, Kl.zero _ _, rfl, Nat.le_refl _, by omega, Bp.zero _ _⟩, World.grownBy.refl _ _⟩
end Go.Proofs.YtnfelndfpmnkmaaGreatDoor
