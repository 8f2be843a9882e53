import Derived.Test.YtlfhonlifgpnhaaLeafR7
namespace Go.Proofs.Ytlfhonlifgpnhaa
open Go.RowKit

/-- What holds at each round of the reference's reading. -/
structure Rq (w wr : World) (R G base : Nat) (po : Option Addr) (pn pc : Nat) (zs P : List Int) (i : Nat) (st : Nat × Int) (L : List It) (v : Value) (xs : List Value) : Prop where
  rd : Rr wr R G zs st.1 st.2
  pb : Byt wr po pn pc P
  own : wr.ownsRow base 48 4 v i xs
  iv : Iv wr R xs L
  gr : w.grownBy wr (some R)
  far : R < base ∧ G < base ∧ w.heap.size ≤ base ∧ base ≤ wr.heap.size
  hp : ∀ ad, po = some ad → 0 < pn → ad.block ≠ R ∧ ad.block < base
  len : L.length = i
theorem Rq.call {w wr w' : World} {R G base : Nat} {po : Option Addr} {pn pc : Nat} {zs P : List Int} {i : Nat} {st st' : Nat × Int} {L : List It} {v : Value} {xs : List Value} (h : Rq w wr R G base po pn pc zs P i st L v xs) (hr : Rr w' R G zs st'.1 st'.2) (hg : wr.grownBy w' (some R)) : Rq w w' R G base po pn pc zs P i st' L v xs := by
  have hne : v.ownBlock ≠ some R := fun e => by have := (h.own.lt R e).1; have := h.far.1; omega
  exact ⟨hr, h.pb.kept hg (fun ad e hn e2 => (h.hp ad e hn).1 (Option.some.inj e2)), h.own.kept hg (.inr hne), h.iv.kept hg (fun b hb _ e => hb (Option.some.inj e)), grown_trans h.gr hg, ⟨h.far.1, h.far.2.1, h.far.2.2.1, Nat.le_trans h.far.2.2.2 hg.size⟩, h.hp, h.len⟩
theorem Rq.keptN {w wr w' : World} {R G base : Nat} {po : Option Addr} {pn pc : Nat} {zs P : List Int} {i : Nat} {st : Nat × Int} {L : List It} {v : Value} {xs : List Value} (h : Rq w wr R G base po pn pc zs P i st L v xs) (hg : wr.grownBy w' none) : Rq w w' R G base po pn pc zs P i st L v xs :=
  h.call (h.rd.kept hg (by simp) (by simp)) (grown_any hg)
theorem Rq.app {w wr w' : World} {R G base : Nat} {po : Option Addr} {pn pc : Nat} {zs P : List Int} {i : Nat} {st : Nat × Int} {L : List It} {v v' : Value} {xs : List Value} {ao : Option Addr} {n c : Nat} {bo : Option Addr} {m d : Nat} {x : It} (h : Rq w wr R G base po pn pc zs P i st L v xs) (hx : Im wr R ao n c bo m d x)
    (ho : w'.ownsRow base 48 4 v' (i + 1) (xs ++ [.slice ao n c, .slice bo m d, .int .i64 x.size, .int .i64 x.first])) (hg : wr.grownBy w' v.ownBlock) : Rq w w' R G base po pn pc zs P (i + 1) st (L ++ [x]) v' (xs ++ [.slice ao n c, .slice bo m d, .int .i64 x.size, .int .i64 x.first]) := by
  have hb : ∀ k, k < base → some k ≠ v.ownBlock := fun k hk e => by have := (h.own.lt k e.symm).1; omega
  have hne : ∀ b, b ≠ R → U8 wr b → some b ≠ v.ownBlock := fun b _ hu => own_item_ne h.own b hu
  have hgr : w.grownBy w' (some R) := ⟨hg.os.trans h.gr.os, hg.tape.trans h.gr.tape, hg.output.trans h.gr.output, Nat.le_trans h.gr.size hg.size, fun k hk h1 => (hg.block k (Nat.lt_of_lt_of_le hk h.gr.size) (hb k (by have := h.far.2.2.1; omega))).trans (h.gr.block k hk h1)⟩
  exact ⟨h.rd.kept hg (hb R h.far.1) (hb G h.far.2.1), h.pb.kept hg (fun ad e hn => hb _ (h.hp ad e hn).2), ho, (h.iv.kept hg hne).snoc (hx.kept hg hne) _ _ rfl rfl, hgr, ⟨h.far.1, h.far.2.1, h.far.2.2.1, Nat.le_trans h.far.2.2.2 hg.size⟩, h.hp, by simp [h.len]⟩

theorem rChk_ok {s : Nat × Int} {x m : Nat} (h : (rChk s x m).2 = 0) : rChk s x m = s := by
  unfold rChk at h ⊢
  split at h
  · simp at h
  · rename_i h0
    rw [if_neg h0]
theorem rItem_ok {zs P : List Int} {s : Nat × Int} (hb : Bt zs) (h : (rItem zs P s).2.2 = 0) : s.1 + 2 ≤ (rItem zs P s).2.1 ∧ (rItem zs P s).2.1 ≤ max s.1 zs.length := by
  have e2 : rItem zs P s = sVal zs (rKey zs P s).1 ((sV zs (rKey zs P s).2).1, rChk (sV zs (rKey zs P s).2).2 (sV zs (rKey zs P s).2).1 524289) := rfl
  rw [e2] at h ⊢
  have h1 := sVal_ok (zs := zs) (key := (rKey zs P s).1) (t := ((sV zs (rKey zs P s).2).1, rChk (sV zs (rKey zs P s).2).2 (sV zs (rKey zs P s).2).1 524289)) h
  have q1 := rChk_ok h1.1
  simp only [q1] at h1 ⊢
  have h2 := sV_ok hb h1.1
  have e : (rKey zs P s).2 = (sB zs (rChk (sV zs s).2 (sV zs s).1 255) (i64 (sV zs s).1)).2 := rfl
  have h3 := sB_ok (zs := zs) (s := rChk (sV zs s).2 (sV zs s).1 255) (m := i64 (sV zs s).1) (by rw [← e]; exact h2.1)
  have q2 := rChk_ok h3.1
  rw [q2] at h3 e
  have h4 := sV_ok hb h3.1
  rw [e] at h2
  rw [e] at h1 ⊢
  omega
theorem rItem_ir {zs P : List Int} (s : Nat × Int) (hb : Bt zs) (hP : Bt P) (hl : P.length + zs.length ≤ 10000) : Ir (rItem zs P s).1 := by
  have h1 := sB_bt (zs := zs) (rChk (sV zs s).2 (sV zs s).1 255) (i64 (sV zs s).1) hb
  exact sVal_ir (zs := zs) (key := (rKey zs P s).1) ((sV zs (rKey zs P s).2).1, rChk (sV zs (rKey zs P s).2).2 (sV zs (rKey zs P s).2).1 524289) hb (hP.app h1.1) (by show (P ++ _).length ≤ _; rw [List.length_append]; omega) (sV_lt _ _ hb)
theorem rLoop_ir {zs P : List Int} (hb : Bt zs) (hP : Bt P) (hl : P.length + zs.length ≤ 10000) : ∀ (n : Nat) (s : Nat × Int) (acc : List It), (∀ x ∈ acc, Ir x) → ∀ x ∈ (rLoop zs P n s acc).1, Ir x
  | 0, _, _, h, x, hx => h x hx
  | n + 1, s, acc, h, x, hx => by
    rw [rLoop] at hx
    split at hx
    · refine rLoop_ir hb hP hl n _ _ (fun y hy => ?_) x hx
      rcases List.mem_append.1 hy with hy | hy
      · exact h y hy
      · obtain rfl := List.mem_singleton.1 hy
        exact rItem_ir s hb hP hl
    · exact h x hx
theorem rLoop_err {zs P : List Int} {n : Nat} {s : Nat × Int} {acc : List It} (h : s.2 ≠ 0) : rLoop zs P n s acc = (acc, s) := by
  cases n with
  | zero => rfl
  | succ n => rw [rLoop, if_neg h]
theorem rLoop_len {zs P : List Int} (hb : Bt zs) : ∀ (n : Nat) (s : Nat × Int) (acc : List It), s.1 ≤ zs.length → 2 * acc.length ≤ s.1 → (rLoop zs P n s acc).2.2 = 0 → 2 * (rLoop zs P n s acc).1.length ≤ zs.length
  | 0, s, acc, h1, h2, _ => by rw [rLoop]; simp only; omega
  | n + 1, s, acc, h1, h2, h => by
    by_cases h0 : s.2 = 0
    · rw [rLoop, if_pos h0] at h ⊢
      by_cases h3 : (rItem zs P s).2.2 = 0
      · have h4 := rItem_ok hb h3
        exact rLoop_len hb n _ _ (by omega) (by simp; omega) h
      · rw [rLoop_err h3] at h
        exact absurd h h3
    · rw [rLoop_err h0] at h
      exact absurd h h0
theorem head_one {zs : List Int} (h : zs.length = 4092) : (sN zs (0, 0) 1).2 = (sB zs (0, 0) 1).2 := by
  unfold sN sB
  rw [if_pos rfl, if_pos rfl, if_neg (by simp only; omega), if_neg (by simp only; omega)]
  rfl
theorem Dec.uniq {zs : List Int} {L M : List It} {e f : Int} (h : Dec zs L e) (g : Dec zs M f) : L = M ∧ e = f := by
  rcases h with ⟨rfl, h1, h2⟩ | ⟨rfl, rfl, h1⟩ <;> rcases g with ⟨rfl, g1, g2⟩ | ⟨rfl, rfl, g1⟩
  · exact ⟨good_one h1 g1, rfl⟩
  · exact absurd ⟨h1, h2⟩ (g1 L)
  · exact absurd ⟨g1, g2⟩ (h1 M)
  · exact ⟨rfl, rfl⟩
theorem rr_one (R G : Nat) (zs : List Int) (s : Nat × Int) (w : World) (h : Rr w R G zs s.1 s.2) (hbt : Bt zs) :
    Calls Try.prog 52 #[.pointer (some ⟨R, 0, none⟩), .int .i64 1] w fun en w' => en = .returned (.int .u64 ((sN zs s 1).1 : Nat)) ∧ Rr w' R G zs (sN zs s 1).2.1 (sN zs s 1).2.2 ∧ w.grownBy w' (some R) := rr_N R G zs s 1 w h hbt (by omega)
theorem rr_two (R G : Nat) (zs : List Int) (s : Nat × Int) (w : World) (h : Rr w R G zs s.1 s.2) (hbt : Bt zs) :
    Calls Try.prog 52 #[.pointer (some ⟨R, 0, none⟩), .int .i64 2] w fun en w' => en = .returned (.int .u64 ((sN zs s 2).1 : Nat)) ∧ Rr w' R G zs (sN zs s 2).2.1 (sN zs s 2).2.2 ∧ w.grownBy w' (some R) := rr_N R G zs s 2 w h hbt (by omega)

/-- What the reference's Decode leaves. -/
structure DecO (zs : List Int) (w : World) (en : Ending) (w' : World) : Prop where
  out : ∃ a n cap e L, en = .returned (.tuple #[.slice a n cap, .int .i64 e]) ∧ Dec zs L e ∧ Il w' a L ∧ Ib L ∧ L.length = n
  gr : w.grownBy w' none
theorem DecO.bad {zs : List Int} {w w' : World} (h : ∀ M, ¬ (Good zs M ∧ zs.length = 4092)) (hg : w.grownBy w' none) : DecO zs w (.returned (.tuple #[.slice none 0 0, .int .i64 40])) w' :=
  ⟨⟨none, 0, 0, 40, [], rfl, .inr ⟨rfl, rfl, h⟩, Il.zero _ _, (fun x hx => by cases hx), rfl⟩, hg⟩

set_option maxHeartbeats 4000000 in
set_option maxRecDepth 100000 in
theorem refDecode_body (ao : Option Addr) (c : Nat) (zs : List Int) (w : World) (hb : Byt w ao 4092 c zs) (hbt : Bt zs) :
    Calls Try.prog 35 #[.slice ao 4092 c] w fun en w' => DecO zs w en w' := by
  obtain ⟨i0, hi, hz0, hz1, hz2⟩ := info_parts info_item
  have hl := hb.len
  have HSP : Hid (∀ M, Good zs M → sPre zs ≤ 255) := fun M h => sPre_body h
  have HRB : Hid (∀ M, Good zs M → ∃ p, rRead zs = (M, (p, 0))) := fun M h => rRead_body h
  have HRD : Hid (rRead zs = rLoop zs (sB zs (sV zs (sN zs (sB zs (0, 0) 1).2 2).2).2 (i64 (sV zs (sN zs (sB zs (0, 0) 1).2 2).2).1)).1 (sN zs (sB zs (0, 0) 1).2 2).1 (sB zs (sB zs (sV zs (sN zs (sB zs (0, 0) 1).2 2).2).2 (i64 (sV zs (sN zs (sB zs (0, 0) 1).2 2).2).1)).2 ((2 * (sN zs (sB zs (0, 0) 1).2 2).1 : Nat) : Int)).2 []) := rfl
  have HSV : Hid (sPre zs = (sV zs (sN zs (sB zs (0, 0) 1).2 2).2).1) := rfl
  have HPS := hid_intro (sHead_bt hbt)
  have HPZ : Hid ((sHead zs).2.1 = (sB zs (sV zs (sN zs (sB zs (0, 0) 1).2 2).2).2 (i64 (sV zs (sN zs (sB zs (0, 0) 1).2 2).2).1)).1) := rfl
  have HPP := hid_intro (sHead_pl hbt)
  have HPQ : Hid ((sHead zs).2.2 = (sB zs (sB zs (sV zs (sN zs (sB zs (0, 0) 1).2 2).2).2 (i64 (sV zs (sN zs (sB zs (0, 0) 1).2 2).2).1)).2 ((2 * (sN zs (sB zs (0, 0) 1).2 2).1 : Nat) : Int)).2) := rfl
  rw [HPZ.out] at HPS
  rw [HPQ.out] at HPP
  clear HPZ HPQ
  have H1 := hid_intro (fun (R : Nat) (W : World) (hW : Rr W R w.heap.size zs 0 0) => rr_one R w.heap.size zs (0, 0) W hW hbt)
  rw [head_one hl] at H1
  generalize (sB zs (0, 0) 1).2 = s1 at *
  have H2 := hid_intro (fun (R : Nat) (W : World) (hW : Rr W R w.heap.size zs s1.1 s1.2) => rr_two R w.heap.size zs s1 W hW hbt)
  have hnl := sN_lt zs s1 2 hbt
  generalize (sN zs s1 2).2 = s2 at *
  generalize (sN zs s1 2).1 = N at *
  have hN : N < 65536 := hnl
  have H3 := hid_intro (fun (R : Nat) (W : World) (hW : Rr W R w.heap.size zs s2.1 s2.2) => rr_V R w.heap.size zs s2 W hW hbt)
  have hvl := sV_lt zs s2 hbt
  have hwr := i64_wrap hvl
  have HSM : Hid (∀ x, x ≤ 255 → i64 x = (x : Int)) := fun x h => i64_small (by omega)
  generalize (sV zs s2).2 = s3 at *
  generalize (sV zs s2).1 = pv at *
  have H4 := hid_intro (fun (R : Nat) (W : World) (hW : Rr W R w.heap.size zs s3.1 s3.2) => rr_B R w.heap.size zs s3 (i64 pv) W hW)
  generalize (sB zs s3 (i64 pv)).2 = s4 at *
  generalize (sB zs s3 (i64 pv)).1 = P at *
  have H5 := hid_intro (fun (R : Nat) (W : World) (hW : Rr W R w.heap.size zs s4.1 s4.2) => rr_B R w.heap.size zs s4 ((2 * N : Nat) : Int) W hW)
  generalize (sB zs s4 ((2 * N : Nat) : Int)).2 = s5 at *
  have hcast : ((2 * N : Nat) : Int) = 2 * (N : Int) := by omega
  rw [hcast] at H5
  have HIR := hid_intro (rLoop_ir hbt HPS.out.1 (by have := HPS.out.2; omega) N s5 [] (fun x hx => by cases hx))
  have HLN := hid_intro (rLoop_len (P := P) hbt N s5 [] HPP.out (by simp))
  have hPl := HPS.out.2
  rw [← HRD.out] at HIR HLN
  have HRD2 := hid_intro HRD.out.symm
  clear HRD hnl hcast
  have HB := hid_intro hb
  clear hb
  go_enter Try.func35, Try.ntmps35
  go_wp2_with fail
  refine (refNew_any ao 4092 c zs _ HB.out (by omega)).mono ?_
  rintro en w1 ⟨R, rfl, hr1, hg1, hR⟩
  have G1 := hid_intro hg1
  have D1 := hid_intro hr1
  have hG0 : w.heap.size ≤ R := by omega
  clear hg1 hr1
  generalize hGG : w.heap.size = G at *
  have HGG := hid_intro hGG
  clear hGG
  go_wp2_with fail
  refine (H1.out R _ D1.out).mono ?_
  rintro en w2 ⟨rfl, hr2, hg2⟩
  have D2 := hid_intro hr2
  have G2 := hid_intro hg2
  clear hr2 hg2 H1 D1
  go_wp2_with fail
  refine (H2.out R _ D2.out).mono ?_
  rintro en w3 ⟨rfl, hr3, hg3⟩
  have D3 := hid_intro hr3
  have G3 := hid_intro (grown_trans G2.out hg3)
  clear hr3 hg3 H2 D2 G2
  go_wp2_with fail
  refine (H3.out R _ D3.out).mono ?_
  rintro en w4 ⟨rfl, hr4, hg4⟩
  have D4 := hid_intro hr4
  have G4 := hid_intro (grown_trans G3.out hg4)
  clear hr4 hg4 H3 D3 G3
  have GW4 : Hid (w.grownBy w4 none) := grown_new G1.out G4.out (by rw [HGG.out]; omega)
  by_cases hp : 255 < pv
  · have hp' : (255 : Int) < (pv : Int) := by omega
    have HN : Hid (∀ M, ¬ (Good zs M ∧ zs.length = 4092)) := by
      rintro M ⟨h1, _⟩
      have := HSP.out M h1
      rw [HSV.out] at this
      omega
    go_wp2
    go_ret2
    exact DecO.bad HN.out GW4.out
  · have hp' : ¬ (255 : Int) < (pv : Int) := by omega
    have hpi := HSM.out pv (by omega)
    rw [hpi] at H4
    go_wp2_with fail
    refine (H4.out R _ D4.out).mono ?_
    rintro en w5 ⟨⟨po, pn, pc, rfl, hb5, hpn, hpc, _, hpu⟩, hr5, hg5⟩
    have D5 := hid_intro hr5
    have G5 := hid_intro (grown_trans G4.out hg5)
    have B5 := hid_intro hb5
    have HPU : Hid (∀ ad, po = some ad → 0 < pn → ad.block ≠ R ∧ ad.block < w5.heap.size) := fun ad e hn => ⟨by have := (hpu ad e hn).1; have := D4.out.lt.1; omega, hb5.lt e hn⟩
    clear hr5 hg5 H4 D4 G4 hb5 hpu GW4 HSP HSV hwr hpi
    go_wp2_with fail
    refine (H5.out R _ D5.out).mono ?_
    rintro en w6 ⟨⟨qo, qn, qc, rfl, _, _, _, _, _⟩, hr6, hg6⟩
    have hl6 := hr6.lt
    have hs6 := hg6.size
    have HS0 : Hid (Rq w1 w6 R G w6.heap.size po pn pc zs P 0 s5 [] (.slice none 0 0) []) :=
      ⟨hr6, B5.out.kept hg6 (fun ad e hn e2 => (HPU.out ad e hn).1 (Option.some.inj e2)), ⟨rfl, .inl ⟨rfl, rfl⟩⟩, Iv.nil _ _, grown_trans G5.out hg6, ⟨hl6.1, hl6.2, (grown_trans G5.out hg6).size, Nat.le_refl _⟩, fun ad e hn => ⟨(HPU.out ad e hn).1, by have := (HPU.out ad e hn).2; omega⟩, rfl⟩
    clear hr6 hg6 H5 D5 B5 G5 hl6 hs6 HPU
    generalize w6.heap.size = base at *
    go_wp2
    go_loopw [8, 9, 10] (fun sl si _ wr => ∃ (i : Nat) (st : Nat × Int) (L : List It) (xs : List Value), i ≤ N ∧ si = .int .i64 i ∧ rLoop zs P (N - i) st L = rRead zs ∧ Rq w1 wr R G base po pn pc zs P i st L sl xs) (fun _ si _ _ => N - (intOf si).toNat)
    case atStart => exact ⟨0, s5, [], [], Nat.zero_le _, rfl, HRD2.out, HS0.out⟩
    case round =>
      rename_i sl si _ wr
      obtain ⟨i, st, L, xs, hi', rfl, hsl, hrq⟩ := hrel
      have HRQ := hid_intro hrq
      have HSL := hid_intro hsl
      clear hsl hrq HS0 HRD2
      obtain ⟨c0, c1, c2, f1, f2⟩ := HRQ.out.rd.cells
      by_cases hlt : i < N
      · have k1 : (i : Int) < (N : Int) := by omega
        by_cases hst : st.2 = 0
        · have HIT := hid_intro (ritem_any R G zs st po pn pc P wr HRQ.out.rd hbt HRQ.out.pb (fun ad e hn => (HRQ.out.hp ad e hn).1) (by omega) (by omega))
          have HSS : Hid (rLoop zs P (N - (i + 1)) (rItem zs P st).2 (L ++ [(rItem zs P st).1]) = rRead zs) := by
            show _ = _
            rw [← HSL.out, show N - i = (N - (i + 1)) + 1 by omega, rLoop, if_pos hst]
          clear HSL
          rw [hst] at c2
          generalize (rItem zs P st).2 = st' at *
          generalize (rItem zs P st).1 = it at *
          go_wp2_with fail
          refine HIT.out.mono ?_
          rintro en w7 ⟨⟨ko, kn, kc, vo, vn, vc, rfl, him⟩, hr7, hg7⟩
          have M7 := hid_intro him
          have N7 := hid_intro (HRQ.out.call hr7 hg7)
          clear him hr7 hg7 HIT HRQ c0 c1 c2 f1 f2
          obtain ⟨sz, hsz⟩ : ∃ sz, it.size = sz := ⟨_, rfl⟩
          obtain ⟨fs, hfs⟩ : ∃ fs, it.first = fs := ⟨_, rfl⟩
          rw [hsz, hfs]
          have HSZ := hid_intro hsz
          have HFS := hid_intro hfs
          clear hsz hfs
          have ga := World.grownBy_alloc w7 (.cells #[.slice ko kn kc, .slice vo vn vc, .int .i64 sz, .int .i64 fs] 48) none
          have N8 := hid_intro (N7.out.keptN ga)
          have M8 := hid_intro (M7.out.kept ga (fun _ _ _ => by simp))
          have hsz8 : w7.heap.size < (w7.alloc (.cells #[.slice ko kn kc, .slice vo vn vc, .int .i64 sz, .int .i64 fs] 48)).heap.size := by simp
          have X8 := hid_intro (Bx.new w7 (.slice ko kn kc) (.slice vo vn vc) (.int .i64 sz) (.int .i64 fs))
          obtain ⟨x0, x1, x2, x3⟩ := X8.out.cells
          clear ga N7 M7
          go_upto_region 16 with fail
          clear hsz8
          generalize w7.alloc (.cells #[.slice ko kn kc, .slice vo vn vc, .int .i64 sz, .int .i64 fs] 48) = w8 at *
          generalize w7.heap.size = T at *
          go_wp2_with (at_builtin; refine wpList_append_own _ rfl _ _ 22 rfl base 48 i0 (.agg #[.slice none 0 0, .slice none 0 0, .int .i64 0, .int .i64 0]) 4 64 Try.underlying22 hi hz0 hz1 hz2 rfl (by decide) _ i xs rfl (N8.out.own.alloc _) ⟨w8.heap.size, 0, none⟩ 1 1 [.slice ko kn kc, .slice vo vn vc, .int .i64 sz, .int .i64 fs] rfl rfl (cell_four_new _ _ _ _ _ _) (by intro u hu; simp at hu; rcases hu with rfl | rfl | rfl | rfl <;> rfl) (by unfold maxLen; omega) (by omega) (by have := N8.out.far.2.2.2; simp; omega) ?_)
          intro v' w10 ho hg10 _
          have N10 : Hid (Rq w1 w10 R G base po pn pc zs P (i + 1) st' (L ++ [it]) v' (xs ++ [.slice ko kn kc, .slice vo vn vc, .int .i64 it.size, .int .i64 it.first])) :=
            (N8.out.keptN (World.grownBy_alloc w8 _ none)).app (M8.out.kept (World.grownBy_alloc w8 _ none) (fun _ _ _ => by simp)) (by rw [HSZ.out, HFS.out]; exact ho) hg10
          clear ho hg10 N8 M8 X8 x0 x1 x2 x3
          go_wp2
          go_roundw
          case rel => exact ⟨i + 1, st', L ++ [it], _, by omega, by go_num, HSS.out, N10.out⟩
          case measure => simp [intOf]; omega
        · have HN : Hid (∀ M, ¬ (Good zs M ∧ zs.length = 4092)) := by
            rintro M ⟨h1, _⟩
            obtain ⟨p, hp2⟩ := HRB.out M h1
            have h3 := HSL.out
            rw [rLoop_err hst, hp2] at h3
            injection h3 with _ h4
            rw [h4] at hst
            exact hst rfl
          obtain ⟨s1', e9⟩ := st
          simp only at hst c1 c2
          have d1 : (e9 == 0) = false := beq_eq_false_iff_ne.2 hst
          have GW : Hid (w.grownBy wr none) := grown_new G1.out HRQ.out.gr (by rw [HGG.out]; omega)
          clear HSL HRQ
          go_wp2
          go_ret2
          exact DecO.bad HN.out GW.out
      · have hin : i = N := by omega
        subst hin
        have k1 : ¬ (i : Int) < (i : Int) := by omega
        have GW : Hid (w.grownBy wr none) := grown_new G1.out HRQ.out.gr (by rw [HGG.out]; omega)
        have HRR : Hid (rRead zs = (L, st)) := by
          have h3 := HSL.out
          rw [Nat.sub_self] at h3
          exact h3.symm
        by_cases hst : st.2 = 0
        · obtain ⟨a, cap, e1, e2, e3, e4, e5⟩ := HRQ.out.iv.il HRQ.out.own
          subst e1
          have L9 := hid_intro e2
          have HIB : Hid (Ib L) := fun x hx => by
            have := HIR.out
            rw [HRR.out] at this
            exact (this x hx).b
          have hi5 : i ≤ 5000 := by
            have := HLN.out
            rw [HRR.out] at this
            have := this hst
            simp only at this
            omega
          have HPB : Hid (∀ M, Good zs M → L = M) := fun M h1 => by
            obtain ⟨p, hp2⟩ := HRB.out M h1
            have h3 := HRR.out
            rw [hp2] at h3
            injection h3 with h4 _
            exact h4.symm
          obtain ⟨s1', e9⟩ := st
          simp only at hst c1 c2
          subst hst
          clear e2 HSL HRQ HRR HIR HLN HRB
          go_wp2_with fail
          refine (refEncode_any a i cap L _ L9.out HIB.out e3 hi5).mono ?_
          rintro en w11 ⟨⟨bo, k, c', rfl, hb11, hk11⟩, hg11⟩
          have B11 := hid_intro hb11
          have L11 := hid_intro (L9.out.keptN hg11)
          have G11 := hid_intro (grown_trans GW.out hg11)
          have Z11 := hid_intro (HB.out.keptN G11.out)
          have HEB := hid_intro (enc_bt HIB.out)
          have HEQ := hid_intro (enc_good zs L)
          clear hb11 hg11 L9 GW c0 c1 c2 f1 f2
          generalize (enc L).2 = e at *
          generalize (enc L).1 = ys at *
          by_cases hy : ys = zs
          · go_wp2_with fail
            refine (same_yes _ _ _ _ _ _ _ _ _ B11.out Z11.out hy).mono ?_
            rintro en w12 ⟨rfl, rfl⟩
            by_cases he : e = 0
            · subst he
              have HGD := hid_intro (HEQ.out.1 ⟨hy, rfl⟩)
              clear hy HEQ
              go_wp2
              go_ret2
              exact ⟨⟨a, i, cap, 0, L, rfl, .inl ⟨rfl, HGD.out, hl⟩, L11.out, HIB.out, e3⟩, G11.out⟩
            · have HND : Hid (∀ M, ¬ (Good zs M ∧ zs.length = 4092)) := by
                rintro M ⟨h1, _⟩
                obtain rfl := HPB.out M h1
                exact he (HEQ.out.2 h1).2
              have d1 : (e == 0) = false := beq_eq_false_iff_ne.2 he
              clear hy HEQ
              go_wp2
              go_ret2
              exact DecO.bad HND.out G11.out
          · have HND : Hid (∀ M, ¬ (Good zs M ∧ zs.length = 4092)) := by
              rintro M ⟨h1, _⟩
              obtain rfl := HPB.out M h1
              exact hy (HEQ.out.2 h1).1
            clear HEQ
            go_wp2_with fail
            refine (same_no _ _ _ _ _ _ _ _ _ B11.out Z11.out HEB.out hbt hy).mono ?_
            rintro en w12 ⟨rfl, rfl⟩
            clear hy
            by_cases he : e = 0
            · subst he
              go_wp2
              go_ret2
              exact DecO.bad HND.out G11.out
            · have d1 : (e == 0) = false := beq_eq_false_iff_ne.2 he
              go_wp2
              go_ret2
              exact DecO.bad HND.out G11.out
        · have HN : Hid (∀ M, ¬ (Good zs M ∧ zs.length = 4092)) := by
            rintro M ⟨h1, _⟩
            obtain ⟨p, hp2⟩ := HRB.out M h1
            have h3 := HRR.out
            rw [hp2] at h3
            injection h3 with _ h4
            rw [← h4] at hst
            exact hst rfl
          obtain ⟨s1', e9⟩ := st
          simp only at hst c1 c2
          have d1 : (e9 == 0) = false := beq_eq_false_iff_ne.2 hst
          clear HSL HRQ HRR
          go_wp2
          go_ret2
          exact DecO.bad HN.out GW.out

set_option maxHeartbeats 1000000 in
set_option maxRecDepth 100000 in
theorem refDecode_any (ao : Option Addr) (n c : Nat) (zs : List Int) (w : World) (hb : Byt w ao n c zs) (hbt : Bt zs) :
    Calls Try.prog 35 #[.slice ao n c] w fun en w' => DecO zs w en w' := by
  by_cases h : n = 4092
  · subst h
    exact refDecode_body ao c zs w hb hbt
  · have HN : Hid (∀ M, ¬ (Good zs M ∧ zs.length = 4092)) := fun M hm => h (by rw [← hb.len]; exact hm.2)
    clear hb
    go_enter Try.func35, Try.ntmps35
    go_wp2
    go_ret2
    exact DecO.bad HN.out (World.grownBy.refl _ _)
end Go.Proofs.Ytlfhonlifgpnhaa
