import Derived.Test.YtpoflmcmlnghhaaPl6
namespace Go.Proofs.Ytpoflmcmlnghhaa
open Go.RowKit Go.Maps

theorem grown_fr {a b c : World} {F : Nat → Prop} (h : a.grownBy b none) (k : Fr b c F) (hF : ∀ i, F i → a.heap.size ≤ i) : a.grownBy c none :=
  ⟨k.os.trans h.os, k.tape.trans h.tape, k.output.trans h.output, Nat.le_trans h.size k.size, fun i hi _ => (k.block i (Nat.lt_of_lt_of_le hi h.size) (fun e => by have := hF i e; omega)).trans (h.block i hi (by simp))⟩
theorem Nt.lit (w : World) (e : TypeId) (cs : Array Value) (zs : List Int) (h : cs = (zs.map (Value.int .i64)).toArray) : Nt (w.alloc (.cells cs e)) (some ⟨w.heap.size, 0, none⟩) zs := by
  subst h
  refine ⟨fun i hi => ⟨w.heap.size, 0, rfl, ?_⟩⟩
  rw [Nat.zero_add]
  have := cell_of_row (w.alloc (.cells (zs.map (Value.int .i64)).toArray e)) w.heap.size i _ e (0, 0) (heap_alloc_new w _)
  rw [this]
  simp [List.getD, List.getElem?_eq_getElem hi]
theorem own_fr {w w' : World} {base sz n : Nat} {e : TypeId} {v : Value} {xs : List Value} {F : Nat → Prop} (h : w.ownsRow base e sz v n xs) (hf : Fr w w' F) (hne : ∀ g, v.ownBlock = some g → ¬ F g) : w'.ownsRow base e sz v n xs := by
  refine ⟨h.1, ?_⟩
  rcases h.2 with h0 | ⟨g, cap, cur, rfl, hb, hc, r⟩
  · exact .inl h0
  · exact .inr ⟨g, cap, cur, rfl, hb, (hf.block g (Array.getElem?_eq_some_iff.1 hc).1 (hne g rfl)).trans hc, r⟩
theorem sameI_yes (a : Option Addr) (n cap : Nat) (a' : Option Addr) (n' cap' : Nat) (L : List Int) (w : World) (hl : Nt w a L) (hn : L.length = n) (hl' : Nt w a' L) (hn' : L.length = n') (hm : n ≤ 9223372036854775807) :
    Calls Try.prog 26 #[.slice a n cap, .slice a' n' cap'] w fun en w' => en = .returned (.bool true) ∧ Qt w w' := by
  refine (sameInts_any a n cap L a' n' cap' L w hl hn hl' hn' hm).mono ?_
  rintro en w' ⟨⟨b, rfl, hb⟩, hq⟩
  exact ⟨by rw [hb.2 rfl], hq⟩
theorem Pl.low {w : World} {B s q : Nat} {p : Po} (h : Pl w B s q p) : ∀ i, Bk B s q i → i < w.heap.size := by
  rintro i (rfl | rfl | rfl)
  · exact h.lt
  · exact h.ms.lt
  · exact h.mq.lt

def p0 : Po := newP 10 12 [3, 5, 6]
def p1 : Po := cmP p0 1 [4, 9] 7
def p2 : Po := { p1 with q := pinQ p1.q 6 }
def p3 : Po := { p2 with q := unQ p2.q 6 }
theorem p0_new : newOk 10 12 [3, 5, 6] = true := by decide
theorem p0_ok : Ok p0 := ⟨by decide, by decide, by decide, by decide⟩
theorem p0_rm : rm p0 = 5 := by decide +kernel
theorem p0_ls : lsP p0 1 [] = 1 := by decide +kernel
theorem p0_ls2 : lsP p0 1 [4, 9] = 1 := by decide +kernel
theorem p0_n : cmN p0 1 [4, 9] = 2 := by decide +kernel
theorem p0_t : tkn p0 2 = [3, 5] := by decide +kernel
theorem p1_ok : Ok p1 := ⟨by decide +kernel, by decide +kernel, by decide +kernel, by decide +kernel⟩
theorem p1_g : getI p1.q 6 = 0 := by decide +kernel
theorem p1_ql : p1.q.length = 0 := by decide +kernel
theorem p2_us : us p2 = [6] := by decide +kernel
theorem p2_l : p2.l.length = 3 := by decide +kernel
theorem p2_g : getI p2.q 6 = 1 := by decide +kernel
theorem p2_ql : p2.q.length = 1 := by decide +kernel
theorem p3_g : getI p3.q 6 = 0 := by decide +kernel
theorem p3_l : p3.l.map (·.1) = [4, 6, 9] := by decide +kernel
theorem p3_ll : p3.l.length = 3 := by decide +kernel
theorem p3_c : p3.c = 10 := by decide +kernel
theorem p3_ok : Ok p3 := ⟨by decide +kernel, by decide +kernel, by decide +kernel, by decide +kernel⟩
theorem p3_ls : lsP p3 0 [4] = -1 := by decide +kernel

set_option maxHeartbeats 4000000 in
set_option maxRecDepth 100000 in
theorem first17_any (w : World) : Calls Try.prog 7 #[] w fun e w' => e = .returned (.bool true) ∧ w.grownBy w' none := by
  go_enter Try.func7, Try.ntmps7
  go_wp2_with fail
  have ga := World.grownBy_alloc w (.cells #[.int .i64 3, .int .i64 5, .int .i64 6] 3) none
  have la := Nt.lit w 3 #[.int .i64 3, .int .i64 5, .int .i64 6] [3, 5, 6] rfl
  generalize w.alloc (.cells #[.int .i64 3, .int .i64 5, .int .i64 6] 3) = w1 at *
  refine (new_yes 10 12 _ 3 3 [3, 5, 6] w1 la rfl (by omega) p0_new).mono ?_
  rintro en w2 ⟨B, s, q, rfl, hp, hg, hb⟩
  have HP := hid_intro (show Pl w2 B s q p0 from hp)
  have HG := hid_intro (grown_trans ga hg)
  have HB : Hid (∀ i, Bk B s q i → w.heap.size ≤ i) := fun i hi => Nat.le_trans ga.size (hb i hi)
  clear ga la hp hg hb w1
  go_wp2_with fail
  refine (room_any HP.out p0_ok).mono ?_
  rw [p0_rm]
  rintro en w1 ⟨rfl, hg⟩
  have HP1 := hid_intro (HP.out.keptN hg)
  have HG1 := hid_intro (grown_trans HG.out hg)
  clear hg HP HG w2
  go_wp2_with fail
  refine (lists_any HP1.out p0_ok 1 none 0 0 [] (Nt.zero _ _) rfl Wf.nil (by omega) (by omega)).mono ?_
  rw [p0_ls]
  rintro en w2 ⟨rfl, hg⟩
  have HP := hid_intro (HP1.out.keptN hg)
  have HG := hid_intro (grown_trans HG1.out hg)
  clear hg HP1 HG1 w1
  go_wp2_with fail
  have ga := World.grownBy_alloc w2 (.cells #[.int .i64 4, .int .i64 9] 3) none
  have la := Nt.lit w2 3 #[.int .i64 4, .int .i64 9] [4, 9] rfl
  have HP1 := hid_intro (HP.out.keptN ga)
  have HG1 := hid_intro (grown_trans HG.out ga)
  have hlow := HP.out.low
  generalize w2.alloc (.cells #[.int .i64 4, .int .i64 9] 3) = w1 at *
  refine (commit_ok HP1.out p0_ok 1 (some ⟨w2.heap.size, 0, none⟩) 2 2 [4, 9] 7 la (fun ad e _ hb => by cases e; have := hlow _ hb; simp at this) rfl (fun x hx => by simp at hx; omega) (by omega) (by omega) (by omega) (by rw [p0_ls2]; omega) (by rw [p0_ls2, p0_rm]; omega) (by omega)).mono ?_
  rw [p0_n, p0_t]
  rintro en w3 ⟨u, rfl, ho, hp, hf⟩
  obtain ⟨ua, uc, rfl, hnt, -⟩ := owns_ints ho
  have HP3 := hid_intro (show Pl w3 B s q p1 from hp)
  have HG3 := hid_intro (grown_fr HG1.out hf HB.out)
  have HO := hid_intro ho
  have hs13 := hf.size
  clear ga la hlow HP HG HP1 HG1 hp hf ho hnt
  go_wp2_with fail
  refine (pin_any 6 HP3.out (by omega) (by rw [p1_g]; omega) (by rw [p1_g]; omega) (by rw [p1_ql]; omega)).mono ?_
  rintro en w4 ⟨rfl, hp, hf⟩
  have HP4 := hid_intro (show Pl w4 B s q p2 from hp)
  have HG4 := hid_intro (grown_fr HG3.out hf HB.out)
  have HO4 := hid_intro (own_fr HO.out hf (own_ne_pl HO.out HP3.out))
  clear hp hf HP3 HG3 HO
  go_wp2_with fail
  refine (usable_any HP4.out (by rw [p2_l]; omega)).mono ?_
  rw [p2_us]
  rintro en w5 ⟨v, rfl, ho, hg⟩
  obtain ⟨va, vc, rfl, hnt, -⟩ := owns_ints ho
  have HP5 := hid_intro (HP4.out.keptN hg)
  have HG5 := hid_intro (grown_trans HG4.out hg)
  have HO5 := hid_intro (own_kept5 HO4.out hg)
  have HV5 := hid_intro ho
  clear ho hg hnt HP4 HG4 HO4
  go_wp2_with fail
  refine (unpin_yes 6 HP5.out (by omega) (by rw [p2_g]; omega) (by rw [p2_ql]; omega)).mono ?_
  rintro en w6 ⟨rfl, hp, hf⟩
  have HP6 := hid_intro (show Pl w6 B s q p3 from hp)
  have HG6 := hid_intro (grown_fr HG5.out hf HB.out)
  have HO6 := hid_intro (own_fr HO5.out hf (own_ne_pl HO5.out HP5.out))
  have HV6 := hid_intro (own_fr HV5.out hf (own_ne_pl HV5.out HP5.out))
  clear hp hf HP5 HG5 HO5 HV5
  go_wp2_with fail
  refine (unpin_no 6 HP6.out (by omega) p3_g).mono ?_
  rintro en w6 ⟨rfl, rfl⟩
  go_wp2_with fail
  refine (free_any HP6.out (by rw [p3_ll]; omega)).mono ?_
  rw [p3_l, p3_ll]
  rintro en w7 ⟨x, rfl, ho, hg⟩
  obtain ⟨xa, xc, rfl, hnt, -⟩ := owns_ints ho
  have HP7 := hid_intro (HP6.out.keptN hg)
  have HG7 := hid_intro (grown_trans HG6.out hg)
  obtain ⟨ua', uc', e1, hnu, -⟩ := owns_ints (own_kept5 HO6.out hg)
  injection e1 with e1 _ e3
  subst e1 e3
  obtain ⟨va', vc', e1, hnv, -⟩ := owns_ints (own_kept5 HV6.out hg)
  injection e1 with e1 _ e3
  subst e1 e3
  have NU := hid_intro hnu
  have NV := hid_intro hnv
  have NX := hid_intro hnt
  clear ho hg hnt hnu hnv HP6 HG6 HO6 HV6
  go_wp2_with fail
  have ga := World.grownBy_alloc w7 (.cells #[.int .i64 3, .int .i64 5] 3) none
  have la := Nt.lit w7 3 #[.int .i64 3, .int .i64 5] [3, 5] rfl
  have HP8 := hid_intro (HP7.out.keptN ga)
  have HG8 := hid_intro (grown_trans HG7.out ga)
  have NU8 := hid_intro (NU.out.keptN ga)
  have NV8 := hid_intro (NV.out.keptN ga)
  have NX8 := hid_intro (NX.out.keptN ga)
  generalize w7.alloc (.cells #[.int .i64 3, .int .i64 5] 3) = w8 at *
  refine (sameI_yes _ 2 _ _ 2 _ [3, 5] w8 NU8.out rfl la rfl (by omega)).mono ?_
  rintro en w9 ⟨rfl, hq⟩
  have g9 := hq.grown none
  have HP9 := hid_intro (HP8.out.keptN g9)
  have HG9 := hid_intro (grown_trans HG8.out g9)
  have NV9 := hid_intro (NV8.out.keptN g9)
  have NX9 := hid_intro (NX8.out.keptN g9)
  clear ga la hq g9 HP7 HG7 HP8 HG8 NU NV NX NU8 NV8 NX8
  go_wp2_with fail
  have ga := World.grownBy_alloc w9 (.cells #[.int .i64 6] 3) none
  have la := Nt.lit w9 3 #[.int .i64 6] [6] rfl
  have HP10 := hid_intro (HP9.out.keptN ga)
  have HG10 := hid_intro (grown_trans HG9.out ga)
  have NV10 := hid_intro (NV9.out.keptN ga)
  have NX10 := hid_intro (NX9.out.keptN ga)
  generalize w9.alloc (.cells #[.int .i64 6] 3) = w10 at *
  refine (sameI_yes _ 1 _ _ 1 _ [6] w10 NV10.out rfl la rfl (by omega)).mono ?_
  rintro en w11 ⟨rfl, hq⟩
  have g11 := hq.grown none
  have HP11 := hid_intro (HP10.out.keptN g11)
  have HG11 := hid_intro (grown_trans HG10.out g11)
  have NX11 := hid_intro (NX10.out.keptN g11)
  clear ga la hq g11 HP9 HG9 NV9 NX9 HP10 HG10 NV10 NX10
  go_wp2_with fail
  have ga := World.grownBy_alloc w11 (.cells #[.int .i64 4, .int .i64 6, .int .i64 9] 3) none
  have la := Nt.lit w11 3 #[.int .i64 4, .int .i64 6, .int .i64 9] [4, 6, 9] rfl
  have HP12 := hid_intro (HP11.out.keptN ga)
  have HG12 := hid_intro (grown_trans HG11.out ga)
  have NX12 := hid_intro (NX11.out.keptN ga)
  generalize w11.alloc (.cells #[.int .i64 4, .int .i64 6, .int .i64 9] 3) = w12 at *
  refine (sameI_yes _ 3 _ _ 3 _ [4, 6, 9] w12 NX12.out rfl la rfl (by omega)).mono ?_
  rintro en w13 ⟨rfl, hq⟩
  have g13 := hq.grown none
  have HP13 := hid_intro (HP12.out.keptN g13)
  have HG13 := hid_intro (grown_trans HG12.out g13)
  clear ga la hq g13 HP11 HG11 NX11 HP12 HG12 NX12
  go_wp2_with fail
  have ga := World.grownBy_alloc w13 (.cells #[.int .i64 4] 3) none
  have la := Nt.lit w13 3 #[.int .i64 4] [4] rfl
  have HP14 := hid_intro (HP13.out.keptN ga)
  have HG14 := hid_intro (grown_trans HG13.out ga)
  generalize w13.alloc (.cells #[.int .i64 4] 3) = w14 at *
  refine (commit_pool HP14.out p3_ok 0 _ 1 1 [4] 8 la rfl (fun x hx => by simp at hx; omega) (by omega) (by omega) p3_ls).mono ?_
  rintro en w15 ⟨rfl, hg⟩
  have HP15 := hid_intro (HP14.out.keptN hg)
  have HG15 := hid_intro (grown_trans HG14.out hg)
  have HC := hid_intro (count_any HP15.out)
  rw [p3_c] at HC
  clear ga la hg HP13 HG13 HP14 HG14
  go_wp2_with (first
    | (go_at_call 27; refine (num17_any _ _).mono ?_; rintro en w15 ⟨rfl, rfl⟩)
    | (go_at_call 20; refine HC.out.mono ?_; rintro en w15 ⟨rfl, rfl⟩))
  go_ret
  exact ⟨rfl, HG15.out⟩
end Go.Proofs.Ytpoflmcmlnghhaa
