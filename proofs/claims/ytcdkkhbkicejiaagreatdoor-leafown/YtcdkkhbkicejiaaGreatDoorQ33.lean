import Derived.Test.YtcdkkhbkicejiaaGreatDoorQ21
namespace Go.Proofs.YtcdkkhbkicejiaaGreatDoor
open Go.RowKit
theorem sV_up (zs : List Int) (s : Nat × Int) : s.1 ≤ (sV zs s).2.1 := by
 unfold sV
 split
 ·split
  ·simp
  ·exact Nat.le_refl _
 ·exact Nat.le_refl _
theorem sB_up (zs : List Int) (s : Nat × Int) (m : Int) : s.1 + (sB zs s m).1.length ≤ (sB zs s m).2.1 := by
 unfold sB
 split
 ·split
  ·simp
  ·simp only [List.length_take, List.length_drop]
   omega
 ·simp
theorem sN_up (zs : List Int) (s : Nat × Int) (k : Nat) : s.1 ≤ (sN zs s k).2.1 := by
 unfold sN
 split
 ·split
  ·exact Nat.le_refl _
  ·simp
 ·exact Nat.le_refl _
theorem sKey_up (zs P : List Int) (s : Nat × Int) : s.1 ≤ (sKey zs P s).2.1 := by
 have h1 := sV_up zs s
 have h2 := sB_up zs (sV zs s).2 (i64 (sV zs s).1)
 unfold sKey
 simp only
 omega
structure Imo (w : World) (R G lo p0 p1 g n : Nat) (bo : Option Addr) (m p : Nat) (x : It) : Prop where
 key : Rw w g x.key
 kn : x.key.length = n
 kc : n ≤ 10000
 val : Byt w bo m m x.val
 vc : m ≤ 5000
 kb : g ≠ R ∧ g ≠ G ∧ lo ≤ g
 vb : 0 < m → bo = some ⟨G, p, none⟩
 gu : U8 w G ∧ G ≠ R
 vp : p0 ≤ p ∧ p + m ≤ p1
theorem Imo.kept {w w' : World} {R G lo p0 p1 g n : Nat} {bo : Option Addr} {m p : Nat} {x : It} {row : Option Nat} (h : Imo w R G lo p0 p1 g n bo m p x) (hg : w.grownBy w' row) (hne : ∀ b, b ≠ R → U8 w b → some b ≠ row) : Imo w' R G lo p0 p1 g n bo m p x :=
 ⟨h.key.kept hg (hne g h.kb.1 h.key.u8), h.kn, h.kc, h.val.kept hg (fun ad e hn => by have := h.vb hn; rw [e] at this; obtain rfl := Option.some.inj this; exact hne G h.gu.2 h.gu.1), h.vc, h.kb, h.vb, ⟨h.gu.1.kept hg (hne G h.gu.2 h.gu.1), h.gu.2⟩, h.vp⟩
structure Ivo (w : World) (R G lo pos : Nat) (xs : List Value) (L : List It) (kg kn vp vm : Nat → Nat) : Prop where
 len : xs.length = L.length * 4
 el : ∀ j, j < L.length → ∃ bo, xs[j * 4]? = some (.slice (some ⟨kg j, 0, none⟩) (kn j) (kn j)) ∧ xs[j * 4 + 1]? = some (.slice bo (vm j) (vm j)) ∧ xs[j * 4 + 2]? = some (.int .i64 (L.getD j it0).size) ∧ xs[j * 4 + 3]? = some (.int .i64 (L.getD j it0).first) ∧ Imo w R G lo 0 pos (kg j) (kn j) bo (vm j) (vp j) (L.getD j it0)
 kd : ∀ i j, i < j → j < L.length → kg i < kg j
 vd : ∀ i j, i < j → j < L.length → vp i + vm i ≤ vp j
theorem Ivo.nil (w : World) (R G lo pos : Nat) : Ivo w R G lo pos [] [] (fun _ => 0) (fun _ => 0) (fun _ => 0) (fun _ => 0) := ⟨rfl, fun j hj => by simp at hj, fun i j _ hj => by simp at hj, fun i j _ hj => by simp at hj⟩
theorem Ivo.kept {w w' : World} {R G lo pos : Nat} {xs : List Value} {L : List It} {kg kn vp vm : Nat → Nat} {row : Option Nat} (h : Ivo w R G lo pos xs L kg kn vp vm) (hg : w.grownBy w' row) (hne : ∀ b, b ≠ R → U8 w b → some b ≠ row) : Ivo w' R G lo pos xs L kg kn vp vm := by
 refine ⟨h.len, fun j hj => ?_, h.kd, h.vd⟩
 obtain ⟨bo, h1, h2, h3, h4, h5⟩ := h.el j hj
 exact ⟨bo, h1, h2, h3, h4, h5.kept hg hne⟩
theorem Ivo.snoc {w : World} {R G lo lo2 pos p0 p1 : Nat} {xs : List Value} {L : List It} {kg kn vp vm : Nat → Nat} {g n : Nat} {bo : Option Addr} {m p : Nat} {x : It} (h : Ivo w R G lo pos xs L kg kn vp vm) (hx : Imo w R G lo2 p0 p1 g n bo m p x) (hlo : lo ≤ lo2) (hnew : ∀ j, j < L.length → kg j < lo2) (hp : pos ≤ p0) (s f : Int) (hs : x.size = s) (hf : x.first = f) :
  Ivo w R G lo p1 (xs ++ [.slice (some ⟨g, 0, none⟩) n n, .slice bo m m, .int .i64 s, .int .i64 f]) (L ++ [x]) (fun j => if j = L.length then g else kg j) (fun j => if j = L.length then n else kn j) (fun j => if j = L.length then p else vp j) (fun j => if j = L.length then m else vm j) := by
 have hl := h.len
 have hk := hx.kb
 have hv := hx.vp
 refine ⟨by simp [hl]; omega, fun j hj => ?_, fun i j hij hj => ?_, fun i j hij hj => ?_⟩
 ·rw [List.length_append] at hj
  simp only [List.length_cons, List.length_nil] at hj
  by_cases e : j < L.length
  ·obtain ⟨b2, h1, h2, h3, h4, h5⟩ := h.el j e
   have eg : (L ++ [x]).getD j it0 = L.getD j it0 := by simp [List.getD, List.getElem?_append_left e]
   have ne : ¬ j = L.length := by omega
   rw [eg]
   simp only [if_neg ne]
   refine ⟨b2, ?_, ?_, ?_, ?_, ⟨h5.key, h5.kn, h5.kc, h5.val, h5.vc, h5.kb, h5.vb, h5.gu, ⟨Nat.zero_le _, by have := h5.vp.2; omega⟩⟩⟩
   ·rw [List.getElem?_append_left (by omega)]; exact h1
   ·rw [List.getElem?_append_left (by omega)]; exact h2
   ·rw [List.getElem?_append_left (by omega)]; exact h3
   ·rw [List.getElem?_append_left (by omega)]; exact h4
  ·obtain rfl : j = L.length := by omega
   have eg : (L ++ [x]).getD L.length it0 = x := by simp [List.getD]
   rw [eg]
   simp only [if_true]
   refine ⟨bo, ?_, ?_, ?_, ?_, ⟨hx.key, hx.kn, hx.kc, hx.val, hx.vc, ⟨hk.1, hk.2.1, by omega⟩, hx.vb, hx.gu, ⟨Nat.zero_le _, hv.2⟩⟩⟩
   ·rw [List.getElem?_append_right (by omega)]; simp [hl]
   ·rw [List.getElem?_append_right (by omega), show L.length * 4 + 1 - xs.length = 1 by omega]; simp
   ·rw [List.getElem?_append_right (by omega), show L.length * 4 + 2 - xs.length = 2 by omega]; simp [hs]
   ·rw [List.getElem?_append_right (by omega), show L.length * 4 + 3 - xs.length = 3 by omega]; simp [hf]
 ·rw [List.length_append] at hj
  simp only [List.length_cons, List.length_nil] at hj
  have ni : ¬ i = L.length := by omega
  simp only [if_neg ni]
  by_cases e : j = L.length
  ·simp only [if_pos e]
   have := hnew i (by omega)
   omega
  ·simp only [if_neg e]
   exact h.kd i j hij (by omega)
 ·rw [List.length_append] at hj
  simp only [List.length_cons, List.length_nil] at hj
  have ni : ¬ i = L.length := by omega
  simp only [if_neg ni]
  by_cases e : j = L.length
  ·simp only [if_pos e]
   obtain ⟨_, _, _, _, _, h5⟩ := h.el i (by omega)
   have := h5.vp.2
   omega
  ·simp only [if_neg e]
   exact h.vd i j hij (by omega)
set_option maxHeartbeats 4000000 in
set_option maxRecDepth 100000 in
theorem item_own (Q R G : Nat) (zs : List Int) (s : Nat × Int) (po : Option Addr) (pn pc : Nat) (P : List Int) (w : World) (hq : Lr w Q R po pn pc) (h : Rd w R G zs s.1 s.2) (hbt : Bt zs) (hP : Byt w po pn pc P) (hpb : ∀ ad, po = some ad → 0 < pn → ad.block ≠ R) (hQR : Q ≠ R) (hpn : pn ≤ 5000) (hz : zs.length ≤ 5000) :
  Calls Tryz.prog 44 #[.pointer (some ⟨Q, 0, none⟩)] w fun en w' => (∃ g n bo m p, en = .returned (.agg #[.slice (some ⟨g, 0, none⟩) n n, .slice bo m m, .int .i64 (sItem zs P s).1.size, .int .i64 (sItem zs P s).1.first]) ∧ Imo w' R G w.heap.size s.1 (sItem zs P s).2.1 g n bo m p (sItem zs P s).1) ∧ Rd w' R G zs (sItem zs P s).2.1 (sItem zs P s).2.2 ∧ w.grownBy w' (some R) := by
 have HQ := hid_intro hq
 have HR := hid_intro h
 have HP := hid_intro hP
 have hRl := h.lt.1
 have HRL := hid_intro hRl
 clear hq h hP hRl
 have HI : Hid (sItem zs P s = sVal zs (sKey zs P s).1 (sV zs (sKey zs P s).2)) := rfl
 have ga := World.grownBy_alloc w (.cells #[.slice none 0 0, .slice none 0 0, .int .i64 0, .int .i64 0] 52) none
 have HKc := hid_intro (key_any Q R G zs s po pn pc P _ (HQ.out.kept ga (by simp)) (HR.out.kept ga (by simp) (by simp)) hbt (HP.out.keptN ga) hpb hQR hpn hz)
 clear ga
 go_enter Tryz.func44, Tryz.ntmps44
 go_wp2_with fail
 refine HKc.out.mono ?_
 rintro en w2 ⟨⟨g, k, rfl, hr2, hk2, hg2, hkk⟩, hd2, hgr2⟩
 have hwg : w.heap.size < g := by simp at hg2; omega
 have U2 := hid_intro ((Bx.new w (.slice none 0 0) (.slice none 0 0) (.int .i64 0) (.int .i64 0)).kept hgr2 (fun e => by have := Option.some.inj e; have := HRL.out; omega))
 have W2 := hid_intro (grown_trans (grown_any (row := some R) (World.grownBy_alloc w (.cells #[.slice none 0 0, .slice none 0 0, .int .i64 0, .int .i64 0] 52) none)) hgr2)
 have Q2 := hid_intro (HQ.out.kept W2.out (fun e => hQR (Option.some.inj e)))
 have K2 := hid_intro hr2
 have D2 := hid_intro hd2
 have HSV := hid_intro (fun (W : World) (hW : Rd W R G zs (sKey zs P s).2.1 (sKey zs P s).2.2) => rd_V R G zs (sKey zs P s).2 W hW hbt)
 have hvl := sV_lt zs (sKey zs P s).2 hbt
 have HB := hid_intro (fun (W : World) (hW : Rd W R G zs (sV zs (sKey zs P s).2).2.1 (sV zs (sKey zs P s).2).2.2) => rd_B R G zs (sV zs (sKey zs P s).2).2 ((sV zs (sKey zs P s).2).1 / 2 : Nat) W hW)
 have HN := hid_intro (fun (W : World) (hW : Rd W R G zs (sV zs (sKey zs P s).2).2.1 (sV zs (sKey zs P s).2).2.2) => rd_N4 R G zs (sV zs (sKey zs P s).2).2 W hW hbt)
 have hnl := sN_lt zs (sV zs (sKey zs P s).2).2 4 hbt
 have HV : Hid (sVal zs (sKey zs P s).1 (sV zs (sKey zs P s).2) = if (sV zs (sKey zs P s).2).1 % 2 = 1 then (⟨(sKey zs P s).1, [], ((sV zs (sKey zs P s).2).1 / 2 : Nat), ((sN zs (sV zs (sKey zs P s).2).2 4).1 : Nat)⟩, (sN zs (sV zs (sKey zs P s).2).2 4).2) else (⟨(sKey zs P s).1, (sB zs (sV zs (sKey zs P s).2).2 ((sV zs (sKey zs P s).2).1 / 2 : Nat)).1, ((sV zs (sKey zs P s).2).1 / 2 : Nat), 0⟩, (sB zs (sV zs (sKey zs P s).2).2 ((sV zs (sKey zs P s).2).1 / 2 : Nat)).2)) := rfl
 have HK2 := hid_intro hk2
 have hRl2 : R < w2.heap.size := hd2.lt.1
 have hGl2 : G < w2.heap.size := hd2.lt.2
 have hQl2 : Q < w2.heap.size := Q2.out.lt
 have hUl := U2.out.lt
 have hgl := hr2.lt
 have HUg : Hid (w.heap.size ≠ g) := fun e => by omega
 have hRU : w.heap.size ≠ R := by have := HRL.out; omega
 have HGLw := hid_intro HR.out.lt.2
 have hGU : w.heap.size ≠ G := by have := HGLw.out; omega
 clear hr2 hk2 hd2 hgr2 HKc hg2
 have U1 := hid_intro (Nat.le_trans (sKey_up zs P s) (sV_up zs (sKey zs P s).2))
 have U2' := hid_intro (sN_up zs (sV zs (sKey zs P s).2).2 4)
 have U3' := hid_intro (sB_up zs (sV zs (sKey zs P s).2).2 ((sV zs (sKey zs P s).2).1 / 2 : Nat))
 have HWG := hid_intro hwg
 have HKK := hid_intro hkk
 generalize (sKey zs P s).1 = Ky at *
 generalize (sKey zs P s).2 = s2 at *
 generalize (sV zs s2).2 = s3 at *
 generalize (sV zs s2).1 = tg1 at *
 obtain ⟨qc0, _, _⟩ := Q2.out.cells
 have gb := World.grownBy_alloc w2 (.cells #[.slice (some ⟨g, 0, none⟩) k k, .slice none 0 0, .int .i64 0, .int .i64 0] 52) none
 have F3 : Hid (Fr w (w2.alloc (.cells #[.slice (some ⟨g, 0, none⟩) k k, .slice none 0 0, .int .i64 0, .int .i64 0] 52)) Q R G w.heap.size w2.heap.size g po pn pc zs s2 Ky (.slice (some ⟨g, 0, none⟩) k k) (.slice none 0 0) (.int .i64 0) (.int .i64 0)) :=
  ⟨D2.out.kept gb (by simp) (by simp), Q2.out.kept gb (by simp), U2.out.kept gb (by simp), Bx.new w2 _ _ _ _, K2.out.keptN gb, grown_trans W2.out (grown_any gb), ⟨by omega, by omega, by omega, by omega, by omega, W2.out.size⟩, ⟨hRU, by have := HRL.out; omega, hQR⟩⟩
 obtain ⟨h2, hh2⟩ : ∃ h2 : Nat, tg1 / 2 = h2 := ⟨_, rfl⟩
 have hdiv : (tg1 : Int) / 2 = (h2 : Int) := by omega
 rw [hh2] at HB HV U3'
 have hh3 : h2 ≤ 9223372036854775807 := by omega
 clear hh2 gb D2 Q2 U2 W2 K2
 go_wp2_with fail
 clear qc0
 generalize w2.alloc (.cells #[.slice (some ⟨g, 0, none⟩) k k, .slice none 0 0, .int .i64 0, .int .i64 0] 52) = w3 at *
 have hTl : w.heap.size ≤ w2.heap.size := F3.out.hT.2.2.2.2.2
 have HTL := hid_intro hTl
 clear hTl hRl2 hGl2 hQl2 hUl hgl hwg
 generalize w2.heap.size = T at *
 refine (HSV.out _ F3.out.rd).mono ?_
 rintro en w4 ⟨rfl, hr4, hg4⟩
 have F4 := hid_intro (F3.out.call hr4 hg4)
 clear hr4 hg4 F3
 have f2 := F4.out.t.frozen 2
 obtain ⟨t0, t1, t2, t3⟩ := F4.out.t.cells
 by_cases hod : tg1 % 2 = 1
 ·have hmod : (tg1 : Int) % 2 = 1 := by omega
  rw [if_pos hod] at HV
  have qq := (F4.out.frame (grown_cell w4 T 2 (.int .i64 (h2 : Int))) (F4.out.t.set2 _)).lr.cells.1
  have F5 := hid_intro (F4.out.frame (grown_cell w4 T 2 (.int .i64 (h2 : Int))) (F4.out.t.set2 _))
  go_wp2_with fail
  generalize w4.setCell ⟨T, 2, none⟩ (.int .i64 (h2 : Int)) = w5 at *
  refine (HN.out _ F5.out.rd).mono ?_
  rintro en w6 ⟨rfl, hr6, hg6⟩
  have F6 := hid_intro (F5.out.call hr6 hg6)
  clear hr6 hg6 F5 qq F4 t0 t1 t2 t3 f2
  generalize (sN zs s3 4).1 = fn at *
  have hfn : fn < 4294967296 := hnl
  have f3 := F6.out.t.frozen 3
  obtain ⟨t0, t1, t2, t3⟩ := F6.out.t.cells
  have F7 := hid_intro (F6.out.frame (grown_cell w6 T 3 (.int .i64 (fn : Int))) (F6.out.t.set3 _))
  obtain ⟨v0, v1, v2, v3⟩ := F7.out.t.cells
  obtain ⟨y0, y1, y2, y3⟩ := F7.out.u.cells
  have z0 := F7.out.u.frozen 0
  have z1 := F7.out.u.frozen 1
  have z2 := F7.out.u.frozen 2
  have z3 := F7.out.u.frozen 3
  have HD := hid_intro (F7.out.done (Nat.le_refl _) hGU HUg.out)
  go_wp2
  obtain ⟨d1, d2, d3, d4, d5⟩ := HD.out
  refine bodyPost_ret (ret_item rfl _ _ w.heap.size _ _ _ _ rfl d1) rfl ?_
  rw [HI.out, HV.out]
  have u1 := U1.out
  have u2 := U2'.out
  have wg := HWG.out
  have gl := HGLw.out
  exact ⟨⟨g, k, none, 0, s.1, rfl, ⟨d4, HK2.out, HKK.out, Byt.zero _ _, by omega, ⟨F7.out.hR.2.1, by omega, by omega⟩, fun h => by omega, ⟨d3.u8, d3.ne⟩, ⟨Nat.le_refl _, by show s.1 + 0 ≤ (sN zs s3 4).2.1; omega⟩⟩⟩, d3, d5⟩
 ·have hmod : (tg1 : Int) % 2 = 0 := by omega
  rw [if_neg hod] at HV
  have F5 := hid_intro (F4.out.frame (grown_cell w4 T 2 (.int .i64 (h2 : Int))) (F4.out.t.set2 _))
  obtain ⟨q0, _, _⟩ := F5.out.lr.cells
  obtain ⟨x0, x1, x2, x3⟩ := F5.out.t.cells
  go_wp2_with fail
  clear t0 t1 t2 t3 f2
  generalize w4.setCell ⟨T, 2, none⟩ (.int .i64 (h2 : Int)) = w5 at *
  clear F4
  go_region_with (go_at_call 41; refine (HB.out _ (by exact F5.out.drew.rd)).mono ?_; rintro en w6 ⟨⟨bo, m, rfl, hb6, hbo, hm6⟩, hr6, hg6⟩; have F6 := hid_intro (F5.out.drew.call hr6 hg6); have f1 := F6.out.t.frozen 1; obtain ⟨t0, t1, t2, t3⟩ := F6.out.t.cells; obtain ⟨r0, _, _⟩ := F6.out.lr.cells)
  all_goals
   have F7 := hid_intro (F6.out.frame (grown_cell w6 T 1 (.slice bo m m)) (F6.out.t.set1 _))
   have B7 := hid_intro (hb6.kept (grown_cell w6 T 1 (.slice bo m m)) (fun ad e h e2 => by have := hbo h; rw [e] at this; obtain rfl := Option.some.inj this; exact F6.out.hT.2.1 (Option.some.inj e2).symm))
   have HBO := hid_intro hbo
   clear hb6 hbo hr6 hg6
   obtain ⟨v0, v1, v2, v3⟩ := F7.out.t.cells
   obtain ⟨y0, y1, y2, y3⟩ := F7.out.u.cells
   have z0 := F7.out.u.frozen 0
   have z1 := F7.out.u.frozen 1
   have z2 := F7.out.u.frozen 2
   have z3 := F7.out.u.frozen 3
   have HD := hid_intro (F7.out.done (Nat.le_refl _) hGU HUg.out)
   go_wp2
   obtain ⟨d1, d2, d3, d4, d5⟩ := HD.out
   refine bodyPost_ret (ret_item rfl _ _ w.heap.size _ _ _ _ rfl d1) rfl ?_
   rw [HI.out, HV.out]
   have u1 := U1.out
   have u3 := U3'.out
   have wg := HWG.out
   have gl := HGLw.out
   have bl := B7.out.len
   refine ⟨⟨g, k, bo, m, s3.1, rfl, ⟨d4, HK2.out, HKK.out, B7.out.kept d2 (fun ad e h e2 => ?_), by omega, ⟨F7.out.hR.2.1, by omega, by omega⟩, HBO.out, ⟨d3.u8, d3.ne⟩, ⟨u1, by show s3.1 + m ≤ (sB zs s3 (h2 : Nat)).2.1; omega⟩⟩⟩, d3, d5⟩
   ·have h9 := HBO.out h
    rw [e] at h9
    obtain rfl := Option.some.inj h9
    exact hGU (Option.some.inj e2).symm
structure Rno (w wr : World) (Q R G base N : Nat) (po : Option Addr) (pn : Nat) (zs P : List Int) (i : Nat) (st : Nat × Int) (L : List It) (v : Value) (xs : List Value) (pos : Nat) : Prop where
 rd : Rd wr R G zs st.1 st.2
 lr : Lr wr Q R po pn pn
 pb : Byt wr po pn pn P
 own : wr.ownsRow base 52 4 v i xs
 iv : ∃ kg kn vp vm, Ivo wr R G w.heap.size pos xs L kg kn vp vm
 two : Two w wr R Q
 far : Q < base ∧ R < base ∧ G < base ∧ Q ≠ R ∧ w.heap.size ≤ base ∧ base ≤ wr.heap.size
 pg : ∀ ad, po = some ad → 0 < pn → ad.block = G
 len : L.length = i
 u8 : U8 wr G
theorem Rno.call {w wr w' : World} {Q R G base N : Nat} {po : Option Addr} {pn : Nat} {zs P : List Int} {i : Nat} {st st' : Nat × Int} {L : List It} {v : Value} {xs : List Value} {pos : Nat} (h : Rno w wr Q R G base N po pn zs P i st L v xs pos) (hr : Rd w' R G zs st'.1 st'.2) (hg : wr.grownBy w' (some R)) : Rno w w' Q R G base N po pn zs P i st' L v xs pos := by
 have hne : v.ownBlock ≠ some R := fun e => by have := (h.own.lt R e).1; have := h.far.2.1; omega
 exact ⟨hr, h.lr.kept hg (fun e => h.far.2.2.2.1 (Option.some.inj e)), h.pb.kept hg (fun ad e hn e2 => by have := h.pg ad e hn; have := Option.some.inj e2; have := h.rd.ne; omega), h.own.kept hg (.inr hne), (by obtain ⟨kg, kn, vp, vm, hv⟩ := h.iv; exact ⟨kg, kn, vp, vm, hv.kept hg (fun b hb _ e => hb (Option.some.inj e))⟩), h.two.grown2 hg (fun k e => by have := Option.some.inj e; omega), ⟨h.far.1, h.far.2.1, h.far.2.2.1, h.far.2.2.2.1, h.far.2.2.2.2.1, Nat.le_trans h.far.2.2.2.2.2 hg.size⟩, h.pg, h.len, h.u8.kept hg (fun e => h.rd.ne (Option.some.inj e))⟩
theorem Rno.keptN {w wr w' : World} {Q R G base N : Nat} {po : Option Addr} {pn : Nat} {zs P : List Int} {i : Nat} {st : Nat × Int} {L : List It} {v : Value} {xs : List Value} {pos : Nat} (h : Rno w wr Q R G base N po pn zs P i st L v xs pos) (hg : wr.grownBy w' none) : Rno w w' Q R G base N po pn zs P i st L v xs pos :=
 h.call (h.rd.kept hg (by simp) (by simp)) (grown_any hg)
theorem Rno.app {w wr w' : World} {Q R G base N : Nat} {po : Option Addr} {pn : Nat} {zs P : List Int} {i : Nat} {st : Nat × Int} {L : List It} {v v' : Value} {xs : List Value} {pos p0 p1 lo2 g n : Nat} {bo : Option Addr} {m p : Nat} {x : It} (h : Rno w wr Q R G base N po pn zs P i st L v xs pos) (hx : Imo wr R G lo2 p0 p1 g n bo m p x) (hpos : pos ≤ p0) (hlo : w.heap.size ≤ lo2) (hnew : ∃ kg kn vp vm, Ivo wr R G w.heap.size pos xs L kg kn vp vm ∧ ∀ j, j < L.length → kg j < lo2)
  (ho : w'.ownsRow base 52 4 v' (i + 1) (xs ++ [.slice (some ⟨g, 0, none⟩) n n, .slice bo m m, .int .i64 x.size, .int .i64 x.first])) (hg : wr.grownBy w' v.ownBlock) : Rno w w' Q R G base N po pn zs P (i + 1) st (L ++ [x]) v' (xs ++ [.slice (some ⟨g, 0, none⟩) n n, .slice bo m m, .int .i64 x.size, .int .i64 x.first]) p1 := by
 have hb : ∀ k, k < base → some k ≠ v.ownBlock := fun k hk e => by have := (h.own.lt k e.symm).1; omega
 have hne : ∀ b, b ≠ R → U8 wr b → some b ≠ v.ownBlock := fun b _ hu => own_item_ne h.own b hu
 exact ⟨h.rd.kept hg (hb R h.far.2.1) (hb G h.far.2.2.1), h.lr.kept hg (hb Q h.far.1), h.pb.kept hg (fun ad e hn => by rw [h.pg ad e hn]; exact hb G h.far.2.2.1), ho, (by obtain ⟨kg, kn, vp, vm, hv, hw⟩ := hnew; exact ⟨_, _, _, _, (hv.kept hg hne).snoc (hx.kept hg hne) hlo hw hpos _ _ rfl rfl⟩),
  h.two.grown2 hg (fun k e => by have := (h.own.lt k e).1; have := h.far.2.2.2.2.1; omega), ⟨h.far.1, h.far.2.1, h.far.2.2.1, h.far.2.2.2.1, h.far.2.2.2.2.1, Nat.le_trans h.far.2.2.2.2.2 hg.size⟩, h.pg, by simp [h.len], h.u8.kept hg (hb G h.far.2.2.1)⟩
set_option maxHeartbeats 4000000 in
set_option maxRecDepth 100000 in
theorem items_own (Q R G : Nat) (zs : List Int) (w : World) (hq : Lr w Q R none 0 0) (h : Rd w R G zs 0 0) (hbt : Bt zs) (hQR : Q ≠ R) (hQG : Q ≠ G) (hz : zs.length ≤ 5000) :
  Calls Tryz.prog 21 #[.pointer (some ⟨Q, 0, none⟩)] w fun en w' => (∃ v n base xs kg kn vp vm pos, en = .returned v ∧ (parse zs).length = n ∧ w.heap.size ≤ base ∧ w'.ownsRow base 52 4 v n xs ∧ Ivo w' R G w.heap.size pos xs (parse zs) kg kn vp vm) ∧ Two w w' R Q := by
 obtain ⟨i0, hi, hz0, hz1, hz2⟩ := info_parts info_item
 have HQ := hid_intro hq
 have HPZ : Hid (parse zs = sLoop zs (sB zs (sV zs (sN zs (sB zs (0, 0) 1).2 2).2).2 (i64 (sV zs (sN zs (sB zs (0, 0) 1).2 2).2).1)).1 (sN zs (sB zs (0, 0) 1).2 2).1 (sB zs (sB zs (sV zs (sN zs (sB zs (0, 0) 1).2 2).2).2 (i64 (sV zs (sN zs (sB zs (0, 0) 1).2 2).2).1)).2 ((2 * (sN zs (sB zs (0, 0) 1).2 2).1 : Nat) : Int)).2 []) := rfl
 obtain ⟨c0, c1, f1⟩ := hq.cells
 have H1 := hid_intro (rd_B R G zs (0, 0) 1 w h)
 have hRl := h.lt.1
 have hGl := h.lt.2
 have hQl := hq.lt
 have HNE := hid_intro h.ne
 clear h hq
 go_enter Tryz.func21, Tryz.ntmps21
 go_wp2_with fail
 refine H1.out.mono ?_
 rintro en w1 ⟨⟨ao, k, rfl, _, _, _⟩, hr1, hg1⟩
 have D1 := hid_intro hr1
 have G1 := hid_intro hg1
 have Q1 := hid_intro (HQ.out.kept hg1 (fun e => hQR (Option.some.inj e)))
 clear hr1 hg1 H1 c0 c1 f1
 generalize (sB zs (0, 0) 1).2 = s1 at *
 have hnl := sN_lt zs s1 2 hbt
 have H2 := hid_intro (rd_N2 R G zs s1 _ D1.out hbt)
 obtain ⟨c0, c1, f1⟩ := Q1.out.cells
 go_wp2_with fail
 refine H2.out.mono ?_
 rintro en w2 ⟨rfl, hr2, hg2⟩
 have D2 := hid_intro hr2
 have G2 := hid_intro (grown_trans G1.out hg2)
 have Q2 := hid_intro (Q1.out.kept hg2 (fun e => hQR (Option.some.inj e)))
 clear hr2 hg2 H2 c0 c1 f1 D1 G1 Q1
 generalize (sN zs s1 2).2 = s2 at *
 generalize (sN zs s1 2).1 = N at *
 have hN : N < 65536 := hnl
 have HV := hid_intro (fun (W : World) (hW : Rd W R G zs s2.1 s2.2) => rd_V R G zs s2 W hW hbt)
 have hvl := sV_lt zs s2 hbt
 have hwr := i64_wrap hvl
 generalize (sV zs s2).2 = s3 at *
 generalize (sV zs s2).1 = x at *
 generalize i64 x = m at *
 have HB := hid_intro (fun (W : World) (hW : Rd W R G zs s3.1 s3.2) => rd_B R G zs s3 m W hW)
 generalize (sB zs s3 m).2 = s4 at *
 generalize (sB zs s3 m).1 = P at *
 have HB2 := hid_intro (fun (W : World) (hW : Rd W R G zs s4.1 s4.2) => rd_B R G zs s4 ((2 * N : Nat) : Int) W hW)
 generalize (sB zs s4 ((2 * N : Nat) : Int)).2 = s5 at *
 obtain ⟨c0, c1, f1⟩ := Q2.out.cells
 clear hnl
 go_wp2_with fail
 go_region_with (first
  | (go_at_call 43; refine (HV.out _ (by exact D2.out.kept ((Qt.refl w2).drew.grown none) (by simp) (by simp))).mono ?_; rintro en w3 ⟨rfl, hr3, hg3⟩; have d0 := hg3.cell (by exact c0) (by intro e; exact hQR (Option.some.inj e)); have d1 := hg3.cell (by exact c1) (by intro e; exact hQR (Option.some.inj e)))
  | (go_at_call 41; refine (HB.out _ hr3).mono ?_; rintro en w4 ⟨⟨po, pn, rfl, hb4, hao, hk⟩, hr4, hg4⟩; have e0 := hg4.cell d0 (by intro e; exact hQR (Option.some.inj e)); have e1 := hg4.cell d1 (by intro e; exact hQR (Option.some.inj e)); have ef := (Q2.out.kept (grown_trans (grown_trans ((Qt.refl w2).drew.grown (some R)) hg3) hg4) (fun e => hQR (Option.some.inj e))).cells.2.2))
 all_goals
  have hg24 := grown_trans (grown_trans ((Qt.refl w2).drew.grown (some R)) hg3) hg4
  have hgc := grown_cell w4 Q 1 (.slice po pn pn)
  have Q5 := hid_intro ((Q2.out.kept hg24 (fun e => hQR (Option.some.inj e))).set po pn pn)
  have D5 := hid_intro (hr4.kept hgc (fun e => hQR (Option.some.inj e).symm) (fun e => hQG (Option.some.inj e).symm))
  have B5 := hid_intro (hb4.kept hgc (fun ad e h e2 => by have h9 := hao h; rw [e] at h9; obtain rfl := Option.some.inj h9; exact hQG (Option.some.inj e2).symm))
  have T0 : Two w w R Q := ⟨rfl, rfl, rfl, Nat.le_refl _, fun _ _ _ _ => rfl⟩
  have T5 := hid_intro ((T0.grown2 (grown_trans G2.out hg24) (fun k e => .inl (Option.some.inj e).symm)).grown2 hgc (fun k e => .inr (.inl (Option.some.inj e).symm)))
  have HAO := hid_intro hao
  clear hg24 hgc T0 hr3 hr4 hb4 hao hg3 hg4 d0 d1 e0 e1 ef G2 Q2 D2 HV HB c0 c1 f1
  generalize w4.setCell ⟨Q, 1, none⟩ (.slice po pn pn) = w5 at *
  obtain ⟨c0, c1, f1⟩ := Q5.out.cells
  have H6 := hid_intro (HB2.out _ D5.out)
  clear HB2
  have hcast : ((2 * N : Nat) : Int) = 2 * (N : Int) := by omega
  rw [hcast] at H6
  go_wp2_with fail
  refine H6.out.mono ?_
  rintro en w6 ⟨⟨ao6, k6, rfl, _, _, _⟩, hr6, hg6⟩
  have HS0 : Hid (Rno w w6 Q R G w6.heap.size N po pn zs P 0 s5 [] (.slice none 0 0) [] 0) :=
   ⟨hr6, Q5.out.kept hg6 (fun e => hQR (Option.some.inj e)), B5.out.kept hg6 (fun ad e h e2 => by have h9 := HAO.out h; rw [e] at h9; obtain rfl := Option.some.inj h9; exact HNE.out (Option.some.inj e2)), ⟨rfl, .inl ⟨rfl, rfl⟩⟩, ⟨_, _, _, _, Ivo.nil _ _ _ _ _⟩, T5.out.grown2 hg6 (fun k e => .inl (Option.some.inj e).symm), ⟨by have := T5.out.size; have := hg6.size; omega, hr6.lt.1, hr6.lt.2, hQR, by have := T5.out.size; have := hg6.size; omega, Nat.le_refl _⟩, (fun ad e h => by have h9 := HAO.out h; rw [e] at h9; obtain rfl := Option.some.inj h9; rfl), rfl, hr6.u8⟩
  clear hr6 hg6 H6 c0 c1 f1 Q5 D5 B5 T5 HAO
  go_wp2
  obtain ⟨base, hbase⟩ : ∃ base, base = w6.heap.size := ⟨_, rfl⟩
  rw [← hbase] at HS0
  clear hbase
  go_loopw [4, 5, 6, 7, 41] (fun sl _ _ _ si wr => ∃ (i : Nat) (st : Nat × Int) (L : List It) (xs : List Value) (pos : Nat), i ≤ N ∧ si = .int .i64 i ∧ sLoop zs P (N - i) st L = parse zs ∧ Rno w wr Q R G base N po pn zs P i st L sl xs pos ∧ pos ≤ st.1) (fun _ _ _ _ si _ => N - (intOf si).toNat)
  case atStart => exact ⟨0, s5, [], [], 0, Nat.zero_le _, rfl, HPZ.out.symm, HS0.out, Nat.zero_le _⟩
  case round =>
   rename_i sl _ _ _ si wr
   obtain ⟨i, st, L, xs, pos, hi', rfl, hsl, hrn, hps⟩ := hrel
   have HRN := hid_intro hrn
   have HSL := hid_intro hsl
   clear hsl hrn HS0 HPZ
   by_cases hlt : i < N
   ·have HI := hid_intro (item_own Q R G zs st po pn pn P wr HRN.out.lr HRN.out.rd hbt HRN.out.pb (fun ad e h => by rw [HRN.out.pg ad e h]; exact HNE.out) hQR (by omega) hz)
    have HSS : Hid (parse zs = if (sItem zs P st).2.2 = 0 then sLoop zs P (N - (i + 1)) (sItem zs P st).2 (L ++ [(sItem zs P st).1]) else []) := by
     show _ = _
     rw [← HSL.out, show N - i = (N - (i + 1)) + 1 by omega, sLoop]
    clear HSL
    have KN : Hid (∃ kg kn vp vm, Ivo wr R G w.heap.size pos xs L kg kn vp vm ∧ ∀ j, j < L.length → kg j < wr.heap.size) := by
     obtain ⟨kg, kn, vp, vm, hv⟩ := HRN.out.iv
     exact ⟨kg, kn, vp, vm, hv, fun j hj => by obtain ⟨_, _, _, _, _, h5⟩ := hv.el j hj; exact h5.key.lt⟩
    have hwl : w.heap.size ≤ wr.heap.size := by have := HRN.out.far; omega
    generalize wr.heap.size = lo at *
    generalize (sItem zs P st).2 = st' at *
    generalize (sItem zs P st).1 = it at *
    go_wp2_with fail
    refine HI.out.mono ?_
    rintro en w7 ⟨⟨gg, n, bo, m', pp0, rfl, him⟩, hr7, hg7⟩
    have M7 := hid_intro him
    have N7 := hid_intro (HRN.out.call hr7 hg7)
    have KN7 : Hid (∃ kg kn vp vm, Ivo w7 R G w.heap.size pos xs L kg kn vp vm ∧ ∀ j, j < L.length → kg j < lo) := by
     obtain ⟨kg, kn, vp, vm, hv, hw⟩ := KN.out
     exact ⟨kg, kn, vp, vm, hv.kept hg7 (fun b hb _ e => hb (Option.some.inj e)), hw⟩
    clear KN
    clear him hr7 hg7 HI HRN
    obtain ⟨sz, hsz⟩ : ∃ sz, it.size = sz := ⟨_, rfl⟩
    obtain ⟨fs, hfs⟩ : ∃ fs, it.first = fs := ⟨_, rfl⟩
    rw [hsz, hfs]
    have HSZ := hid_intro hsz
    have HFS := hid_intro hfs
    clear hsz hfs
    have ga := World.grownBy_alloc w7 (.cells #[.slice (some ⟨gg, 0, none⟩) n n, .slice bo m' m', .int .i64 sz, .int .i64 fs] 52) none
    have N8 := hid_intro (N7.out.keptN ga)
    have KN8 : Hid (∃ kg kn vp vm, Ivo (w7.alloc (.cells #[.slice (some ⟨gg, 0, none⟩) n n, .slice bo m' m', .int .i64 sz, .int .i64 fs] 52)) R G w.heap.size pos xs L kg kn vp vm ∧ ∀ j, j < L.length → kg j < lo) := KN7.out.imp fun kg h => h.imp fun kn h => h.imp fun vp h => h.imp fun vm h => ⟨h.1.kept ga (fun _ _ _ => by simp), h.2⟩
    clear KN7
    have M8 := hid_intro (M7.out.kept ga (fun _ _ _ => by simp))
    have X8 := hid_intro (Bx.new w7 (.slice (some ⟨gg, 0, none⟩) n n) (.slice bo m' m') (.int .i64 sz) (.int .i64 fs))
    have qc := N8.out.lr.cells.1
    have HER := hid_intro (fun (W : World) (hW : Rd W R G zs st'.1 st'.2) => err_any R G zs st'.1 st'.2 W hW)
    clear ga N7 M7
    go_wp2_with fail
    clear qc
    generalize w7.alloc (.cells #[.slice (some ⟨gg, 0, none⟩) n n, .slice bo m' m', .int .i64 sz, .int .i64 fs] 52) = w8 at *
    generalize w7.heap.size = T at *
    refine (HER.out _ N8.out.rd).mono ?_
    rintro en w9 ⟨rfl, hq9⟩
    have N9 := hid_intro (N8.out.keptN (hq9.grown none))
    have KN9 : Hid (∃ kg kn vp vm, Ivo w9 R G w.heap.size pos xs L kg kn vp vm ∧ ∀ j, j < L.length → kg j < lo) := KN8.out.imp fun kg h => h.imp fun kn h => h.imp fun vp h => h.imp fun vm h => ⟨h.1.kept (hq9.grown none) (fun _ _ _ => by simp), h.2⟩
    clear KN8
    have M9 := hid_intro (M8.out.kept (hq9.grown none) (fun _ _ _ => by simp))
    have X9 := hid_intro (X8.out.kept (hq9.grown none) (by simp))
    clear hq9 N8 M8 X8
    obtain ⟨pp, ee⟩ := st'
    by_cases he : ee = 0
    ·subst he
     have HSS1 := hid_intro (HSS.out.trans (if_pos rfl))
     clear HSS
     obtain ⟨x0, x1, x2, x3⟩ := X9.out.cells
     go_wp2_with (at_builtin; refine wpList_append_own _ rfl _ _ 22 rfl base 52 i0 (.agg #[.slice none 0 0, .slice none 0 0, .int .i64 0, .int .i64 0]) 4 64 Tryz.underlying22 hi hz0 hz1 hz2 rfl (by decide) _ i xs rfl (N9.out.own.alloc _) ⟨w9.heap.size, 0, none⟩ 1 1 [.slice (some ⟨gg, 0, none⟩) n n, .slice bo m' m', .int .i64 sz, .int .i64 fs] rfl rfl (cell_four_new _ _ _ _ _ _) (by intro u hu; simp at hu; rcases hu with rfl | rfl | rfl | rfl <;> rfl) (by unfold maxLen; omega) (by omega) (by have := N9.out.far.2.2.2.2.2; simp; omega) ?_)
     intro v' w10 ho hg10 _
     have N10 : Hid (Rno w w10 Q R G base N po pn zs P (i + 1) (pp, 0) (L ++ [it]) v' (xs ++ [.slice (some ⟨gg, 0, none⟩) n n, .slice bo m' m', .int .i64 it.size, .int .i64 it.first]) pp) :=
      (N9.out.keptN (World.grownBy_alloc w9 _ none)).app (M9.out.kept (World.grownBy_alloc w9 _ none) (fun _ _ _ => by simp)) hps hwl (KN9.out.imp fun kg h => h.imp fun kn h => h.imp fun vp h => h.imp fun vm h => ⟨h.1.kept (World.grownBy_alloc w9 _ none) (fun _ _ _ => by simp), h.2⟩) (by rw [HSZ.out, HFS.out]; exact ho) hg10
     clear ho hg10 N9 M9 X9 x0 x1 x2 x3
     go_wp2
     go_roundw
     case rel => exact ⟨i + 1, (pp, 0), L ++ [it], _, pp, by omega, by go_num, HSS1.out.symm, N10.out, Nat.le_refl _⟩
     case measure => simp [intOf]; omega
    ·have HSS1 := hid_intro (HSS.out.trans (if_neg he))
     clear HSS
     go_wp2
     go_ret
     refine ⟨⟨.slice none 0 0, 0, w.heap.size, [], fun _ => 0, fun _ => 0, fun _ => 0, fun _ => 0, 0, rfl, ?_, Nat.le_refl _, ⟨rfl, .inl ⟨rfl, rfl⟩⟩, ?_⟩, N9.out.two⟩
     ·rw [HSS1.out]; rfl
     ·rw [HSS1.out]; exact Ivo.nil _ _ _ _ _
   ·have hin : i = N := by omega
    subst hin
    have HSL1 : Hid (L = parse zs) := by
     have := HSL.out
     rw [Nat.sub_self] at this
     exact this
    obtain ⟨kg, kn, vp, vm, hv⟩ := HRN.out.iv
    have HVV := hid_intro hv
    clear HSL hv
    go_wp2
    go_ret
    refine ⟨⟨_, i, base, xs, kg, kn, vp, vm, pos, rfl, by rw [← HSL1.out]; exact HRN.out.len, HRN.out.far.2.2.2.2.1, HRN.out.own, by rw [← HSL1.out]; exact HVV.out⟩, HRN.out.two⟩
theorem own_keptX {w w' : World} {base sz : Nat} {e : TypeId} {v : Value} {n : Nat} {xs : List Value} (h : w.ownsRow base e sz v n xs) (hg : w.grownBy w' none) : w'.ownsRow base e sz v n xs :=
 h.kept hg (by cases v.ownBlock with | none => exact .inl rfl | some g => exact .inr (by simp))
theorem Ivo.from {w : World} {R G lo lo' pos : Nat} {xs : List Value} {L : List It} {kg kn vp vm : Nat → Nat} (h : Ivo w R G lo pos xs L kg kn vp vm) (hl : lo' ≤ lo) : Ivo w R G lo' pos xs L kg kn vp vm :=
 ⟨h.len, fun j hj => by
  obtain ⟨bo, h1, h2, h3, h4, h5⟩ := h.el j hj
  exact ⟨bo, h1, h2, h3, h4, ⟨h5.key, h5.kn, h5.kc, h5.val, h5.vc, ⟨h5.kb.1, h5.kb.2.1, by have := h5.kb.2.2; omega⟩, h5.vb, h5.gu, h5.vp⟩⟩, h.kd, h.vd⟩
theorem Ivo.iv {w : World} {R G lo pos : Nat} {xs : List Value} {L : List It} {kg kn vp vm : Nat → Nat} (h : Ivo w R G lo pos xs L kg kn vp vm) : Iv w R xs L := by
 refine ⟨h.len, fun j hj => ?_⟩
 obtain ⟨bo, h1, h2, h3, h4, h5⟩ := h.el j hj
 have hk := h5.kc
 have hv := h5.vc
 exact ⟨_, _, _, _, _, _, h1, h2, h3, h4, ⟨h5.key.all _ _ h5.kn.symm, ⟨Nat.le_refl _, by omega⟩, h5.val, ⟨Nat.le_refl _, by omega⟩, fun ad e _ => by obtain rfl := Option.some.inj e; exact ⟨h5.kb.1, h5.key.u8⟩, fun ad e hn => by have := h5.vb hn; rw [e] at this; obtain rfl := Option.some.inj this; exact ⟨h5.gu.2, h5.gu.1⟩⟩⟩
theorem Ivo.il' {w : World} {R G lo pos base : Nat} {v : Value} {n : Nat} {xs : List Value} {L : List It} {kg kn vp vm : Nat → Nat} (h : Ivo w R G lo pos xs L kg kn vp vm) (ho : w.ownsRow base 52 4 v n xs) : ∃ a cap, v = .slice a n cap ∧ Il w a L ∧ L.length = n ∧ n ≤ cap ∧ cap ≤ 9223372036854775807 := h.iv.il ho
set_option maxHeartbeats 2000000 in
set_option maxRecDepth 100000 in
theorem decode_own (ao : Option Addr) (c : Nat) (zs : List Int) (w : World) (hb : Byt w ao 4092 c zs) (hbt : Bt zs) :
  Calls Tryz.prog 10 #[.slice ao 4092 c] w fun en w' => (∃ v n e L base xs R G kg kn vp vm pos, en = .returned (.tuple #[v, .int .i64 e]) ∧ L.length = n ∧ n ≤ 5000 ∧ Ib L ∧ w.heap.size ≤ base ∧ w'.ownsRow base 52 4 v n xs ∧ Ivo w' R G w.heap.size pos xs L kg kn vp vm ∧ w.heap.size ≤ G) ∧ w.grownBy w' none := by
 have hl := hb.len
 have HIR := hid_intro (parse_ir hbt (by omega))
 have HPL := hid_intro (parse_len hbt (by omega))
 have HIB : Hid (Ib (parse zs)) := fun x hx => (HIR.out x hx).b
 have HB := hid_intro hb
 clear hb
 go_enter Tryz.func10, Tryz.ntmps10
 go_wp2_with fail
 refine (newReader_any ao 4092 c zs _ HB.out (by omega)).mono ?_
 rintro en w1 ⟨R, rfl, hr1, hg1, hR⟩
 have ga := World.grownBy_alloc w1 (.cells #[.pointer (some ⟨R, 0, none⟩), .slice none 0 0] 63) none
 have Q2 : Hid (Lr (w1.alloc (.cells #[.pointer (some ⟨R, 0, none⟩), .slice none 0 0] 63)) w1.heap.size R none 0 0) := by
  show _ = _
  exact heap_alloc_new w1 _
 have D2 := hid_intro (hr1.kept ga (by simp) (by simp))
 have G2 := hid_intro (grown_trans hg1 ga)
 have hRl := hr1.lt.1
 have hGl := hr1.lt.2
 have hsz : w.heap.size ≤ w1.heap.size := hg1.size
 clear ga hr1 hg1
 go_wp2_with fail
 generalize w1.alloc (.cells #[.pointer (some ⟨R, 0, none⟩), .slice none 0 0] 63) = w2 at *
 generalize w1.heap.size = Q at *
 refine (items_own Q R w.heap.size zs _ Q2.out D2.out hbt (by omega) (by omega) (by omega)).mono ?_
 rintro en w3 ⟨⟨v, n, base, xs, kg, kn, vp, vm, pos, rfl, hn, hbs, hown, hiv⟩, ht3⟩
 have G3 := hid_intro (ht3.grown G2.out (by omega) hsz)
 obtain ⟨a, cap, rfl, hil, _, hnc, hcm⟩ := hiv.il' hown
 have hw2s := G2.out.size
 have O3 := hid_intro hown
 have V3 := hid_intro (hiv.from hw2s)
 have L3 := hid_intro hil
 clear hown hiv
 have B3 := hid_intro (HB.out.keptN G3.out)
 have hn5 : n ≤ 5000 := by have := HPL.out; omega
 clear hil ht3 G2 D2 Q2
 go_wp2_with fail
 refine (encode_any a n cap (parse zs) _ L3.out HIB.out hn hn5).mono ?_
 rintro en w4 ⟨⟨bo, k, c', rfl, hb4, hk4⟩, hg4⟩
 have B4 := hid_intro hb4
 have L4 := hid_intro (L3.out.keptN hg4)
 have O4 := hid_intro (own_keptX O3.out hg4)
 have V4 := hid_intro (V3.out.kept hg4 (fun _ _ _ => by simp))
 have HIB2 := HIB
 have Z4 := hid_intro (B3.out.keptN hg4)
 have G4 := hid_intro (grown_trans G3.out hg4)
 have HEB := hid_intro (enc_bt HIB.out)
 clear hb4 hg4 L3 B3 G3
 have HEQ := hid_intro (enc_good zs (parse zs))
 have HPB : Hid (∀ M, Good zs M → parse zs = M) := fun M h => parse_body h
 generalize hpz : parse zs = L at *
 have HPZ := hid_intro hpz
 clear hpz
 generalize (enc L).2 = e at *
 generalize (enc L).1 = ys at *
 by_cases he : e = 0
 ·subst he
  by_cases hy : ys = zs
  ·have HGD := hid_intro (HEQ.out.1 ⟨hy, rfl⟩)
   clear HEQ
   go_wp2_with fail
   refine (equal_yes _ _ _ _ _ _ _ _ _ B4.out Z4.out hy).mono ?_
   rintro en w5 ⟨rfl, rfl⟩
   clear hy
   go_wp2
   go_ret2
   exact ⟨⟨_, n, 0, L, base, xs, R, w.heap.size, kg, kn, vp, vm, pos, rfl, hn, hn5, HIB.out, by omega, O4.out, V4.out, Nat.le_refl _⟩, G4.out⟩
  ·have HND : Hid (∀ M, ¬ (Good zs M ∧ zs.length = 4092)) := by
    rintro M ⟨h1, _⟩
    obtain rfl := HPB.out M h1
    exact hy (HEQ.out.2 h1).1
   clear HEQ
   go_wp2_with fail
   refine (equal_no _ _ _ _ _ _ _ _ _ B4.out Z4.out HEB.out hbt hy).mono ?_
   rintro en w5 ⟨rfl, rfl⟩
   clear hy
   go_wp2
   go_ret2
   exact ⟨⟨.slice none 0 0, 0, 40, [], w.heap.size, [], R, w.heap.size, fun _ => 0, fun _ => 0, fun _ => 0, fun _ => 0, 0, rfl, rfl, by omega, fun x hx => by simp at hx, Nat.le_refl _, ⟨rfl, .inl ⟨rfl, rfl⟩⟩, Ivo.nil _ _ _ _ _, Nat.le_refl _⟩, G4.out⟩
 ·have HND : Hid (∀ M, ¬ (Good zs M ∧ zs.length = 4092)) := by
   rintro M ⟨h1, _⟩
   obtain rfl := HPB.out M h1
   exact he (HEQ.out.2 h1).2
  clear HEQ
  go_wp2
  go_ret2
  exact ⟨⟨.slice none 0 0, 0, 40, [], w.heap.size, [], R, w.heap.size, fun _ => 0, fun _ => 0, fun _ => 0, fun _ => 0, 0, rfl, rfl, by omega, fun x hx => by simp at hx, Nat.le_refl _, ⟨rfl, .inl ⟨rfl, rfl⟩⟩, Ivo.nil _ _ _ _ _, Nat.le_refl _⟩, G4.out⟩
end Go.Proofs.YtcdkkhbkicejiaaGreatDoor
