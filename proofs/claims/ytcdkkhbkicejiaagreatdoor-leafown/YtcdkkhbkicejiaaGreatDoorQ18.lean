import Derived.Test.YtcdkkhbkicejiaaGreatDoorQ17
namespace Go.Proofs.YtcdkkhbkicejiaaGreatDoor
open Go.RowKit
theorem le_lt' (k : Nat) (zs : List Int) (h : Bt zs) : le k zs < 256 ^ k := le_lt k zs h
theorem sN_lt (zs : List Int) (s : Nat × Int) (k : Nat) (h : Bt zs) : (sN zs s k).1 < 256 ^ k := by
 unfold sN
 split
 ·split
  ·exact Nat.pow_pos (by omega)
  ·exact le_lt' k _ (h.drop _)
 ·exact Nat.pow_pos (by omega)
def Bx (w : World) (T : Nat) (a b c d : Value) : Prop := w.heap[T]? = some (.cells #[a, b, c, d] 52 (0, 0))
theorem Bx.lt {w : World} {T : Nat} {a b c d : Value} (h : Bx w T a b c d) : T < w.heap.size := (Array.getElem?_eq_some_iff.1 h).1
theorem Bx.cells {w : World} {T : Nat} {a b c d : Value} (h : Bx w T a b c d) : w.cell? ⟨T, 0, none⟩ = some a ∧ w.cell? ⟨T, 1, none⟩ = some b ∧ w.cell? ⟨T, 2, none⟩ = some c ∧ w.cell? ⟨T, 3, none⟩ = some d := by
 refine ⟨?_, ?_, ?_, ?_⟩
 ·rw [cell_of_row w T 0 _ _ _ h]; rfl
 ·rw [cell_of_row w T 1 _ _ _ h]; rfl
 ·rw [cell_of_row w T 2 _ _ _ h]; rfl
 ·rw [cell_of_row w T 3 _ _ _ h]; rfl
theorem Bx.frozen {w : World} {T : Nat} {a b c d : Value} (h : Bx w T a b c d) (j : Nat) : w.frozen? ⟨T, j, none⟩ = false := frozen_of_row w T j _ _ h
theorem Bx.kept {w w' : World} {T : Nat} {a b c d : Value} {row : Option Nat} (h : Bx w T a b c d) (hg : w.grownBy w' row) (hne : some T ≠ row) : Bx w' T a b c d := (hg.block T h.lt hne).trans h
theorem Bx.set1 {w : World} {T : Nat} {a b c d : Value} (h : Bx w T a b c d) (v : Value) : Bx (w.setCell ⟨T, 1, none⟩ v) T a v c d := heap_setCell_same w T 1 _ _ v h
theorem Bx.set2 {w : World} {T : Nat} {a b c d : Value} (h : Bx w T a b c d) (v : Value) : Bx (w.setCell ⟨T, 2, none⟩ v) T a b v d := heap_setCell_same w T 2 _ _ v h
theorem Bx.set3 {w : World} {T : Nat} {a b c d : Value} (h : Bx w T a b c d) (v : Value) : Bx (w.setCell ⟨T, 3, none⟩ v) T a b c v := heap_setCell_same w T 3 _ _ v h
theorem Bx.new (w : World) (a b c d : Value) : Bx (w.alloc (.cells #[a, b, c, d] 52)) w.heap.size a b c d := heap_alloc_new w _
theorem Rd.set {w : World} {R G : Nat} {zs : List Int} {p : Nat} {e : Int} (h : Rd w R G zs p e) (T j : Nat) (v : Value) (h1 : T ≠ R) (h2 : T ≠ G) : Rd (w.setCell ⟨T, j, none⟩ v) R G zs p e :=
 h.kept (grown_cell w T j v) (fun e => h1 (Option.some.inj e).symm) (fun e => h2 (Option.some.inj e).symm)
structure Fr (w w' : World) (Q R G U T g : Nat) (po : Option Addr) (pn pc : Nat) (zs : List Int) (st : Nat × Int) (Ky : List Int) (a b c d : Value) : Prop where
 rd : Rd w' R G zs st.1 st.2
 lr : Lr w' Q R po pn pc
 u : Bx w' U (.slice none 0 0) (.slice none 0 0) (.int .i64 0) (.int .i64 0)
 t : Bx w' T a b c d
 ky : Rw w' g Ky
 gr : w.grownBy w' (some R)
 hT : T ≠ R ∧ T ≠ G ∧ T ≠ Q ∧ T ≠ U ∧ T ≠ g ∧ w.heap.size ≤ T
 hR : U ≠ R ∧ g ≠ R ∧ Q ≠ R
theorem Fr.call {w w' w'' : World} {Q R G U T g : Nat} {po : Option Addr} {pn pc : Nat} {zs : List Int} {st st' : Nat × Int} {Ky : List Int} {a b c d : Value} (h : Fr w w' Q R G U T g po pn pc zs st Ky a b c d) (hr : Rd w'' R G zs st'.1 st'.2) (hg : w'.grownBy w'' (some R)) : Fr w w'' Q R G U T g po pn pc zs st' Ky a b c d :=
 ⟨hr, h.lr.kept hg (fun e => h.hR.2.2 (Option.some.inj e)), h.u.kept hg (fun e => h.hR.1 (Option.some.inj e)), h.t.kept hg (fun e => h.hT.1 (Option.some.inj e)), h.ky.kept hg (fun e => h.hR.2.1 (Option.some.inj e)), grown_trans h.gr hg, h.hT, h.hR⟩
theorem Fr.drew {w w' : World} {Q R G U T g : Nat} {po : Option Addr} {pn pc : Nat} {zs : List Int} {st : Nat × Int} {Ky : List Int} {a b c d : Value} (h : Fr w w' Q R G U T g po pn pc zs st Ky a b c d) : Fr w w'.drew Q R G U T g po pn pc zs st Ky a b c d :=
 h.call (h.rd.kept ((Qt.refl w').drew.grown none) (by simp) (by simp)) ((Qt.refl w').drew.grown _)
theorem Fr.frame {w w' w'' : World} {Q R G U T g : Nat} {po : Option Addr} {pn pc : Nat} {zs : List Int} {st : Nat × Int} {Ky : List Int} {a b c d a' b' c' d' : Value} (h : Fr w w' Q R G U T g po pn pc zs st Ky a b c d) (hg : w'.grownBy w'' (some T)) (ht : Bx w'' T a' b' c' d') : Fr w w'' Q R G U T g po pn pc zs st Ky a' b' c' d' :=
 ⟨h.rd.kept hg (fun e => h.hT.1 (Option.some.inj e).symm) (fun e => h.hT.2.1 (Option.some.inj e).symm), h.lr.kept hg (fun e => h.hT.2.2.1 (Option.some.inj e).symm), h.u.kept hg (fun e => h.hT.2.2.2.1 (Option.some.inj e).symm), ht, h.ky.kept hg (fun e => h.hT.2.2.2.2.1 (Option.some.inj e).symm), grown_newR h.gr hg h.hT.2.2.2.2.2, h.hT, h.hR⟩
theorem Bx.set0 {w : World} {T : Nat} {a b c d : Value} (h : Bx w T a b c d) (v : Value) : Bx (w.setCell ⟨T, 0, none⟩ v) T v b c d := heap_setCell_same w T 0 _ _ v h
theorem item_size : (Tryz.prog.info? 52).map (·.size) = some 4 := by kernel_rfl
theorem ret_item {fn : Func} {p : Tmp} (h : fn.results = #[.cell p 52]) (tmps : Array Value) (w : World) (U : Nat) (a b c d : Value) (hp : tmps.getD p undef = .pointer (some ⟨U, 0, none⟩)) (hx : Bx w U a b c d) :
  (results fn tmps).run Tryz.prog w = .ok (.agg #[a, b, c, d]) w :=
 results_cell_row h tmps w U 52 #[a, b, c, d] (0, 0) _ hp hx Tryz.underlying52 rfl item_size
theorem Fr.done {w w' : World} {Q R G U T g : Nat} {po : Option Addr} {pn pc : Nat} {zs : List Int} {st : Nat × Int} {Ky : List Int} {a b c d : Value} (h : Fr w w' Q R G U T g po pn pc zs st Ky a b c d) (hU : w.heap.size ≤ U) (hUG : U ≠ G) (hUg : U ≠ g) :
  Bx ((((w'.setCell ⟨U, 0, none⟩ a).setCell ⟨U, 1, none⟩ b).setCell ⟨U, 2, none⟩ c).setCell ⟨U, 3, none⟩ d) U a b c d ∧ w'.grownBy ((((w'.setCell ⟨U, 0, none⟩ a).setCell ⟨U, 1, none⟩ b).setCell ⟨U, 2, none⟩ c).setCell ⟨U, 3, none⟩ d) (some U) ∧
  Rd ((((w'.setCell ⟨U, 0, none⟩ a).setCell ⟨U, 1, none⟩ b).setCell ⟨U, 2, none⟩ c).setCell ⟨U, 3, none⟩ d) R G zs st.1 st.2 ∧ Rw ((((w'.setCell ⟨U, 0, none⟩ a).setCell ⟨U, 1, none⟩ b).setCell ⟨U, 2, none⟩ c).setCell ⟨U, 3, none⟩ d) g Ky ∧
  w.grownBy ((((w'.setCell ⟨U, 0, none⟩ a).setCell ⟨U, 1, none⟩ b).setCell ⟨U, 2, none⟩ c).setCell ⟨U, 3, none⟩ d) (some R) := by
 have hg := grown_trans (grown_trans (grown_trans (grown_cell w' U 0 a) (grown_cell _ U 1 b)) (grown_cell _ U 2 c)) (grown_cell _ U 3 d)
 refine ⟨(((h.u.set0 a).set1 b).set2 c).set3 d, hg, h.rd.kept hg (fun e => h.hR.1 (Option.some.inj e).symm) (fun e => hUG (Option.some.inj e).symm), h.ky.kept hg (fun e => hUg (Option.some.inj e).symm), grown_newR h.gr hg hU⟩
def U8 (w : World) (b : Nat) : Prop := ∃ cur, w.heap[b]? = some (.cells cur 5 (0, 0))
theorem Rw.u8 {w : World} {g : Nat} {zs : List Int} (h : Rw w g zs) : U8 w g := ⟨_, h⟩
theorem Rd.u8 {w : World} {R G : Nat} {zs : List Int} {p : Nat} {e : Int} (h : Rd w R G zs p e) : U8 w G := by
 obtain ⟨cur, h1, _⟩ := h.row
 exact ⟨cur, h1⟩
structure Im (w : World) (R : Nat) (ao : Option Addr) (n c : Nat) (bo : Option Addr) (m d : Nat) (x : It) : Prop where
 key : Byt w ao n c x.key
 kc : n ≤ c ∧ c ≤ 9223372036854775807
 val : Byt w bo m d x.val
 vc : m ≤ d ∧ d ≤ 9223372036854775807
 kb : ∀ ad, ao = some ad → 0 < n → ad.block ≠ R ∧ U8 w ad.block
 vb : ∀ ad, bo = some ad → 0 < m → ad.block ≠ R ∧ U8 w ad.block
set_option maxHeartbeats 4000000 in
set_option maxRecDepth 100000 in
theorem item_any (Q R G : Nat) (zs : List Int) (s : Nat × Int) (po : Option Addr) (pn pc : Nat) (P : List Int) (w : World) (hq : Lr w Q R po pn pc) (h : Rd w R G zs s.1 s.2) (hbt : Bt zs) (hP : Byt w po pn pc P) (hpb : ∀ ad, po = some ad → 0 < pn → ad.block ≠ R) (hQR : Q ≠ R) (hpn : pn ≤ 5000) (hz : zs.length ≤ 5000) :
  Calls Tryz.prog 44 #[.pointer (some ⟨Q, 0, none⟩)] w fun en w' => (∃ ao n c bo m d, en = .returned (.agg #[.slice ao n c, .slice bo m d, .int .i64 (sItem zs P s).1.size, .int .i64 (sItem zs P s).1.first]) ∧ Im w' R ao n c bo m d (sItem zs P s).1) ∧ Rd w' R G zs (sItem zs P s).2.1 (sItem zs P s).2.2 ∧ w.grownBy w' (some R) := by
 have HQ := hid_intro hq
 have HR := hid_intro h
 have HP := hid_intro hP
 have hRl := h.lt.1
 have HRL := hid_intro hRl
 clear hq h hP hRl
 have HI : Hid (sItem zs P s = sVal zs (sKey zs P s).1 (sV zs (sKey zs P s).2)) := rfl
 have ga := World.grownBy_alloc w (.cells #[.slice none 0 0, .slice none 0 0, .int .i64 0, .int .i64 0] 52) none
 have HKc := hid_intro (key_any Q R G zs s po pn pc P _ (HQ.out.kept ga (by simp)) (HR.out.kept ga (by simp) (by simp)) hbt (HP.out.keptN ga) hpb hQR hpn hz)
 clear ga
 go_enter Tryz.func44, Tryz.ntmps44
 go_wp2_with fail
 refine HKc.out.mono ?_
 rintro en w2 ⟨⟨g, k, rfl, hr2, hk2, hg2, hkk⟩, hd2, hgr2⟩
 have hwg : w.heap.size < g := by simp at hg2; omega
 have U2 := hid_intro ((Bx.new w (.slice none 0 0) (.slice none 0 0) (.int .i64 0) (.int .i64 0)).kept hgr2 (fun e => by have := Option.some.inj e; have := HRL.out; omega))
 have W2 := hid_intro (grown_trans (grown_any (row := some R) (World.grownBy_alloc w (.cells #[.slice none 0 0, .slice none 0 0, .int .i64 0, .int .i64 0] 52) none)) hgr2)
 have Q2 := hid_intro (HQ.out.kept W2.out (fun e => hQR (Option.some.inj e)))
 have K2 := hid_intro hr2
 have D2 := hid_intro hd2
 have HSV := hid_intro (fun (W : World) (hW : Rd W R G zs (sKey zs P s).2.1 (sKey zs P s).2.2) => rd_V R G zs (sKey zs P s).2 W hW hbt)
 have hvl := sV_lt zs (sKey zs P s).2 hbt
 have HB := hid_intro (fun (W : World) (hW : Rd W R G zs (sV zs (sKey zs P s).2).2.1 (sV zs (sKey zs P s).2).2.2) => rd_B R G zs (sV zs (sKey zs P s).2).2 ((sV zs (sKey zs P s).2).1 / 2 : Nat) W hW)
 have HN := hid_intro (fun (W : World) (hW : Rd W R G zs (sV zs (sKey zs P s).2).2.1 (sV zs (sKey zs P s).2).2.2) => rd_N4 R G zs (sV zs (sKey zs P s).2).2 W hW hbt)
 have hnl := sN_lt zs (sV zs (sKey zs P s).2).2 4 hbt
 have HV : Hid (sVal zs (sKey zs P s).1 (sV zs (sKey zs P s).2) = if (sV zs (sKey zs P s).2).1 % 2 = 1 then (⟨(sKey zs P s).1, [], ((sV zs (sKey zs P s).2).1 / 2 : Nat), ((sN zs (sV zs (sKey zs P s).2).2 4).1 : Nat)⟩, (sN zs (sV zs (sKey zs P s).2).2 4).2) else (⟨(sKey zs P s).1, (sB zs (sV zs (sKey zs P s).2).2 ((sV zs (sKey zs P s).2).1 / 2 : Nat)).1, ((sV zs (sKey zs P s).2).1 / 2 : Nat), 0⟩, (sB zs (sV zs (sKey zs P s).2).2 ((sV zs (sKey zs P s).2).1 / 2 : Nat)).2)) := rfl
 have HK2 := hid_intro hk2
 have hRl2 : R < w2.heap.size := hd2.lt.1
 have hGl2 : G < w2.heap.size := hd2.lt.2
 have hQl2 : Q < w2.heap.size := Q2.out.lt
 have hUl := U2.out.lt
 have hgl := hr2.lt
 have HUg : Hid (w.heap.size ≠ g) := fun e => by omega
 have hRU : w.heap.size ≠ R := by have := HRL.out; omega
 have HGLw := hid_intro HR.out.lt.2
 have hGU : w.heap.size ≠ G := by have := HGLw.out; omega
 clear hr2 hk2 hd2 hgr2 HKc hg2
 generalize (sKey zs P s).1 = Ky at *
 generalize (sKey zs P s).2 = s2 at *
 generalize (sV zs s2).2 = s3 at *
 generalize (sV zs s2).1 = tg1 at *
 obtain ⟨qc0, _, _⟩ := Q2.out.cells
 have gb := World.grownBy_alloc w2 (.cells #[.slice (some ⟨g, 0, none⟩) k k, .slice none 0 0, .int .i64 0, .int .i64 0] 52) none
 have F3 : Hid (Fr w (w2.alloc (.cells #[.slice (some ⟨g, 0, none⟩) k k, .slice none 0 0, .int .i64 0, .int .i64 0] 52)) Q R G w.heap.size w2.heap.size g po pn pc zs s2 Ky (.slice (some ⟨g, 0, none⟩) k k) (.slice none 0 0) (.int .i64 0) (.int .i64 0)) :=
  ⟨D2.out.kept gb (by simp) (by simp), Q2.out.kept gb (by simp), U2.out.kept gb (by simp), Bx.new w2 _ _ _ _, K2.out.keptN gb, grown_trans W2.out (grown_any gb), ⟨by omega, by omega, by omega, by omega, by omega, W2.out.size⟩, ⟨hRU, by have := HRL.out; omega, hQR⟩⟩
 obtain ⟨h2, hh2⟩ : ∃ h2 : Nat, tg1 / 2 = h2 := ⟨_, rfl⟩
 have hdiv : (tg1 : Int) / 2 = (h2 : Int) := by omega
 rw [hh2] at HB HV
 have hh3 : h2 ≤ 9223372036854775807 := by omega
 clear hh2 gb D2 Q2 U2 W2 K2
 go_wp2_with fail
 clear qc0
 generalize w2.alloc (.cells #[.slice (some ⟨g, 0, none⟩) k k, .slice none 0 0, .int .i64 0, .int .i64 0] 52) = w3 at *
 have hTl : w.heap.size ≤ w2.heap.size := F3.out.hT.2.2.2.2.2
 have HTL := hid_intro hTl
 clear hTl hRl2 hGl2 hQl2 hUl hgl hwg
 generalize w2.heap.size = T at *
 refine (HSV.out _ F3.out.rd).mono ?_
 rintro en w4 ⟨rfl, hr4, hg4⟩
 have F4 := hid_intro (F3.out.call hr4 hg4)
 clear hr4 hg4 F3
 have f2 := F4.out.t.frozen 2
 obtain ⟨t0, t1, t2, t3⟩ := F4.out.t.cells
 by_cases hod : tg1 % 2 = 1
 ·have hmod : (tg1 : Int) % 2 = 1 := by omega
  rw [if_pos hod] at HV
  have qq := (F4.out.frame (grown_cell w4 T 2 (.int .i64 (h2 : Int))) (F4.out.t.set2 _)).lr.cells.1
  have F5 := hid_intro (F4.out.frame (grown_cell w4 T 2 (.int .i64 (h2 : Int))) (F4.out.t.set2 _))
  go_wp2_with fail
  generalize w4.setCell ⟨T, 2, none⟩ (.int .i64 (h2 : Int)) = w5 at *
  refine (HN.out _ F5.out.rd).mono ?_
  rintro en w6 ⟨rfl, hr6, hg6⟩
  have F6 := hid_intro (F5.out.call hr6 hg6)
  clear hr6 hg6 F5 qq F4 t0 t1 t2 t3 f2
  generalize (sN zs s3 4).1 = fn at *
  have hfn : fn < 4294967296 := hnl
  have f3 := F6.out.t.frozen 3
  obtain ⟨t0, t1, t2, t3⟩ := F6.out.t.cells
  have F7 := hid_intro (F6.out.frame (grown_cell w6 T 3 (.int .i64 (fn : Int))) (F6.out.t.set3 _))
  obtain ⟨v0, v1, v2, v3⟩ := F7.out.t.cells
  obtain ⟨y0, y1, y2, y3⟩ := F7.out.u.cells
  have z0 := F7.out.u.frozen 0
  have z1 := F7.out.u.frozen 1
  have z2 := F7.out.u.frozen 2
  have z3 := F7.out.u.frozen 3
  have HD := hid_intro (F7.out.done (Nat.le_refl _) hGU HUg.out)
  go_wp2
  obtain ⟨d1, d2, d3, d4, d5⟩ := HD.out
  refine bodyPost_ret (ret_item rfl _ _ w.heap.size _ _ _ _ rfl d1) rfl ?_
  rw [HI.out, HV.out]
  exact ⟨⟨_, _, _, _, _, _, rfl, ⟨d4.all k k HK2.out.symm, ⟨Nat.le_refl _, by omega⟩, Byt.zero _ _, ⟨Nat.le_refl _, by omega⟩, fun ad e _ => by obtain rfl := Option.some.inj e; exact ⟨F7.out.hR.2.1, d4.u8⟩, fun ad e _ => by cases e⟩⟩, d3, d5⟩
 ·have hmod : (tg1 : Int) % 2 = 0 := by omega
  rw [if_neg hod] at HV
  have F5 := hid_intro (F4.out.frame (grown_cell w4 T 2 (.int .i64 (h2 : Int))) (F4.out.t.set2 _))
  obtain ⟨q0, _, _⟩ := F5.out.lr.cells
  obtain ⟨x0, x1, x2, x3⟩ := F5.out.t.cells
  go_wp2_with fail
  clear t0 t1 t2 t3 f2
  generalize w4.setCell ⟨T, 2, none⟩ (.int .i64 (h2 : Int)) = w5 at *
  clear F4
  go_region_with (go_at_call 41; refine (HB.out _ (by exact F5.out.drew.rd)).mono ?_; rintro en w6 ⟨⟨bo, m, rfl, hb6, hbo, hm6⟩, hr6, hg6⟩; have F6 := hid_intro (F5.out.drew.call hr6 hg6); have f1 := F6.out.t.frozen 1; obtain ⟨t0, t1, t2, t3⟩ := F6.out.t.cells; obtain ⟨r0, _, _⟩ := F6.out.lr.cells)
  all_goals
   have F7 := hid_intro (F6.out.frame (grown_cell w6 T 1 (.slice bo m m)) (F6.out.t.set1 _))
   have B7 := hid_intro (hb6.kept (grown_cell w6 T 1 (.slice bo m m)) (fun ad e h e2 => by have := hbo h; rw [e] at this; obtain rfl := Option.some.inj this; exact F6.out.hT.2.1 (Option.some.inj e2).symm))
   have HBO := hid_intro hbo
   clear hb6 hbo hr6 hg6
   obtain ⟨v0, v1, v2, v3⟩ := F7.out.t.cells
   obtain ⟨y0, y1, y2, y3⟩ := F7.out.u.cells
   have z0 := F7.out.u.frozen 0
   have z1 := F7.out.u.frozen 1
   have z2 := F7.out.u.frozen 2
   have z3 := F7.out.u.frozen 3
   have HD := hid_intro (F7.out.done (Nat.le_refl _) hGU HUg.out)
   go_wp2
   obtain ⟨d1, d2, d3, d4, d5⟩ := HD.out
   refine bodyPost_ret (ret_item rfl _ _ w.heap.size _ _ _ _ rfl d1) rfl ?_
   rw [HI.out, HV.out]
   refine ⟨⟨_, _, _, _, _, _, rfl, ⟨d4.all k k HK2.out.symm, ⟨Nat.le_refl _, by omega⟩, B7.out.kept d2 (fun ad e h e2 => ?_), ⟨Nat.le_refl _, by omega⟩, fun ad e _ => by obtain rfl := Option.some.inj e; exact ⟨F7.out.hR.2.1, d4.u8⟩, fun ad e h => ?_⟩⟩, d3, d5⟩
   ·have h9 := HBO.out h
    rw [e] at h9
    obtain rfl := Option.some.inj h9
    exact hGU (Option.some.inj e2).symm
   ·have h9 := HBO.out h
    rw [e] at h9
    obtain rfl := Option.some.inj h9
    exact ⟨F7.out.rd.ne, d3.u8⟩
end Go.Proofs.YtcdkkhbkicejiaaGreatDoor
