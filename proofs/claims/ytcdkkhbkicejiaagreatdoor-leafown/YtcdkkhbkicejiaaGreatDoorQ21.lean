import Derived.Test.YtcdkkhbkicejiaaGreatDoorQ20
namespace Go.Proofs.YtcdkkhbkicejiaaGreatDoor
open Go.RowKit
theorem sV_ok {zs : List Int} {s : Nat × Int} (hb : Bt zs) (h : (sV zs s).2.2 = 0) : s.2 = 0 ∧ s.1 + 1 ≤ (sV zs s).2.1 ∧ (sV zs s).2.1 ≤ max s.1 zs.length := by
 unfold sV at h ⊢
 split
 ·rename_i h0
  rw [if_pos h0] at h
  split
  ·rename_i h1
   rw [if_pos h1] at h
   obtain ⟨x, n, e⟩ : ∃ x n, rv (zs.drop s.1) = (x, n, 0) := ⟨_, _, by rw [← h1]⟩
   have hb2 := rv_back (zs.drop s.1) x n (hb.drop _) e
   rw [e]
   simp only [List.length_drop] at hb2 ⊢
   exact ⟨h0, by omega, by omega⟩
  ·rename_i h1
   rw [if_neg h1] at h
   exact absurd h h1
 ·rename_i h0
  rw [if_neg h0] at h
  exact absurd h h0
theorem sB_ok {zs : List Int} {s : Nat × Int} {m : Int} (h : (sB zs s m).2.2 = 0) : s.2 = 0 ∧ s.1 ≤ (sB zs s m).2.1 ∧ (sB zs s m).2.1 ≤ max s.1 zs.length := by
 unfold sB at h ⊢
 split
 ·rename_i h0
  rw [if_pos h0] at h
  split
  ·rename_i h1
   rw [if_pos h1] at h
   exact absurd h (by simp)
  ·rename_i h1
   exact ⟨h0, by simp, by simp only; omega⟩
 ·rename_i h0
  rw [if_neg h0] at h
  exact absurd h h0
theorem sN_ok {zs : List Int} {s : Nat × Int} {k : Nat} (h : (sN zs s k).2.2 = 0) : s.2 = 0 ∧ s.1 ≤ (sN zs s k).2.1 ∧ (sN zs s k).2.1 ≤ max s.1 zs.length := by
 unfold sN at h ⊢
 split
 ·rename_i h0
  rw [if_pos h0] at h
  split
  ·rename_i h1
   rw [if_pos h1] at h
   exact absurd h (by simp)
  ·rename_i h1
   exact ⟨h0, by simp, by simp only; omega⟩
 ·rename_i h0
  rw [if_neg h0] at h
  exact absurd h h0
theorem sVal_ok {zs key : List Int} {t : Nat × (Nat × Int)} (h : (sVal zs key t).2.2 = 0) : t.2.2 = 0 ∧ t.2.1 ≤ (sVal zs key t).2.1 ∧ (sVal zs key t).2.1 ≤ max t.2.1 zs.length := by
 unfold sVal at h ⊢
 split
 ·rename_i h0
  rw [if_pos h0] at h
  exact sN_ok h
 ·rename_i h0
  rw [if_neg h0] at h
  exact sB_ok h
theorem sItem_ok {zs P : List Int} {s : Nat × Int} (hb : Bt zs) (h : (sItem zs P s).2.2 = 0) : s.1 + 2 ≤ (sItem zs P s).2.1 ∧ (sItem zs P s).2.1 ≤ max s.1 zs.length := by
 have h1 := sVal_ok (zs := zs) (key := (sKey zs P s).1) (t := sV zs (sKey zs P s).2) h
 have h2 := sV_ok hb h1.1
 have h3 := sB_ok (zs := zs) (s := (sV zs s).2) (m := i64 (sV zs s).1) h2.1
 have h4 := sV_ok hb h3.1
 have e : (sKey zs P s).2 = (sB zs (sV zs s).2 (i64 (sV zs s).1)).2 := rfl
 have e2 : sItem zs P s = sVal zs (sKey zs P s).1 (sV zs (sKey zs P s).2) := rfl
 rw [e] at h2
 rw [e2]
 rw [e] at h1 ⊢
 omega
theorem sB_bt {zs : List Int} (s : Nat × Int) (m : Int) (hb : Bt zs) : Bt (sB zs s m).1 ∧ (sB zs s m).1.length ≤ zs.length := by
 unfold sB
 split
 ·split
  ·exact ⟨Bt.nil, by simp⟩
  ·exact ⟨(hb.drop _).take _, by simp only [List.length_take, List.length_drop]; omega⟩
 ·exact ⟨Bt.nil, by simp⟩
structure Ir (x : It) : Prop where
 b : Itb x
 k : x.key.length ≤ 10000
theorem sVal_ir {zs key : List Int} (t : Nat × (Nat × Int)) (hb : Bt zs) (hk : Bt key) (hl : key.length ≤ 10000) (ht : t.1 < 18446744073709551616) : Ir (sVal zs key t).1 := by
 unfold sVal
 split
 ·have := sN_lt zs t.2 4 hb
  exact ⟨⟨hk, Bt.nil, by simp only; omega, by simp only; omega, by simp only; omega, by simp only; omega⟩, hl⟩
 ·exact ⟨⟨hk, (sB_bt _ _ hb).1, by simp only; omega, by simp only; omega, by simp only; omega, by simp only; omega⟩, hl⟩
theorem sItem_ir {zs P : List Int} (s : Nat × Int) (hb : Bt zs) (hP : Bt P) (hl : P.length + zs.length ≤ 10000) : Ir (sItem zs P s).1 := by
 have h1 := sB_bt (zs := zs) (sV zs s).2 (i64 (sV zs s).1) hb
 exact sVal_ir (zs := zs) (key := (sKey zs P s).1) (sV zs (sKey zs P s).2) hb (hP.app h1.1) (by show (P ++ _).length ≤ _; rw [List.length_append]; omega) (sV_lt _ _ hb)
theorem sLoop_ir {zs P : List Int} (hb : Bt zs) (hP : Bt P) (hl : P.length + zs.length ≤ 10000) : ∀ (n : Nat) (s : Nat × Int) (acc : List It), (∀ x ∈ acc, Ir x) → ∀ x ∈ sLoop zs P n s acc, Ir x
 | 0, _, _, h, x, hx => h x hx
 | n + 1, s, acc, h, x, hx => by
  rw [sLoop] at hx
  split at hx
  ·refine sLoop_ir hb hP hl n _ _ (fun y hy => ?_) x hx
   rcases List.mem_append.1 hy with hy | hy
   ·exact h y hy
   ·obtain rfl := List.mem_singleton.1 hy
    exact sItem_ir s hb hP hl
  ·cases hx
theorem sLoop_len {zs P : List Int} (hb : Bt zs) : ∀ (n : Nat) (s : Nat × Int) (acc : List It), s.1 ≤ zs.length → 2 * acc.length ≤ s.1 → 2 * (sLoop zs P n s acc).length ≤ zs.length
 | 0, s, acc, h1, h2 => by rw [sLoop]; omega
 | n + 1, s, acc, h1, h2 => by
  rw [sLoop]
  split
  ·rename_i h0
   have h3 := sItem_ok hb h0
   exact sLoop_len hb n _ _ (by omega) (by simp; omega)
  ·simp
theorem sHead_bt {zs : List Int} (hb : Bt zs) : Bt (sHead zs).2.1 ∧ (sHead zs).2.1.length ≤ zs.length := sB_bt _ _ hb
theorem sV_pl {zs : List Int} {s : Nat × Int} (hb : Bt zs) (h : s.1 ≤ zs.length) : (sV zs s).2.1 ≤ zs.length := by
 unfold sV
 split
 ·split
  ·rename_i h0 h1
   obtain ⟨x, n, e⟩ : ∃ x n, rv (zs.drop s.1) = (x, n, 0) := ⟨_, _, by rw [← h1]⟩
   have hb2 := rv_back (zs.drop s.1) x n (hb.drop _) e
   rw [e]
   simp only [List.length_drop] at hb2 ⊢
   omega
  ·exact h
 ·exact h
theorem sB_pl {zs : List Int} {s : Nat × Int} {m : Int} (h : s.1 ≤ zs.length) : (sB zs s m).2.1 ≤ zs.length := by
 unfold sB
 split
 ·split
  ·exact h
  ·simp only; omega
 ·exact h
theorem sN_pl {zs : List Int} {s : Nat × Int} {k : Nat} (h : s.1 ≤ zs.length) : (sN zs s k).2.1 ≤ zs.length := by
 unfold sN
 split
 ·split
  ·exact h
  ·simp only; omega
 ·exact h
theorem sHead_pl {zs : List Int} (hb : Bt zs) : (sHead zs).2.2.1 ≤ zs.length := sB_pl (sB_pl (sV_pl hb (sN_pl (sB_pl (Nat.zero_le _)))))
theorem parse_ir {zs : List Int} (hb : Bt zs) (hl : zs.length ≤ 5000) : ∀ x ∈ parse zs, Ir x := by
 have h := sHead_bt hb
 exact sLoop_ir hb h.1 (by omega) _ _ _ (fun x hx => by cases hx)
theorem parse_len {zs : List Int} (hb : Bt zs) (hl : zs.length ≤ 5000) : (parse zs).length ≤ 5000 := by
 have := sLoop_len (P := (sHead zs).2.1) hb (sHead zs).1 (sHead zs).2.2 [] (sHead_pl hb) (by simp)
 unfold parse
 omega
theorem enc_good (zs : List Int) (L : List It) : ((enc L).1 = zs ∧ (enc L).2 = 0 → Good zs L) ∧ (Good zs L → (enc L).1 = zs ∧ (enc L).2 = 0) := by
 unfold enc
 constructor
 ·rintro ⟨h1, h2⟩
  split at h1
  ·rename_i hw
   rw [if_pos hw] at h2
   split at h1
   ·rename_i hs
    exact ⟨hw, hs, h1⟩
   ·rename_i hs
    rw [if_neg hs] at h2
    exact absurd h2 (by simp)
  ·rename_i hw
   rw [if_neg hw] at h2
   exact absurd h2 hw
 ·rintro ⟨h1, h2, h3⟩
  rw [if_pos h1, if_pos h2]
  exact ⟨h3, rfl⟩
def Dec (zs : List Int) (L : List It) (e : Int) : Prop := (e = 0 ∧ Good zs L ∧ zs.length = 4092) ∨ (e = 40 ∧ L = [] ∧ ∀ M, ¬ (Good zs M ∧ zs.length = 4092))
set_option maxHeartbeats 1000000 in
set_option maxRecDepth 100000 in
theorem decode_len (ao : Option Addr) (n c : Nat) (w : World) (h : n ≠ 4092) : Calls Tryz.prog 10 #[.slice ao n c] w fun en w' => en = .returned (.tuple #[.slice none 0 0, .int .i64 40]) ∧ w' = w := by
 go_enter Tryz.func10, Tryz.ntmps10
 go_wp2
 go_ret2
 exact ⟨rfl, rfl⟩
theorem Two.base {w0 w w' : World} {R Q : Nat} (h : Two w w' R Q) (hg : w0.grownBy w none) (h1 : w0.heap.size ≤ R) (h2 : w0.heap.size ≤ Q) : w0.grownBy w' none := h.grown hg h1 h2
set_option maxHeartbeats 2000000 in
set_option maxRecDepth 100000 in
theorem decode_body (ao : Option Addr) (c : Nat) (zs : List Int) (w : World) (hb : Byt w ao 4092 c zs) (hbt : Bt zs) :
  Calls Tryz.prog 10 #[.slice ao 4092 c] w fun en w' => (∃ a n cap e L, en = .returned (.tuple #[.slice a n cap, .int .i64 e]) ∧ Dec zs L e ∧ Il w' a L ∧ L.length = n ∧ n ≤ cap ∧ cap ≤ 9223372036854775807 ∧ (e = 0 → L = parse zs) ∧ Nw w w' 52 a n) ∧ w.grownBy w' none := by
 have hl := hb.len
 have HIR := hid_intro (parse_ir hbt (by omega))
 have HPL := hid_intro (parse_len hbt (by omega))
 have HIB : Hid (Ib (parse zs)) := fun x hx => (HIR.out x hx).b
 have HB := hid_intro hb
 clear hb
 go_enter Tryz.func10, Tryz.ntmps10
 go_wp2_with fail
 refine (newReader_any ao 4092 c zs _ HB.out (by omega)).mono ?_
 rintro en w1 ⟨R, rfl, hr1, hg1, hR⟩
 have ga := World.grownBy_alloc w1 (.cells #[.pointer (some ⟨R, 0, none⟩), .slice none 0 0] 63) none
 have Q2 : Hid (Lr (w1.alloc (.cells #[.pointer (some ⟨R, 0, none⟩), .slice none 0 0] 63)) w1.heap.size R none 0 0) := by
  show _ = _
  exact heap_alloc_new w1 _
 have D2 := hid_intro (hr1.kept ga (by simp) (by simp))
 have G2 := hid_intro (grown_trans hg1 ga)
 have hRl := hr1.lt.1
 have hGl := hr1.lt.2
 have hsz : w.heap.size ≤ w1.heap.size := hg1.size
 clear ga hr1 hg1
 go_wp2_with fail
 generalize w1.alloc (.cells #[.pointer (some ⟨R, 0, none⟩), .slice none 0 0] 63) = w2 at *
 generalize w1.heap.size = Q at *
 refine (items_any Q R w.heap.size zs _ Q2.out D2.out hbt (by omega) (by omega) (by omega)).mono ?_
 rintro en w3 ⟨⟨a, n, cap, rfl, hil, hn, hnc, hcm, hnw⟩, ht3⟩
 have G3 := hid_intro (ht3.grown G2.out (by omega) hsz)
 have W3 := hid_intro (hnw.from G2.out.size)
 clear hnw
 have L3 := hid_intro hil
 have B3 := hid_intro (HB.out.keptN G3.out)
 have hn5 : n ≤ 5000 := by have := HPL.out; omega
 clear hil ht3 G2 D2 Q2
 go_wp2_with fail
 refine (encode_any a n cap (parse zs) _ L3.out HIB.out hn hn5).mono ?_
 rintro en w4 ⟨⟨bo, k, c', rfl, hb4, hk4⟩, hg4⟩
 have B4 := hid_intro hb4
 have L4 := hid_intro (L3.out.keptN hg4)
 have W4 := hid_intro (W3.out.keptN hg4)
 have Z4 := hid_intro (B3.out.keptN hg4)
 have G4 := hid_intro (grown_trans G3.out hg4)
 have HEB := hid_intro (enc_bt HIB.out)
 clear hb4 hg4 L3 B3 G3
 have HEQ := hid_intro (enc_good zs (parse zs))
 have HPB : Hid (∀ M, Good zs M → parse zs = M) := fun M h => parse_body h
 generalize hpz : parse zs = L at *
 have HPZ := hid_intro hpz
 clear hpz
 generalize (enc L).2 = e at *
 generalize (enc L).1 = ys at *
 by_cases he : e = 0
 ·subst he
  by_cases hy : ys = zs
  ·have HGD := hid_intro (HEQ.out.1 ⟨hy, rfl⟩)
   clear HEQ
   go_wp2_with fail
   refine (equal_yes _ _ _ _ _ _ _ _ _ B4.out Z4.out hy).mono ?_
   rintro en w5 ⟨rfl, rfl⟩
   clear hy
   go_wp2
   go_ret2
   exact ⟨⟨a, n, cap, 0, L, rfl, .inl ⟨rfl, HGD.out, hl⟩, L4.out, hn, hnc, hcm, fun _ => HPZ.out.symm, W4.out⟩, G4.out⟩
  ·have HND : Hid (∀ M, ¬ (Good zs M ∧ zs.length = 4092)) := by
    rintro M ⟨h1, _⟩
    obtain rfl := HPB.out M h1
    exact hy (HEQ.out.2 h1).1
   clear HEQ
   go_wp2_with fail
   refine (equal_no _ _ _ _ _ _ _ _ _ B4.out Z4.out HEB.out hbt hy).mono ?_
   rintro en w5 ⟨rfl, rfl⟩
   clear hy
   go_wp2
   go_ret2
   exact ⟨⟨none, 0, 0, 40, [], rfl, .inr ⟨rfl, rfl, HND.out⟩, Il.zero _ _, rfl, Nat.le_refl _, by omega, (fun h => by cases h), Nw.zero _ _ _ _⟩, G4.out⟩
 ·have HND : Hid (∀ M, ¬ (Good zs M ∧ zs.length = 4092)) := by
   rintro M ⟨h1, _⟩
   obtain rfl := HPB.out M h1
   exact he (HEQ.out.2 h1).2
  clear HEQ
  go_wp2
  go_ret2
  exact ⟨⟨none, 0, 0, 40, [], rfl, .inr ⟨rfl, rfl, HND.out⟩, Il.zero _ _, rfl, Nat.le_refl _, by omega, (fun h => by cases h), Nw.zero _ _ _ _⟩, G4.out⟩
theorem decode_new (ao : Option Addr) (n c : Nat) (zs : List Int) (w : World) (hb : Byt w ao n c zs) (hbt : Bt zs) :
  Calls Tryz.prog 10 #[.slice ao n c] w fun en w' => (∃ a n cap e L, en = .returned (.tuple #[.slice a n cap, .int .i64 e]) ∧ Dec zs L e ∧ Il w' a L ∧ Ib L ∧ L.length = n ∧ n ≤ cap ∧ cap ≤ 9223372036854775807 ∧ Nw w w' 52 a n) ∧ w.grownBy w' none := by
 have hl := hb.len
 by_cases h : n = 4092
 ·subst h
  refine (decode_body ao c zs w hb hbt).mono ?_
  rintro en w' ⟨⟨a, n, cap, e, L, rfl, h1, h2, h3, h4, h5, h6, h7⟩, hg⟩
  refine ⟨⟨a, n, cap, e, L, rfl, h1, h2, ?_, h3, h4, h5, h7⟩, hg⟩
  rcases h1 with ⟨he, _⟩ | ⟨_, rfl, _⟩
  ·rw [h6 he]; exact fun x hx => (parse_ir hbt (by omega) x hx).b
  ·exact fun x hx => by cases hx
 ·refine (decode_len ao n c w h).mono ?_
  rintro en w' ⟨rfl, rfl⟩
  exact ⟨⟨none, 0, 0, 40, [], rfl, .inr ⟨rfl, rfl, fun M hM => h (by rw [← hl]; exact hM.2)⟩, Il.zero _ _, (fun x hx => by cases hx), rfl, Nat.le_refl _, by omega, Nw.zero _ _ _ _⟩, World.grownBy.refl _ _⟩
theorem decode_any (ao : Option Addr) (n c : Nat) (zs : List Int) (w : World) (hb : Byt w ao n c zs) (hbt : Bt zs) :
  Calls Tryz.prog 10 #[.slice ao n c] w fun en w' => (∃ a n cap e L, en = .returned (.tuple #[.slice a n cap, .int .i64 e]) ∧ Dec zs L e ∧ Il w' a L ∧ Ib L ∧ L.length = n ∧ n ≤ cap ∧ cap ≤ 9223372036854775807) ∧ w.grownBy w' none := by
 refine (decode_new ao n c zs w hb hbt).mono ?_
 rintro en w' ⟨⟨a, n, cap, e, L, h0, h1, h2, h3, h4, h5, h6, _⟩, hg⟩
 exact ⟨⟨a, n, cap, e, L, h0, h1, h2, h3, h4, h5, h6⟩, hg⟩
end Go.Proofs.YtcdkkhbkicejiaaGreatDoor
