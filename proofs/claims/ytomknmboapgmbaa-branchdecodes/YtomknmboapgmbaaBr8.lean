import Derived.Test.YtomknmboapgmbaaBr5
import Derived.Test.YtomknmboapgmbaaBr7
namespace Go.Proofs.Ytomknmboapgmbaa
open Go.RowKit

theorem sk_inj : ∀ {M M' : List Sk}, seps M = seps M' → M.map Sk.kid = M'.map Sk.kid → M = M'
  | [], [], _, _ => rfl
  | [], _ :: _, h, _ => by simp [seps] at h
  | _ :: _, [], h, _ => by simp [seps] at h
  | ⟨s, k⟩ :: M, ⟨s', k'⟩ :: M', h, h2 => by
    simp only [seps, List.map_cons, List.cons.injEq] at h h2
    obtain ⟨rfl, h⟩ := h
    obtain ⟨rfl, h2⟩ := h2
    rw [sk_inj (M := M) (M' := M') h h2]
theorem branch_inj {k k' : Kd} {M M' : List Sk} (h : seps M = seps M') (h2 : kids k M = kids k' M') : k = k' ∧ M = M' := by
  unfold kids at h2
  injection h2 with e1 e2
  exact ⟨e1, sk_inj h e2⟩

theorem sK_ok {zs : List Int} {s : Nat × Int} (h : (sK zs s).2.2 = 0) : s.2 = 0 ∧ s.1 ≤ (sK zs s).2.1 ∧ (sK zs s).2.1 ≤ max s.1 zs.length := by
  have h1 := sN_ok (zs := zs) (s := (sN zs s 4).2) (k := 4) h
  have h2 := sN_ok (zs := zs) (s := s) (k := 4) h1.1
  refine ⟨h2.1, ?_, ?_⟩
  · exact Nat.le_trans h2.2.1 h1.2.1
  · have := h1.2.2
    have := h2.2.2
    show (sN zs (sN zs s 4).2 4).2.1 ≤ _
    omega
theorem bItem_ok {zs P : List Int} {s : Nat × Int} (hb : Bt zs) (h : (bItem zs P s).2.2 = 0) : s.1 + 1 ≤ (bItem zs P s).2.1 ∧ (bItem zs P s).2.1 ≤ max s.1 zs.length := by
  have h1 := sK_ok (zs := zs) (s := (sKey zs P s).2) h
  have h3 := sB_ok (zs := zs) (s := (sV zs s).2) (m := i64 (sV zs s).1) h1.1
  have h4 := sV_ok hb h3.1
  have e : (sKey zs P s).2 = (sB zs (sV zs s).2 (i64 (sV zs s).1)).2 := rfl
  have e2 : (bItem zs P s).2 = (sK zs (sKey zs P s).2).2 := rfl
  rw [e] at h1
  rw [e2, e]
  omega
theorem bLoop_len {zs P : List Int} (hb : Bt zs) : ∀ (n : Nat) (s : Nat × Int) (acc : List Sk), s.1 ≤ zs.length → acc.length ≤ s.1 → (bLoop zs P n s acc).length ≤ zs.length + 1
  | 0, s, acc, h1, h2 => by rw [bLoop]; omega
  | n + 1, s, acc, h1, h2 => by
    rw [bLoop]
    split
    · rename_i h0
      have h3 := bItem_ok hb h0
      exact bLoop_len hb n _ _ (by omega) (by simp; omega)
    · simp; omega
theorem bLoop_ir {zs P : List Int} (hb : Bt zs) (hP : Bt P) (hl : P.length + zs.length ≤ 10000) : ∀ (n : Nat) (s : Nat × Int) (acc : List Sk), (∀ x ∈ acc, Bt x.sep ∧ x.sep.length ≤ 10000) → ∀ x ∈ bLoop zs P n s acc, Bt x.sep ∧ x.sep.length ≤ 10000
  | 0, _, _, h, x, hx => h x hx
  | n + 1, s, acc, h, x, hx => by
    have hnew : ∀ y ∈ acc ++ [(bItem zs P s).1], Bt y.sep ∧ y.sep.length ≤ 10000 := by
      intro y hy
      rcases List.mem_append.1 hy with hy | hy
      · exact h y hy
      · obtain rfl := List.mem_singleton.1 hy
        have h1 := sB_bt (zs := zs) (sV zs s).2 (i64 (sV zs s).1) hb
        refine ⟨hP.app h1.1, ?_⟩
        show (P ++ _).length ≤ _
        rw [List.length_append]
        omega
    rw [bLoop] at hx
    split at hx
    · exact bLoop_ir hb hP hl n _ _ hnew x hx
    · exact hnew x hx
theorem hPre_bt {zs : List Int} (hb : Bt zs) : Bt (hPre zs).1 ∧ (hPre zs).1.length ≤ zs.length := sB_bt _ _ hb
theorem hKid_pl {zs : List Int} (hb : Bt zs) : (hKid zs).2.1 ≤ zs.length := sN_pl (sN_pl (sB_pl (sB_pl (sV_pl hb (sN_pl (sN_pl (sB_pl (Nat.zero_le _))))))))
theorem bparse_ir {zs : List Int} (hb : Bt zs) (hl : zs.length ≤ 5000) : ∀ x ∈ bparse zs, Bt x.sep ∧ x.sep.length ≤ 10000 := by
  have h := hPre_bt hb
  exact bLoop_ir hb h.1 (by omega) _ _ _ (fun x hx => by cases hx)
theorem bparse_len {zs : List Int} (hb : Bt zs) : (bparse zs).length ≤ zs.length + 1 := bLoop_len hb _ _ _ (hKid_pl hb) (Nat.zero_le _)
theorem bparse_lb {zs : List Int} (hb : Bt zs) (hl : zs.length ≤ 5000) : Lb (seps (bparse zs)) := by
  intro s hs
  obtain ⟨x, hx, rfl⟩ := List.mem_map.1 hs
  exact (bparse_ir hb hl x hx).1

/-- What Decode answers. -/
structure Bdec (zs : List Int) (lv : Int) (L : List (List Int)) (K : List Kd) (e : Int) : Prop where
  code : e = 0 ∨ e = 50
  good : e = 0 → zs.length = 4092 ∧ ∃ k M, L = seps M ∧ K = kids k M ∧ BGood zs lv k M
  bad : e ≠ 0 → lv = 0 ∧ L = [] ∧ K = [] ∧ ∀ lv k M, ¬ BGood zs lv k M
theorem BGood.len {zs : List Int} {lv : Int} {k : Kd} {M : List Sk} (h : BGood zs lv k M) : zs.length = 4092 := by
  rw [← h.2]; exact bbody_len (bwrong_fit.1 h.1).size

set_option maxHeartbeats 1000000 in
set_option maxRecDepth 100000 in
theorem bdecode_len (ao : Option Addr) (n c : Nat) (w : World) (h : n ≠ 4092) : Calls Try.prog 26 #[.slice ao n c] w fun en w' => en = .returned (.tuple #[.int .i64 0, .slice none 0 0, .slice none 0 0, .int .i64 50]) ∧ w' = w := by
  go_enter Try.func26, Try.ntmps26
  go_wp2
  (try simp only [Exit.inBlock, Exit.then]); refine bodyPost_ret (results_tmp4 rfl _ _ _) rfl ?_
  exact ⟨rfl, rfl⟩

set_option maxHeartbeats 1000000 in
set_option maxRecDepth 100000 in
/-- Decode of 4092 bytes. -/
theorem bdecode_body (ao : Option Addr) (c : Nat) (zs : List Int) (w : World) (hb : Byt w ao 4092 c zs) (hbt : Bt zs) :
    Calls Try.prog 26 #[.slice ao 4092 c] w fun en w' => (∃ lv a n cap b m cap2 e L K, en = .returned (.tuple #[.int .i64 lv, .slice a n cap, .slice b m cap2, .int .i64 e]) ∧ Bdec zs lv L K e ∧ Lz w' a L ∧ Lb L ∧ L.length = n ∧ n ≤ cap ∧ cap ≤ 9223372036854775807 ∧ Kl w' b K ∧ K.length = m ∧ m ≤ cap2 ∧ cap2 ≤ 9223372036854775807) ∧ w.grownBy w' none := by
  have hl := hb.len
  have HPL := hid_intro (bparse_len hbt)
  have HLB := hid_intro (bparse_lb hbt (by omega))
  have HPB : Hid (∀ lv k M, BGood zs lv k M → ((hLevel zs).1 : Int) = lv ∧ (hKid zs).1 = k ∧ bparse zs = M) := fun lv k M h => by have := bparse_body h; exact ⟨this.1, this.2.1, this.2.2.1⟩
  have HB := hid_intro hb
  clear hb
  go_enter Try.func26, Try.ntmps26
  go_wp2_with fail
  refine (newReader_any ao 4092 c zs _ HB.out (by omega)).mono ?_
  rintro en w1 ⟨R, rfl, hr1, hg1, hR⟩
  have D1 := hid_intro hr1
  have G1 := hid_intro hg1
  clear hr1 hg1
  go_wp2_with fail
  refine (bread_any R w.heap.size zs _ D1.out hbt (by omega)).mono ?_
  rintro en w3 ⟨⟨a, n, cap, b, m, cap2, rfl, hlz, hkl, hn, rfl, hnc, hcm, hmc, hcm2⟩, hg3⟩
  have G3 := hid_intro (grown_new G1.out hg3 (by omega))
  have L3 := hid_intro hlz
  have K3 := hid_intro hkl
  have B3 := hid_intro (HB.out.keptN G3.out)
  have hn5 : n ≤ 4093 := by have := HPL.out; omega
  clear hlz hkl hg3 G1 D1 HPL
  generalize hpz : bparse zs = M at *
  generalize hlz : (hLevel zs).1 = lv at *
  generalize hkz : (hKid zs).1 = k at *
  clear hpz hlz hkz
  go_wp2_with fail
  refine (bencode_any (lv : Int) a n cap (seps M) b (n + 1) cap2 (kids k M) _ L3.out HLB.out (by rw [seps_len]; exact hn) (by omega) hnc hcm K3.out (by rw [kids_len, hn]) (by omega)).mono ?_
  rintro en w4 ⟨⟨bo, j, c', e, ys, rfl, hb4, hbe, hj4, hj5, hj6, _⟩, hg4⟩
  have B4 := hid_intro hb4
  have L4 := hid_intro (L3.out.keptN hg4)
  have K4 := hid_intro (K3.out.keptN hg4)
  have Z4 := hid_intro (B3.out.keptN hg4)
  have G4 := hid_intro (grown_trans G3.out hg4)
  have HYB := hid_intro (hbe.bt HLB.out)
  have HBE := hid_intro hbe
  clear hb4 hg4 hbe L3 K3 B3 G3
  have HN2 : Hid (∀ lv' k' M', BGood zs lv' k' M' → e = 0 ∧ ys = zs) := by
    intro lv' k' M' h
    obtain ⟨rfl, rfl, rfl⟩ := HPB.out lv' k' M' h
    have he : e = 0 := HBE.out.code.trans h.1
    obtain ⟨k2, M2, h1, h2, h3⟩ := HBE.out.good he
    obtain ⟨rfl, rfl⟩ := branch_inj h1 h2
    exact ⟨he, h3.2.symm.trans h.2⟩
  by_cases he : e = 0
  · by_cases hy : ys = zs
    · have HGD : Hid (Bdec zs (lv : Int) (seps M) (kids k M) 0) := ⟨.inl rfl, fun _ => ⟨hl, k, M, rfl, rfl, by
        obtain ⟨k2, M2, h1, h2, h3⟩ := HBE.out.good he
        obtain ⟨rfl, rfl⟩ := branch_inj h1 h2
        rw [← hy]; exact h3⟩, fun h => absurd rfl h⟩
      subst he
      clear HBE HN2
      go_wp2_with fail
      refine (equal_yes _ _ _ _ _ _ _ _ _ B4.out Z4.out hy).mono ?_
      rintro en w5 ⟨rfl, rfl⟩
      clear hy
      go_wp2
      (try simp only [Exit.inBlock, Exit.then]); refine bodyPost_ret (results_tmp4 rfl _ _ _) rfl ?_
      exact ⟨⟨_, a, n, cap, b, n + 1, cap2, 0, seps M, kids k M, rfl, HGD.out, L4.out, HLB.out, by rw [seps_len]; exact hn, hnc, hcm, K4.out, by rw [kids_len, hn], hmc, hcm2⟩, G4.out⟩
    · have HND : Hid (Bdec zs 0 [] [] 50) := ⟨.inr rfl, (fun h => by cases h), fun _ => ⟨rfl, rfl, rfl, fun lv' k' M' h => hy (HN2.out lv' k' M' h).2⟩⟩
      subst he
      clear HBE HN2
      go_wp2_with fail
      refine (equal_no _ _ _ _ _ _ _ _ _ B4.out Z4.out HYB.out hbt hy).mono ?_
      rintro en w5 ⟨rfl, rfl⟩
      clear hy
      go_wp2
      (try simp only [Exit.inBlock, Exit.then]); refine bodyPost_ret (results_tmp4 rfl _ _ _) rfl ?_
      exact ⟨⟨0, none, 0, 0, none, 0, 0, 50, [], [], rfl, HND.out, Lz.zero _ _, (fun s hs => by cases hs), rfl, Nat.le_refl _, by omega, Kl.zero _ _, rfl, Nat.le_refl _, by omega⟩, G4.out⟩
  · have HND : Hid (Bdec zs 0 [] [] 50) := ⟨.inr rfl, (fun h => by cases h), fun _ => ⟨rfl, rfl, rfl, fun lv' k' M' h => he (HN2.out lv' k' M' h).1⟩⟩
    clear HBE HN2
    go_wp2
    (try simp only [Exit.inBlock, Exit.then]); refine bodyPost_ret (results_tmp4 rfl _ _ _) rfl ?_
    exact ⟨⟨0, none, 0, 0, none, 0, 0, 50, [], [], rfl, HND.out, Lz.zero _ _, (fun s hs => by cases hs), rfl, Nat.le_refl _, by omega, Kl.zero _ _, rfl, Nat.le_refl _, by omega⟩, G4.out⟩

/-- Decode. -/
theorem bdecode_any (ao : Option Addr) (n c : Nat) (zs : List Int) (w : World) (hb : Byt w ao n c zs) (hbt : Bt zs) :
    Calls Try.prog 26 #[.slice ao n c] w fun en w' => (∃ lv a n cap b m cap2 e L K, en = .returned (.tuple #[.int .i64 lv, .slice a n cap, .slice b m cap2, .int .i64 e]) ∧ Bdec zs lv L K e ∧ Lz w' a L ∧ Lb L ∧ L.length = n ∧ n ≤ cap ∧ cap ≤ 9223372036854775807 ∧ Kl w' b K ∧ K.length = m ∧ m ≤ cap2 ∧ cap2 ≤ 9223372036854775807) ∧ w.grownBy w' none := by
  have hl := hb.len
  by_cases h : n = 4092
  · subst h
    exact bdecode_body ao c zs w hb hbt
  · refine (bdecode_len ao n c w h).mono ?_
    rintro en w' ⟨rfl, rfl⟩
    exact ⟨⟨0, none, 0, 0, none, 0, 0, 50, [], [], rfl, ⟨.inr rfl, (fun h => by cases h), fun _ => ⟨rfl, rfl, rfl, fun lv' k' M' hg => h (by rw [← hl]; exact hg.len)⟩⟩, Lz.zero _ _, (fun s hs => by cases hs), rfl, Nat.le_refl _, by omega, Kl.zero _ _, rfl, Nat.le_refl _, by omega⟩, World.grownBy.refl _ _⟩
end Go.Proofs.Ytomknmboapgmbaa
