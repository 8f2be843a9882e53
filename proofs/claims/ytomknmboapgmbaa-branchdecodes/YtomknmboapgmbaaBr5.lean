import Derived.Test.YtomknmboapgmbaaBr4
namespace Go.Proofs.Ytomknmboapgmbaa
open Go.RowKit

theorem split_fit {lv : Int} {L : List (List Int)} {K : List Kd} (h : Fit lv L K) : ∃ k M, L = seps M ∧ K = kids k M := by
  have hl := h.len
  cases K with
  | nil => simp at hl
  | cons k K =>
    have hl2 : K.length = L.length := by simpa using hl
    refine ⟨k, (L.zip K).map (fun q => ⟨q.1, q.2⟩), ?_, ?_⟩
    · unfold seps
      rw [List.map_map]
      have e : (Sk.sep ∘ fun q : List Int × Kd => (⟨q.1, q.2⟩ : Sk)) = Prod.fst := rfl
      rw [e, List.map_fst_zip (by omega)]
    · unfold kids
      rw [List.map_map]
      have e : (Sk.kid ∘ fun q : List Int × Kd => (⟨q.1, q.2⟩ : Sk)) = Prod.snd := rfl
      rw [e, List.map_snd_zip (by omega)]

set_option maxHeartbeats 1000000 in
set_option maxRecDepth 100000 in
theorem bencode_wrong (lv : Int) (a : Option Addr) (n cap : Nat) (L : List (List Int)) (b : Option Addr) (m cap2 : Nat) (K : List Kd) (w : World) (hl : Lz w a L) (hb : Lb L) (hn : L.length = n) (hm : n ≤ 5000) (hc : n ≤ cap) (hcap : cap ≤ 9223372036854775807) (hk : Kl w b K) (hkn : K.length = m) (hkm : m ≤ 5000) (h : bwrong lv L K ≠ 0) :
    Calls Try.prog 18 #[.int .i64 lv, .slice a n cap, .slice b m cap2] w fun en w' => en = .returned (.tuple #[.slice none 0 0, .int .i64 (bwrong lv L K)]) ∧ w.grownBy w' none := by
  have HE := hid_intro (fun (W : World) (hW : Lz W a L) (hW2 : Kl W b K) => berrorOf_any lv a n cap L b m cap2 K W hW hb hn hm hc hcap hW2 hkn hkm)
  generalize bwrong lv L K = e at *
  have h1 : ¬ e = 0 := h
  go_enter Try.func18, Try.ntmps18
  go_wp2_with fail
  refine (HE.out _ hl hk).mono ?_
  rintro en w1 ⟨rfl, hg⟩
  have HG := hid_intro hg
  clear hg hl hk
  go_wp2
  go_ret2
  exact ⟨rfl, HG.out⟩

set_option maxHeartbeats 1000000 in
set_option maxRecDepth 100000 in
theorem bencode_ok (l : Nat) (a : Option Addr) (n cap : Nat) (b : Option Addr) (cap2 : Nat) (k : Kd) (M : List Sk) (w : World) (hl : Lz w a (seps M)) (hb : Lb (seps M)) (hk : Kl w b (kids k M)) (hn : M.length = n) (hc : n ≤ cap) (hcap : cap ≤ 9223372036854775807) (h : bwrong (l : Int) (seps M) (kids k M) = 0) :
    Calls Try.prog 18 #[.int .i64 l, .slice a n cap, .slice b (n + 1) cap2] w fun en w' => ∃ G, en = .returned (.tuple #[.slice (some ⟨G, 0, none⟩) 4092 4092, .int .i64 0]) ∧ Rw w' G (bbody l k M) ∧ w.grownBy w' none ∧ w.heap.size ≤ G := by
  have hf := bwrong_fit.1 h
  have hmy := (bmany_le hf.sep hf.size).1
  have HE := hid_intro (fun (W : World) (hW : Lz W a (seps M)) (hW2 : Kl W b (kids k M)) => berrorOf_any (l : Int) a n cap (seps M) b (n + 1) cap2 (kids k M) W hW hb (by rw [seps_len]; exact hn) (by omega) hc hcap hW2 (by rw [kids_len, hn]) (by omega))
  have HO := hid_intro (fun (W : World) (hW : Lz W a (seps M)) (hW2 : Kl W b (kids k M)) => blayOut_any l a n cap b cap2 k M W hW hW2 hn hc hcap hf)
  rw [h] at HE
  have HL := hid_intro hl
  have HK := hid_intro hk
  clear hl hk h hf
  generalize bbody (l : Int) k M = B at *
  go_enter Try.func18, Try.ntmps18
  go_wp2_with fail
  refine (HE.out _ HL.out HK.out).mono ?_
  rintro en w1 ⟨rfl, hg⟩
  have HG := hid_intro hg
  clear hg
  go_wp2_with fail
  refine (HO.out _ (HL.out.keptN HG.out) (HK.out.keptN HG.out)).mono ?_
  rintro en w3 ⟨G, rfl, h1, h2, h3⟩
  have H1 := hid_intro h1
  have H2 := hid_intro (grown_trans HG.out h2)
  have H3 := hid_intro (Nat.le_trans HG.out.size h3)
  clear h1 h2 h3
  go_wp2
  go_ret2
  exact ⟨G, rfl, H1.out, H2.out, H3.out⟩

/-- What Encode answers. -/
structure Benc (lv : Int) (L : List (List Int)) (K : List Kd) (zs : List Int) (e : Int) : Prop where
  bad : e ≠ 0 → e = bwrong lv L K ∧ zs = []
  good : e = 0 → ∃ k M, L = seps M ∧ K = kids k M ∧ BGood zs lv k M
theorem Benc.len {lv : Int} {L : List (List Int)} {K : List Kd} {zs : List Int} {e : Int} (h : Benc lv L K zs e) (he : e = 0) : zs.length = 4092 := by
  obtain ⟨k, M, rfl, rfl, h1, rfl⟩ := h.good he
  exact bbody_len (bwrong_fit.1 h1).size
theorem Benc.code {lv : Int} {L : List (List Int)} {K : List Kd} {zs : List Int} {e : Int} (h : Benc lv L K zs e) : e = bwrong lv L K := by
  by_cases he : e = 0
  · obtain ⟨k, M, rfl, rfl, h1, rfl⟩ := h.good he
    rw [he, h1]
  · exact (h.bad he).1

theorem kb_bt (k : Kd) : Bt (kb k) := (lb_bt' _ _).app (lb_bt' _ _)
theorem bcells_bt (p : Nat) : ∀ {M : List Sk}, Lb (seps M) → Bt (bcells p M)
  | [], _ => Bt.nil
  | x :: M, h => ((vform_bt _).app (((h x.sep List.mem_cons_self).drop p).app (kb_bt _))).app (bcells_bt p (M := M) (fun y hy => h y (List.mem_cons_of_mem _ hy)))
theorem bslots_bt (p : Nat) : ∀ (M : List Sk) (a : Nat), Bt (bslots p a M)
  | [], _ => Bt.nil
  | _ :: M, _ => (lb_bt' _ _).app (bslots_bt p M _)
theorem bbody_bt {lv : Int} {k : Kd} {M : List Sk} (h : Lb (seps M)) : Bt (bbody lv k M) := by
  unfold bbody bused bhead
  refine Bt.app (Bt.app ((lb_bt' _ _).app ((lb_bt' _ _).app ((lb_bt' _ _).app ((vform_bt _).app ?_)))) ((bslots_bt _ _ _).app ((kb_bt _).app (bcells_bt _ h)))) ?_
  · cases M with
    | nil => exact Bt.take Bt.nil _
    | cons x M => exact (h x.sep List.mem_cons_self).take _
  · intro z hz
    obtain ⟨_, rfl⟩ := List.mem_replicate.1 hz
    omega
theorem Benc.bt {lv : Int} {L : List (List Int)} {K : List Kd} {zs : List Int} {e : Int} (h : Benc lv L K zs e) (hb : Lb L) : Bt zs := by
  by_cases he : e = 0
  · obtain ⟨k, M, rfl, rfl, h1, rfl⟩ := h.good he
    exact bbody_bt hb
  · rw [(h.bad he).2]; exact Bt.nil

/-- Encode. -/
theorem bencode_any (lv : Int) (a : Option Addr) (n cap : Nat) (L : List (List Int)) (b : Option Addr) (m cap2 : Nat) (K : List Kd) (w : World) (hl : Lz w a L) (hb : Lb L) (hn : L.length = n) (hm : n ≤ 5000) (hc : n ≤ cap) (hcap : cap ≤ 9223372036854775807) (hk : Kl w b K) (hkn : K.length = m) (hkm : m ≤ 5000) :
    Calls Try.prog 18 #[.int .i64 lv, .slice a n cap, .slice b m cap2] w fun en w' => (∃ ao j c e zs, en = .returned (.tuple #[.slice ao j c, .int .i64 e]) ∧ Byt w' ao j c zs ∧ Benc lv L K zs e ∧ j ≤ 4092 ∧ j ≤ c ∧ c ≤ 4092 ∧ (e = 0 → ∃ G, ao = some ⟨G, 0, none⟩ ∧ Rw w' G zs ∧ w.heap.size ≤ G ∧ j = 4092 ∧ c = 4092)) ∧ w.grownBy w' none := by
  by_cases h : bwrong lv L K = 0
  · have hf := bwrong_fit.1 h
    obtain ⟨k, M, rfl, rfl⟩ := split_fit hf
    have h1 := hf.l1
    obtain ⟨l, rfl⟩ : ∃ l : Nat, lv = (l : Int) := ⟨lv.toNat, by omega⟩
    rw [seps_len] at hn
    rw [kids_len, hn] at hkn
    subst hkn
    refine (bencode_ok l a n cap b cap2 k M w hl hb hk hn hc hcap h).mono ?_
    rintro en w' ⟨G, rfl, r1, r2, r3⟩
    exact ⟨⟨_, 4092, 4092, 0, bbody l k M, rfl, r1.all 4092 4092 (bbody_len hf.size).symm, ⟨fun h => absurd rfl h, fun _ => ⟨k, M, rfl, rfl, h, rfl⟩⟩, Nat.le_refl _, Nat.le_refl _, Nat.le_refl _, fun _ => ⟨G, rfl, r1, r3, rfl, rfl⟩⟩, r2⟩
  · refine (bencode_wrong lv a n cap L b m cap2 K w hl hb hn hm hc hcap hk hkn hkm h).mono ?_
    rintro en w' ⟨rfl, r2⟩
    exact ⟨⟨none, 0, 0, bwrong lv L K, [], rfl, Byt.empty _, ⟨fun _ => ⟨rfl, rfl⟩, fun e => absurd e h⟩, by omega, by omega, by omega, fun e => absurd e h⟩, r2⟩
end Go.Proofs.Ytomknmboapgmbaa
