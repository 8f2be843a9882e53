import Derived.Test.YtepcgckapoljpaaGreatQ37
import Derived.Test.YtepcgckapoljpaaGreatQ32
import Derived.Test.YtepcgckapoljpaaGreatQ30
import Derived.Deep.RegionHeld3
import Derived.Test.YtepcgckapoljpaaGreatQ22
import Derived.Deep.CutBlock
import Derived.Test.YtepcgckapoljpaaGreatQ36
import Derived.Lib.SlBytesConst
namespace Go.Proofs.YtepcgckapoljpaaGreat
open Go.RowKit
def stO (t : Option TrT) (key val : List Int) (gone : Bool) : Option TrT := if badB key.length val.length gone = true then t else (treeT t key (nowB key val gone)).getD t
theorem nowB_ok {key val : List Int} {gone : Bool} (hb : badB key.length val.length gone = false) (bk : Bt key) (bv : Bt val) : NowT key (nowB key val gone) ∧ ∀ p ∈ nowB key val gone, p.chain = [] := by
 cases gone with
 | true => exact ⟨⟨by simp [nowB], by simp [nowB], by simp [nowB]⟩, by simp [nowB]⟩
 | false =>
  have hb' : ¬ key.length < 1 ∧ ¬ 255 < key.length ∧ ¬ 262144 < val.length := by
   generalize key.length = a at *
   generalize val.length = b at *
   simp [badB] at hb
   omega
  refine ⟨⟨by simp [nowB], by simp [nowB], fun p hp => ?_⟩, by simp [nowB]⟩
  have : p = ⟨key, val, []⟩ := by simpa [nowB] using hp
  subst this
  exact ⟨by show 1 ≤ key.length; omega, by show key.length ≤ 255; omega, by show val.length ≤ 262144; omega, bk, bv⟩
theorem upd_str (L : List PrT) (key : List Int) (now : List PrT) (hc : ∀ p ∈ now, p.chain = []) : (updT L key now).map strP = updT (L.map strP) key now := by
 have hn : now.map strP = now := by
  conv => rhs; rw [← List.map_id now]
  refine List.map_congr_left (fun p hp => ?_)
  have := hc p hp
  obtain ⟨k, v, c⟩ := p
  simp only at this
  subst this
  rfl
 unfold updT
 simp only [List.map_append, hn, List.filter_map]
 rfl
theorem upd_none_same {t : Option TrT} {key : List Int} {now : List PrT} (ho : OkO t) (hn : NowT key now) (h : treeT t key now = none) : (updT (flatO t) key now).map strP = (flatO t).map strP := by
 have h1 := (tree_none ho).1 h
 have hs : Srt (flatO t) := by
  match t, ho with
  | none, _ => exact List.Pairwise.nil
  | some t, ho => exact flat_srt t.lv t.root ho
 have h2 := upd_same (key := key) hs
 conv => rhs; rw [← h2]
 have hm : (midT (flatO t) key).map strP = now.map strP := by
  have hk : ∀ p ∈ midT (flatO t) key, p.key = key := fun p hp => by
   have := (List.mem_filter.1 hp).2
   exact cmp_zero (by simpa using this)
  revert h1 hk
  generalize midT (flatO t) key = M
  intro h1 hk
  have hnk := hn.key
  clear hn h2 h
  induction M generalizing now with
  | nil =>
   cases now with
   | nil => rfl
   | cons y now => simp at h1
  | cons x M ih =>
   cases now with
   | nil => simp at h1
   | cons y now =>
    simp only [List.map_cons, List.cons.injEq] at h1 ⊢
    refine ⟨?_, ih h1.2 (fun p hp => hk p (List.mem_cons_of_mem _ hp)) (fun p hp => hnk p (List.mem_cons_of_mem _ hp))⟩
    unfold strP
    rw [hk x List.mem_cons_self, hnk y List.mem_cons_self, h1.1]
 unfold updT
 simp only [List.map_append, hm]
theorem st_sd {t : Option TrT} {key val : List Int} {gone : Bool} (h : SdT t) (bk : Bt key) (bv : Bt val) : SdT (stO t key val gone) ∧ (flatO (stO t key val gone)).map strP = dosB ((flatO t).map strP) key val gone := by
 unfold stO dosB
 by_cases hb : badB key.length val.length gone = true
 ·rw [if_pos hb, if_pos hb]
  exact ⟨h, rfl⟩
 ·rw [if_neg hb, if_neg hb]
  obtain ⟨hn, hc⟩ := nowB_ok (by simpa using hb) bk bv
  cases hq : treeT t key (nowB key val gone) with
  | none =>
   refine ⟨h, ?_⟩
   rw [← upd_str _ _ _ hc]
   exact (upd_none_same h.ok hn hq).symm
  | some u =>
   obtain ⟨h1, h2⟩ := h.change hn hc hq
   refine ⟨h1, ?_⟩
   rw [← upd_str _ _ _ hc]
   show (flatO u).map strP = _
   rw [h2]
theorem upd_lenB {L : List PrT} {key : List Int} {now : List PrT} : (updT L key now).length ≤ L.length + now.length := by
 unfold updT
 have h1 : ∀ (M : List PrT), (M.filter fun p => decide (cmpZ p.key key < 0)).length + (M.filter fun p => decide (0 < cmpZ p.key key)).length ≤ M.length := by
  intro M
  induction M with
  | nil => simp
  | cons x M ih =>
   simp only [List.filter_cons, List.length_cons]
   by_cases a1 : cmpZ x.key key < 0
   ·have a2 : ¬ 0 < cmpZ x.key key := by omega
    simp only [a1, a2, decide_true, decide_false, if_true, List.length_cons, Bool.false_eq_true, if_false]
    omega
   ·by_cases a2 : 0 < cmpZ x.key key
    ·simp only [a1, a2, decide_true, decide_false, if_true, List.length_cons, Bool.false_eq_true, if_false]
     omega
    ·simp only [a1, a2, decide_false, Bool.false_eq_true, if_false]
     omega
 have := h1 L
 simp only [List.length_append]
 omega
theorem dos_len {L : List PrT} {key val : List Int} {gone : Bool} : (dosB L key val gone).length ≤ L.length + (if gone then 0 else 1) := by
 unfold dosB
 split
 ·omega
 ·have := upd_lenB (L := L) (key := key) (now := nowB key val gone)
  cases gone
  ·simpa [nowB] using this
  ·simpa [nowB] using this
def ActR (t : Option TrT) (key val : List Int) (gone mark : Bool) (u : Option TrT) : Prop := if mark = true then ∃ zs, zs.length = frO (stO t key val gone) ∧ tkL (gatO (stO t key val gone)) zs = true ∧ u = numO (stO t key val gone) zs else u = stO t key val gone
theorem tk_q : ∀ {zs S : List Int}, tkL S zs = true → ∀ z ∈ zs, 2 ≤ z ∧ z < 524287 ∧ z ∉ S
 | [], _, _, z, hz => by simp at hz
 | y :: zs, S, h, z, hz => by
  rw [tkL, Bool.and_eq_true, decide_eq_true_eq] at h
  rcases List.mem_cons.1 hz with rfl | hz
  ·exact h.1
  ·obtain ⟨h1, h2, h3⟩ := tk_q h.2 z hz
   exact ⟨h1, h2, fun hm => h3 (List.mem_append_left _ hm)⟩
theorem act_sd {t u : Option TrT} {key val : List Int} {gone mark : Bool} (h : SdT t) (bk : Bt key) (bv : Bt val) (ha : ActR t key val gone mark u) : SdT u ∧ (flatO u).map strP = dosB ((flatO t).map strP) key val gone := by
 obtain ⟨h1, h2⟩ := st_sd (key := key) (val := val) (gone := gone) h bk bv
 unfold ActR at ha
 split at ha
 ·obtain ⟨zs, h3, h4, rfl⟩ := ha
  obtain ⟨h5, h6⟩ := h1.num (zs := zs) (fun z hz => .inr ⟨(tk_q h4 z hz).1, (tk_q h4 z hz).2.1⟩)
  exact ⟨h5, h6.trans h2⟩
 ·subst ha
  exact ⟨h1, h2⟩
def ActP (w : World) (t : Option TrT) (key val : List Int) (gone mark : Bool) (en : Ending) (w' : World) : Prop := ∃ q u, en = .returned (.pointer (some ⟨q, 0, none⟩)) ∧ TreeT w' q u ∧ ActR t key val gone mark u ∧ w.grownBy w' none
theorem wit_any (t : Option TrT) (p : Nat) (ka : Option Addr) (kn kc : Nat) (key : List Int) (va : Option Addr) (vn vc : Nat) (val : List Int) (w : World) (ht : TreeT w p t) (ox : OkO t) (hk : Byt w ka kn kc key) (bk : Bt key) (hv : Byt w va vn vc val) (bv : Bt val) :
  Calls Tryz.prog 32 #[.pointer (some ⟨p, 0, none⟩), .slice ka kn kc, .slice va vn vc] w fun en w' => ∃ q, en = .returned (.tuple #[.pointer (some ⟨q, 0, none⟩), .int .i64 (if badB kn vn false = true then 41 else 0)]) ∧ TreeT w' q (stO t key val false) ∧ w.grownBy w' none := by
 have lk := hk.len
 have lv := hv.len
 unfold stO
 rw [lk, lv]
 by_cases hb : badB kn vn false = true
 ·rw [if_pos hb, if_pos hb]
  refine (with_bad p ka kn kc va vn vc w (by simp [badB] at hb; omega)).mono ?_
  rintro en w' ⟨rfl, hg⟩
  exact ⟨p, rfl, ht.kept (FrT.of hg), hg⟩
 ·rw [if_neg hb, if_neg hb]
  have hb' : badB key.length val.length false = false := by rw [lk, lv]; simpa using hb
  obtain ⟨hn, hc⟩ := nowB_ok hb' bk bv
  have hb2 : ¬ kn < 1 ∧ ¬ 255 < kn ∧ ¬ 262144 < vn := by simp [badB] at hb; omega
  refine (with_any changedC t p ka kn kc key va vn vc val w ht ox hk bk hv (by omega) (by omega) (by omega) hn).mono ?_
  rintro en w' ⟨hw, hg⟩
  show ∃ q, _ ∧ TreeT w' q ((treeT t key [⟨key, val, []⟩]).getD t) ∧ _
  cases e1 : treeT t key [⟨key, val, []⟩] with
  | none =>
   rw [e1] at hw
   exact ⟨p, hw, ht.kept (FrT.of hg), hg⟩
  | some u =>
   rw [e1] at hw
   obtain ⟨q, h1, h2⟩ := hw
   exact ⟨q, h1, h2, hg⟩
theorem wot_any (t : Option TrT) (p : Nat) (ka : Option Addr) (kn kc : Nat) (key val : List Int) (w : World) (ht : TreeT w p t) (ox : OkO t) (hk : Byt w ka kn kc key) (bk : Bt key) :
  Calls Tryz.prog 34 #[.pointer (some ⟨p, 0, none⟩), .slice ka kn kc] w fun en w' => ∃ q b, en = .returned (.tuple #[.pointer (some ⟨q, 0, none⟩), .bool b]) ∧ TreeT w' q (stO t key val true) ∧ w.grownBy w' none := by
 refine (without_any changedC t p ka kn kc key w ht ox hk bk).mono ?_
 rintro en w' ⟨hw, hg⟩
 unfold stO
 rw [if_neg (by simp [badB])]
 show ∃ q b, _ ∧ TreeT w' q ((treeT t key []).getD t) ∧ _
 cases e : treeT t key [] with
 | none =>
  rw [e] at hw
  exact ⟨p, _, hw, ht.kept (FrT.of hg), hg⟩
 | some u =>
  rw [e] at hw
  obtain ⟨q, h1, h2⟩ := hw
  exact ⟨q, _, h1, h2, hg⟩
set_option maxHeartbeats 400000 in
theorem num10 (e : Int) (w : World) : Calls Tryz.prog 27 #[.int .i64 e] w fun en w' => en = .returned (.int .i64 e) ∧ w' = w := by
 go_enter Tryz.func27, Tryz.ntmps27
 go_wp2
 go_ret
 exact ⟨rfl, rfl⟩
def pF (i : Nat) : PrT := ⟨[97 + (i : Int)], List.replicate 500 (i : Int), []⟩
def TF : Nat → Option TrT
 | 0 => none
 | k + 1 => (treeT (TF k) (pF k).key [pF k]).getD none
def WF : Nat → Option TrT
 | 0 => TF 9
 | k + 1 => (treeT (WF k) (pF (k + 4)).key []).getD none
theorem tf_some0 : (treeT (TF 0) (pF 0).key [pF 0]).isSome = true := by kernel_rfl
theorem tf_some1 : (treeT (TF 1) (pF 1).key [pF 1]).isSome = true := by kernel_rfl
theorem tf_some2 : (treeT (TF 2) (pF 2).key [pF 2]).isSome = true := by kernel_rfl
theorem tf_some3 : (treeT (TF 3) (pF 3).key [pF 3]).isSome = true := by kernel_rfl
theorem tf_some4 : (treeT (TF 4) (pF 4).key [pF 4]).isSome = true := by kernel_rfl
theorem tf_some5 : (treeT (TF 5) (pF 5).key [pF 5]).isSome = true := by kernel_rfl
theorem tf_some6 : (treeT (TF 6) (pF 6).key [pF 6]).isSome = true := by kernel_rfl
theorem tf_some7 : (treeT (TF 7) (pF 7).key [pF 7]).isSome = true := by kernel_rfl
theorem tf_some8 : (treeT (TF 8) (pF 8).key [pF 8]).isSome = true := by kernel_rfl
theorem tf_some : ∀ (k : Nat), k < 9 → (treeT (TF k) (pF k).key [pF k]).isSome = true
 | 0, _ => tf_some0
 | 1, _ => tf_some1
 | 2, _ => tf_some2
 | 3, _ => tf_some3
 | 4, _ => tf_some4
 | 5, _ => tf_some5
 | 6, _ => tf_some6
 | 7, _ => tf_some7
 | 8, _ => tf_some8
 | k + 9, h => by omega
theorem wf_some0 : (treeT (WF 0) (pF 4).key []).isSome = true := by kernel_rfl
theorem wf_some1 : (treeT (WF 1) (pF 5).key []).isSome = true := by kernel_rfl
theorem wf_some2 : (treeT (WF 2) (pF 6).key []).isSome = true := by kernel_rfl
theorem wf_some3 : (treeT (WF 3) (pF 7).key []).isSome = true := by kernel_rfl
theorem wf_some : ∀ (k : Nat), k < 4 → (treeT (WF k) (pF (k + 4)).key []).isSome = true
 | 0, _ => wf_some0
 | 1, _ => wf_some1
 | 2, _ => wf_some2
 | 3, _ => wf_some3
 | k + 4, h => by omega
theorem tf9_high : highO (TF 9) = 2 := by kernel_rfl
theorem tf9_fresh : frO (TF 9) = 3 := by kernel_rfl
theorem tf9_len : (flatO (TF 9)).length = 9 := by kernel_rfl
theorem tf9_tell : (tellO (TF 9)).map (fun x => (x.ps.length, x.ss)) = [(4, []), (5, []), (0, [[101]])] := by kernel_rfl
theorem wf4_high : highO (WF 4) = 1 := by kernel_rfl
theorem wf4_len : (flatO (WF 4)).length = 5 := by kernel_rfl
theorem wf4_get : getO (WF 4) [105] = some (List.replicate 500 8) := by kernel_rfl
theorem un_tk {t : Option TrT} {has zs : List Int} {lo : Int} (hm : ∀ z, z ∈ has ↔ z ∈ gatO t) (h : UnP has lo (frO t) zs) : tkL (gatO t) zs = true := tk_of h.ris (fun z hz => by
 obtain ⟨_, h2, h3, h4⟩ := h.el z hz
 exact ⟨h2, h3, fun k => h4 ((hm z).2 k)⟩)
theorem has_le {t : Option TrT} {has : List Int} (hr : RisN has) (hm : ∀ z, z ∈ has ↔ z ∈ gatO t) : has.length ≤ (gatO t).length := nodup_le hr.nodup (fun z hz => (hm z).1 hz)
set_option maxHeartbeats 16000000 in
set_option maxRecDepth 100000 in
theorem act_any (t : Option TrT) (p : Nat) (ka : Option Addr) (kn kc : Nat) (key : List Int) (va : Option Addr) (vn vc : Nat) (val : List Int) (gone mark : Bool) (no : Int) (w : World) (ht : TreeT w p t) (hs : SdT t) (hk : Byt w ka kn kc key) (hv : Byt w va vn vc val) (bk : Bt key) (bv : Bt val) (hl : (flatO (stO t key val gone)).length ≤ 2000) :
  Calls Tryz.prog 8 #[.pointer (some ⟨p, 0, none⟩), .agg #[.slice ka kn kc, .slice va vn vc, .bool gone, .bool mark, .int .i64 no]] w fun en w' => ActP w t key val gone mark en w' := by
 have g0 := World.grownBy_alloc w (.cells #[.slice ka kn kc, .slice va vn vc, .bool gone, .bool mark, .int .i64 no] 32) none
 have x1 := heap_at0 w #[.slice ka kn kc, .slice va vn vc, .bool gone, .bool mark, .int .i64 no] 32
 have HT := hid_intro (ht.kept (FrT.of g0))
 have HK := hid_intro (hk.keptN g0)
 have HV := hid_intro (hv.keptN g0)
 have G0 := hid_intro g0
 have X1 := hid_intro x1
 obtain ⟨hs1, _⟩ := st_sd (key := key) (val := val) (gone := gone) hs bk bv
 have HS1 := hid_intro hs1
 have HO := hid_intro hs.ok
 have PG := hid_intro (hs1.pages hl)
 have lk := hk.len
 have lv := hv.len
 have HKL := hid_intro (And.intro lk lv)
 clear ht hk hv g0 hs hs1 hl lk lv
 go_enter Tryz.func8, Tryz.ntmps8
 go_upto_region 1 with fail
 generalize w.alloc (.cells #[.slice ka kn kc, .slice va vn vc, .bool gone, .bool mark, .int .i64 no] 32) = w1 at *
 generalize w.heap.size = B at *
 have d0 := cell_heap (i := 0) x1 rfl
 have d1 := cell_heap (i := 1) x1 rfl
 have d2 := cell_heap (i := 2) x1 rfl
 have d3 := cell_heap (i := 3) x1 rfl
 have d4 := cell_heap (i := 4) x1 rfl
 clear x1
 obtain ⟨t1, ht1⟩ : ∃ t1, stO t key val gone = t1 := ⟨_, rfl⟩
 rw [ht1] at HS1 PG
 have HT1 := hid_intro ht1
 clear ht1
 obtain ⟨F, hF⟩ : ∃ F, frO t1 = F := ⟨_, rfl⟩
 rw [hF] at PG
 have HF := hid_intro hF
 clear hF
 cases gone with
 | true =>
  have WC := hid_intro (wot_any t p ka kn kc key val w1 HT.out HO.out HK.out bk)
  rw [HT1.out] at WC
  go_wp2_with fail
  refine WC.out.mono ?_
  rintro en w2 ⟨q, b, rfl, ht2, hg2⟩
  have T2 := hid_intro ht2
  have G2 := hid_intro hg2
  have e3 := keep1 d3 hg2
  have e4 := keep1 d4 hg2
  clear ht2 hg2 WC d0 d1 d2 d3 d4
  go_upto_region 9 with (first | (go_at_call 27; refine (num10 _ _).mono ?_; rintro en wz ⟨rfl, hwz⟩; rw [hwz]; clear hwz) | fail)
  cases mark with
  | false =>
   go_wp2
   go_ret
   exact ⟨q, t1, rfl, T2.out, by unfold ActR; rw [if_neg (by simp)]; exact HT1.out.symm, grown_trans G0.out G2.out⟩
  | true =>
   have NC := hid_intro (fun (W : World) (hW : w2.grownBy W none) => numbersL_any t1 q W (T2.out.kept (FrT.of hW)) HS1.out.nq)
   have FC := hid_intro (fun (W : World) (hW : w2.grownBy W none) => tfresh_any t1 q W (T2.out.kept (FrT.of hW)) HS1.out.ok (by have := PG.out; have := HF.out; omega))
   rw [HF.out] at FC
   go_upto_region 10 with fail
   go_region_held3 (fun w' => w'.cell? ⟨B, 4, none⟩ = some (.int .i64 no)) (first | exact e4 | exact T5 | exact T6 | exact T7 | go_keep) (first
    | (go_at_call 24; refine (NC.out _ ((Qt.refl _).drew.grown none)).mono ?_; rintro en w5 ⟨na, nn, nc, has, rfl, hn5, hr5, hm5, hv5, hg5⟩; have H5 := hid_intro (show w2.grownBy w5 none from grown_trans ((Qt.refl _).drew.grown none) hg5); have N5 := hid_intro hn5; have M5 := hid_intro (And.intro hr5 hm5); clear hg5 hn5 hr5 hm5 hv5; have T5 := keep1 e4 H5.out)
    | (go_at_call 17; refine (FC.out _ H5.out).mono ?_; rintro en w6 ⟨rfl, hg6⟩; have H6 := hid_intro (grown_trans H5.out hg6); have N6 := hid_intro (EsT.kept N5.out (by decide) (FrT.of hg6)); clear hg6; have T6 := keep1 e4 H6.out)
    | (go_at_call 25; refine (unlike_any na nn nc has no F _ N6.out (by have := PG.out; omega)).mono ?_; rintro en w7 ⟨ua, un, uc, zs, rfl, hz7, hu7, hg7⟩; have H7 := hid_intro (grown_trans H6.out hg7); have N7 := hid_intro hz7; have U7 := hid_intro hu7; clear hg7 hz7 hu7; have T7 := keep1 e4 H7.out)
    | fail)
   have ul := N7.out.num
   have HUL := hid_intro ul
   by_cases hun : un = F
   ·have hb : ((un : Int) != (F : Int)) = false := by simp [hun]
    have TK : Hid (tkL (gatO t1) zs = true) := un_tk (lo := no) M5.out.2 (by rw [HF.out]; exact U7.out)
    have HLN : Hid (zs.length = F) := ul.trans hun
    clear hun ul
    go_wp2_with fail
    refine (FC.out w7 H7.out).mono ?_
    rintro en w8 ⟨rfl, hg8⟩
    have H8 := hid_intro (grown_trans H7.out hg8)
    have N8 := hid_intro (EsT.kept N7.out (by decide) (FrT.of hg8))
    clear hg8
    have NB := hid_intro (numbered_any t1 q ua un uc zs w8 (T2.out.kept (FrT.of H8.out)) HS1.out.ok HS1.out.nq (by have := PG.out; have := HF.out; omega) N8.out (fun z hz => by obtain ⟨h1, h2, _⟩ := tk_q TK.out z hz; omega))
    go_wp2_with fail
    refine NB.out.mono ?_
    rintro en wb ⟨hen, hgb⟩
    rw [if_pos ⟨by rw [HLN.out, HF.out], TK.out⟩] at hen
    obtain ⟨q2, rfl, htb⟩ := hen
    have TB := hid_intro htb
    have GB := hid_intro (grown_trans (grown_trans G2.out H8.out) hgb)
    clear htb hgb NB
    go_wp2_with (first | (go_at_call 27; refine (num10 _ _).mono ?_; rintro en wz ⟨rfl, hwz⟩; rw [hwz]; clear hwz) | fail)
    go_ret
    exact ⟨q2, numO t1 zs, rfl, TB.out, by unfold ActR; rw [if_pos rfl, HT1.out]; exact ⟨zs, by rw [HLN.out, HF.out], TK.out, rfl⟩, grown_trans G0.out GB.out⟩
   ·have hb : ((un : Int) != (F : Int)) = true := by simp; omega
    clear hun ul
    go_wp2_with fail
    refine (FC.out w7 H7.out).mono ?_
    rintro en w8 ⟨rfl, hg8⟩
    have H8 := hid_intro (grown_trans H7.out hg8)
    clear hg8
    go_wp2_with fail
    refine (NC.out w8 H8.out).mono ?_
    rintro en w9 ⟨na9, nn9, nc9, has9, rfl, hn9, hr9, hm9, hv9, hg9⟩
    have H9 := hid_intro (grown_trans H8.out hg9)
    have N9 := hid_intro hn9
    have M9 := hid_intro (And.intro hr9 hm9)
    clear hg9 hn9 hr9 hm9 hv9
    go_wp2_with fail
    refine (FC.out w9 H9.out).mono ?_
    rintro en wa ⟨rfl, hga⟩
    have Ha := hid_intro (grown_trans H9.out hga)
    have Na := hid_intro (EsT.kept N9.out (by decide) (FrT.of hga))
    clear hga
    go_wp2_with fail
    refine (unlike_any na9 nn9 nc9 has9 2 F wa Na.out (by have := PG.out; omega)).mono ?_
    rintro en w8 ⟨va8, vn8, vc8, zs, rfl, hz8, hu8, hg8⟩
    have H8 := hid_intro (grown_trans Ha.out hg8)
    have N8 := hid_intro hz8
    have TK : Hid (tkL (gatO t1) zs = true) := un_tk (lo := 2) M9.out.2 (by rw [HF.out]; exact hu8)
    have HLN : Hid (zs.length = F) := un_full hu8 (by have := has_le M9.out.1 M9.out.2; have := PG.out; omega)
    clear hg8 hz8 hu8
    have NB := hid_intro (numbered_any t1 q va8 vn8 vc8 zs w8 (T2.out.kept (FrT.of H8.out)) HS1.out.ok HS1.out.nq (by have := PG.out; have := HF.out; omega) N8.out (fun z hz => by obtain ⟨h1, h2, _⟩ := tk_q TK.out z hz; omega))
    go_wp2_with fail
    refine NB.out.mono ?_
    rintro en wb ⟨hen, hgb⟩
    rw [if_pos ⟨by rw [HLN.out, HF.out], TK.out⟩] at hen
    obtain ⟨q2, rfl, htb⟩ := hen
    have TB := hid_intro htb
    have GB := hid_intro (grown_trans (grown_trans G2.out H8.out) hgb)
    clear htb hgb NB
    go_wp2_with (first | (go_at_call 27; refine (num10 _ _).mono ?_; rintro en wz ⟨rfl, hwz⟩; rw [hwz]; clear hwz) | fail)
    go_ret
    exact ⟨q2, numO t1 zs, rfl, TB.out, by unfold ActR; rw [if_pos rfl, HT1.out]; exact ⟨zs, by rw [HLN.out, HF.out], TK.out, rfl⟩, grown_trans G0.out GB.out⟩
 | false =>
  have WC := hid_intro (wit_any t p ka kn kc key va vn vc val w1 HT.out HO.out HK.out bk HV.out bv)
  rw [HT1.out] at WC
  obtain ⟨bad, hbad⟩ : ∃ b, badB kn vn false = b := ⟨_, rfl⟩
  rw [hbad] at WC
  obtain ⟨ev, hev⟩ : ∃ ev : Int, (if bad = true then (41 : Int) else 0) = ev := ⟨_, rfl⟩
  rw [hev] at WC
  have HEV := hid_intro hev
  have HBD := hid_intro hbad
  clear hev hbad
  go_wp2_with fail
  refine WC.out.mono ?_
  rintro en w2 ⟨q, rfl, ht2, hg2⟩
  have T2 := hid_intro ht2
  have G2 := hid_intro hg2
  have e0 := keep1 d0 hg2
  have e1 := keep1 d1 hg2
  have e3 := keep1 d3 hg2
  have e4 := keep1 d4 hg2
  clear ht2 hg2 WC d0 d1 d2 d3 d4
  go_upto_region 5 with fail
  go_cut [9] from 32 to 48 (fun s9 wx => s9 = .bool bad ∧ wx = w2)
  case first =>
   by_cases b1 : kn < 1
   ·have k1 : (kn : Int) < 1 := by omega
    have HB : Hid (bad = true) := by show bad = true; rw [← HBD.out]; simp [badB, b1]
    go_wp2_with fail
    go_meet
    exact ⟨by rw [HB.out], rfl⟩
   ·have k1 : ¬ (kn : Int) < 1 := by omega
    by_cases b2 : 255 < kn
    ·have k2 : (255 : Int) < (kn : Int) := by omega
     have HB : Hid (bad = true) := by show bad = true; rw [← HBD.out]; simp [badB, b2]
     go_wp2_with fail
     go_meet
     exact ⟨by rw [HB.out], rfl⟩
    ·have k2 : ¬ (255 : Int) < (kn : Int) := by omega
     by_cases b3 : 262144 < vn
     ·have k3 : (262144 : Int) < (vn : Int) := by omega
      have HB : Hid (bad = true) := by show bad = true; rw [← HBD.out]; simp [badB, b3]
      go_wp2_with fail
      go_meet
      exact ⟨by rw [HB.out], rfl⟩
     ·have k3 : ¬ (262144 : Int) < (vn : Int) := by omega
      have HB : Hid (bad = false) := by
       show bad = false
       rw [← HBD.out]
       unfold badB
       rw [decide_eq_false b1, decide_eq_false b2, decide_eq_false b3]
       rfl
      go_wp2_with fail
      go_meet
      exact ⟨by rw [HB.out], rfl⟩
  case rest =>
   obtain ⟨rfl, rfl⟩ := hcut
   clear e0 e1
   cases bad with
   | true =>
    have hev : ev = 41 := by have := HEV.out; simpa using this.symm
    subst hev
    go_upto_region 9 with (first | (go_at_call 27; refine (num10 _ _).mono ?_; rintro en wz ⟨rfl, hwz⟩; rw [hwz]; clear hwz) | fail)
    cases mark with
    | false =>
     go_wp2
     go_ret
     exact ⟨q, t1, rfl, T2.out, by unfold ActR; rw [if_neg (by simp)]; exact HT1.out.symm, grown_trans G0.out G2.out⟩
    | true =>
     have NC := hid_intro (fun (W : World) (hW : wc.grownBy W none) => numbersL_any t1 q W (T2.out.kept (FrT.of hW)) HS1.out.nq)
     have FC := hid_intro (fun (W : World) (hW : wc.grownBy W none) => tfresh_any t1 q W (T2.out.kept (FrT.of hW)) HS1.out.ok (by have := PG.out; have := HF.out; omega))
     rw [HF.out] at FC
     go_upto_region 10 with fail
     go_region_held3 (fun w' => w'.cell? ⟨B, 4, none⟩ = some (.int .i64 no)) (first | exact e4 | exact T5 | exact T6 | exact T7 | go_keep) (first
      | (go_at_call 24; refine (NC.out _ ((Qt.refl _).drew.grown none)).mono ?_; rintro en w5 ⟨na, nn, nc, has, rfl, hn5, hr5, hm5, hv5, hg5⟩; have H5 := hid_intro (show wc.grownBy w5 none from grown_trans ((Qt.refl _).drew.grown none) hg5); have N5 := hid_intro hn5; have M5 := hid_intro (And.intro hr5 hm5); clear hg5 hn5 hr5 hm5 hv5; have T5 := keep1 e4 H5.out)
      | (go_at_call 17; refine (FC.out _ H5.out).mono ?_; rintro en w6 ⟨rfl, hg6⟩; have H6 := hid_intro (grown_trans H5.out hg6); have N6 := hid_intro (EsT.kept N5.out (by decide) (FrT.of hg6)); clear hg6; have T6 := keep1 e4 H6.out)
      | (go_at_call 25; refine (unlike_any na nn nc has no F _ N6.out (by have := PG.out; omega)).mono ?_; rintro en w7 ⟨ua, un, uc, zs, rfl, hz7, hu7, hg7⟩; have H7 := hid_intro (grown_trans H6.out hg7); have N7 := hid_intro hz7; have U7 := hid_intro hu7; clear hg7 hz7 hu7; have T7 := keep1 e4 H7.out)
      | fail)
     have ul := N7.out.num
     have HUL := hid_intro ul
     by_cases hun : un = F
     ·have hb : ((un : Int) != (F : Int)) = false := by simp [hun]
      have TK : Hid (tkL (gatO t1) zs = true) := un_tk (lo := no) M5.out.2 (by rw [HF.out]; exact U7.out)
      have HLN : Hid (zs.length = F) := ul.trans hun
      clear hun ul
      go_wp2_with fail
      refine (FC.out w7 H7.out).mono ?_
      rintro en w8 ⟨rfl, hg8⟩
      have H8 := hid_intro (grown_trans H7.out hg8)
      have N8 := hid_intro (EsT.kept N7.out (by decide) (FrT.of hg8))
      clear hg8
      have NB := hid_intro (numbered_any t1 q ua un uc zs w8 (T2.out.kept (FrT.of H8.out)) HS1.out.ok HS1.out.nq (by have := PG.out; have := HF.out; omega) N8.out (fun z hz => by obtain ⟨h1, h2, _⟩ := tk_q TK.out z hz; omega))
      go_wp2_with fail
      refine NB.out.mono ?_
      rintro en wb ⟨hen, hgb⟩
      rw [if_pos ⟨by rw [HLN.out, HF.out], TK.out⟩] at hen
      obtain ⟨q2, rfl, htb⟩ := hen
      have TB := hid_intro htb
      have GB := hid_intro (grown_trans (grown_trans G2.out H8.out) hgb)
      clear htb hgb NB
      go_wp2_with (first | (go_at_call 27; refine (num10 _ _).mono ?_; rintro en wz ⟨rfl, hwz⟩; rw [hwz]; clear hwz) | fail)
      go_ret
      exact ⟨q2, numO t1 zs, rfl, TB.out, by unfold ActR; rw [if_pos rfl, HT1.out]; exact ⟨zs, by rw [HLN.out, HF.out], TK.out, rfl⟩, grown_trans G0.out GB.out⟩
     ·have hb : ((un : Int) != (F : Int)) = true := by simp; omega
      clear hun ul
      go_wp2_with fail
      refine (FC.out w7 H7.out).mono ?_
      rintro en w8 ⟨rfl, hg8⟩
      have H8 := hid_intro (grown_trans H7.out hg8)
      clear hg8
      go_wp2_with fail
      refine (NC.out w8 H8.out).mono ?_
      rintro en w9 ⟨na9, nn9, nc9, has9, rfl, hn9, hr9, hm9, hv9, hg9⟩
      have H9 := hid_intro (grown_trans H8.out hg9)
      have N9 := hid_intro hn9
      have M9 := hid_intro (And.intro hr9 hm9)
      clear hg9 hn9 hr9 hm9 hv9
      go_wp2_with fail
      refine (FC.out w9 H9.out).mono ?_
      rintro en wa ⟨rfl, hga⟩
      have Ha := hid_intro (grown_trans H9.out hga)
      have Na := hid_intro (EsT.kept N9.out (by decide) (FrT.of hga))
      clear hga
      go_wp2_with fail
      refine (unlike_any na9 nn9 nc9 has9 2 F wa Na.out (by have := PG.out; omega)).mono ?_
      rintro en w8 ⟨va8, vn8, vc8, zs, rfl, hz8, hu8, hg8⟩
      have H8 := hid_intro (grown_trans Ha.out hg8)
      have N8 := hid_intro hz8
      have TK : Hid (tkL (gatO t1) zs = true) := un_tk (lo := 2) M9.out.2 (by rw [HF.out]; exact hu8)
      have HLN : Hid (zs.length = F) := un_full hu8 (by have := has_le M9.out.1 M9.out.2; have := PG.out; omega)
      clear hg8 hz8 hu8
      have NB := hid_intro (numbered_any t1 q va8 vn8 vc8 zs w8 (T2.out.kept (FrT.of H8.out)) HS1.out.ok HS1.out.nq (by have := PG.out; have := HF.out; omega) N8.out (fun z hz => by obtain ⟨h1, h2, _⟩ := tk_q TK.out z hz; omega))
      go_wp2_with fail
      refine NB.out.mono ?_
      rintro en wb ⟨hen, hgb⟩
      rw [if_pos ⟨by rw [HLN.out, HF.out], TK.out⟩] at hen
      obtain ⟨q2, rfl, htb⟩ := hen
      have TB := hid_intro htb
      have GB := hid_intro (grown_trans (grown_trans G2.out H8.out) hgb)
      clear htb hgb NB
      go_wp2_with (first | (go_at_call 27; refine (num10 _ _).mono ?_; rintro en wz ⟨rfl, hwz⟩; rw [hwz]; clear hwz) | fail)
      go_ret
      exact ⟨q2, numO t1 zs, rfl, TB.out, by unfold ActR; rw [if_pos rfl, HT1.out]; exact ⟨zs, by rw [HLN.out, HF.out], TK.out, rfl⟩, grown_trans G0.out GB.out⟩
   | false =>
    have hev : ev = 0 := by have := HEV.out; simpa using this.symm
    subst hev
    go_upto_region 9 with (first | (go_at_call 27; refine (num10 _ _).mono ?_; rintro en wz ⟨rfl, hwz⟩; rw [hwz]; clear hwz) | fail)
    cases mark with
    | false =>
     go_wp2
     go_ret
     exact ⟨q, t1, rfl, T2.out, by unfold ActR; rw [if_neg (by simp)]; exact HT1.out.symm, grown_trans G0.out G2.out⟩
    | true =>
     have NC := hid_intro (fun (W : World) (hW : wc.grownBy W none) => numbersL_any t1 q W (T2.out.kept (FrT.of hW)) HS1.out.nq)
     have FC := hid_intro (fun (W : World) (hW : wc.grownBy W none) => tfresh_any t1 q W (T2.out.kept (FrT.of hW)) HS1.out.ok (by have := PG.out; have := HF.out; omega))
     rw [HF.out] at FC
     go_upto_region 10 with fail
     go_region_held3 (fun w' => w'.cell? ⟨B, 4, none⟩ = some (.int .i64 no)) (first | exact e4 | exact T5 | exact T6 | exact T7 | go_keep) (first
      | (go_at_call 24; refine (NC.out _ ((Qt.refl _).drew.grown none)).mono ?_; rintro en w5 ⟨na, nn, nc, has, rfl, hn5, hr5, hm5, hv5, hg5⟩; have H5 := hid_intro (show wc.grownBy w5 none from grown_trans ((Qt.refl _).drew.grown none) hg5); have N5 := hid_intro hn5; have M5 := hid_intro (And.intro hr5 hm5); clear hg5 hn5 hr5 hm5 hv5; have T5 := keep1 e4 H5.out)
      | (go_at_call 17; refine (FC.out _ H5.out).mono ?_; rintro en w6 ⟨rfl, hg6⟩; have H6 := hid_intro (grown_trans H5.out hg6); have N6 := hid_intro (EsT.kept N5.out (by decide) (FrT.of hg6)); clear hg6; have T6 := keep1 e4 H6.out)
      | (go_at_call 25; refine (unlike_any na nn nc has no F _ N6.out (by have := PG.out; omega)).mono ?_; rintro en w7 ⟨ua, un, uc, zs, rfl, hz7, hu7, hg7⟩; have H7 := hid_intro (grown_trans H6.out hg7); have N7 := hid_intro hz7; have U7 := hid_intro hu7; clear hg7 hz7 hu7; have T7 := keep1 e4 H7.out)
      | fail)
     have ul := N7.out.num
     have HUL := hid_intro ul
     by_cases hun : un = F
     ·have hb : ((un : Int) != (F : Int)) = false := by simp [hun]
      have TK : Hid (tkL (gatO t1) zs = true) := un_tk (lo := no) M5.out.2 (by rw [HF.out]; exact U7.out)
      have HLN : Hid (zs.length = F) := ul.trans hun
      clear hun ul
      go_wp2_with fail
      refine (FC.out w7 H7.out).mono ?_
      rintro en w8 ⟨rfl, hg8⟩
      have H8 := hid_intro (grown_trans H7.out hg8)
      have N8 := hid_intro (EsT.kept N7.out (by decide) (FrT.of hg8))
      clear hg8
      have NB := hid_intro (numbered_any t1 q ua un uc zs w8 (T2.out.kept (FrT.of H8.out)) HS1.out.ok HS1.out.nq (by have := PG.out; have := HF.out; omega) N8.out (fun z hz => by obtain ⟨h1, h2, _⟩ := tk_q TK.out z hz; omega))
      go_wp2_with fail
      refine NB.out.mono ?_
      rintro en wb ⟨hen, hgb⟩
      rw [if_pos ⟨by rw [HLN.out, HF.out], TK.out⟩] at hen
      obtain ⟨q2, rfl, htb⟩ := hen
      have TB := hid_intro htb
      have GB := hid_intro (grown_trans (grown_trans G2.out H8.out) hgb)
      clear htb hgb NB
      go_wp2_with (first | (go_at_call 27; refine (num10 _ _).mono ?_; rintro en wz ⟨rfl, hwz⟩; rw [hwz]; clear hwz) | fail)
      go_ret
      exact ⟨q2, numO t1 zs, rfl, TB.out, by unfold ActR; rw [if_pos rfl, HT1.out]; exact ⟨zs, by rw [HLN.out, HF.out], TK.out, rfl⟩, grown_trans G0.out GB.out⟩
     ·have hb : ((un : Int) != (F : Int)) = true := by simp; omega
      clear hun ul
      go_wp2_with fail
      refine (FC.out w7 H7.out).mono ?_
      rintro en w8 ⟨rfl, hg8⟩
      have H8 := hid_intro (grown_trans H7.out hg8)
      clear hg8
      go_wp2_with fail
      refine (NC.out w8 H8.out).mono ?_
      rintro en w9 ⟨na9, nn9, nc9, has9, rfl, hn9, hr9, hm9, hv9, hg9⟩
      have H9 := hid_intro (grown_trans H8.out hg9)
      have N9 := hid_intro hn9
      have M9 := hid_intro (And.intro hr9 hm9)
      clear hg9 hn9 hr9 hm9 hv9
      go_wp2_with fail
      refine (FC.out w9 H9.out).mono ?_
      rintro en wa ⟨rfl, hga⟩
      have Ha := hid_intro (grown_trans H9.out hga)
      have Na := hid_intro (EsT.kept N9.out (by decide) (FrT.of hga))
      clear hga
      go_wp2_with fail
      refine (unlike_any na9 nn9 nc9 has9 2 F wa Na.out (by have := PG.out; omega)).mono ?_
      rintro en w8 ⟨va8, vn8, vc8, zs, rfl, hz8, hu8, hg8⟩
      have H8 := hid_intro (grown_trans Ha.out hg8)
      have N8 := hid_intro hz8
      have TK : Hid (tkL (gatO t1) zs = true) := un_tk (lo := 2) M9.out.2 (by rw [HF.out]; exact hu8)
      have HLN : Hid (zs.length = F) := un_full hu8 (by have := has_le M9.out.1 M9.out.2; have := PG.out; omega)
      clear hg8 hz8 hu8
      have NB := hid_intro (numbered_any t1 q va8 vn8 vc8 zs w8 (T2.out.kept (FrT.of H8.out)) HS1.out.ok HS1.out.nq (by have := PG.out; have := HF.out; omega) N8.out (fun z hz => by obtain ⟨h1, h2, _⟩ := tk_q TK.out z hz; omega))
      go_wp2_with fail
      refine NB.out.mono ?_
      rintro en wb ⟨hen, hgb⟩
      rw [if_pos ⟨by rw [HLN.out, HF.out], TK.out⟩] at hen
      obtain ⟨q2, rfl, htb⟩ := hen
      have TB := hid_intro htb
      have GB := hid_intro (grown_trans (grown_trans G2.out H8.out) hgb)
      clear htb hgb NB
      go_wp2_with (first | (go_at_call 27; refine (num10 _ _).mono ?_; rintro en wz ⟨rfl, hwz⟩; rw [hwz]; clear hwz) | fail)
      go_ret
      exact ⟨q2, numO t1 zs, rfl, TB.out, by unfold ActR; rw [if_pos rfl, HT1.out]; exact ⟨zs, by rw [HLN.out, HF.out], TK.out, rfl⟩, grown_trans G0.out GB.out⟩
theorem conv10 (W : World) (C : Array Value) (n c k : Nat) (hk : k = W.heap.size) :
  (convert 30 30 (.slice (some ⟨k, 0, none⟩) n c)).run Tryz.prog (W.alloc (.cells C 5)) = .ok (.slice (some ⟨k, 0, none⟩) n c) (W.alloc (.cells C 5 (C.size, C.size + 1))) := by
 subst hk
 exact Lib.run_convert_bytes_const (P := Tryz.prog) W 30 5 C n c Tryz.underlying30 Tryz.underlying5
theorem lit10 (w : World) (e : TypeId) (fr : Nat × Nat) (z : Int) : Byt (w.alloc (.cells #[.int .u8 z] e fr)) (some ⟨w.heap.size, 0, none⟩) 1 1 [z] := by
 refine Byt.of_cells rfl fun i hi => ?_
 have hi0 : i = 0 := by simpa using hi
 subst hi0
 rw [cell_of_row (w.alloc (.cells #[.int .u8 z] e fr)) w.heap.size 0 _ e fr (heap_alloc_new w _)]
 rfl
set_option maxHeartbeats 1000000 in
set_option maxRecDepth 100000 in
theorem empty10 (w : World) : Calls Tryz.prog 7 #[] w fun en w' => ∃ p, en = .returned (.pointer (some ⟨p, 0, none⟩)) ∧ TreeT w' p none ∧ w.grownBy w' none := by
 go_enter Tryz.func7, Tryz.ntmps7
 go_wp2
 go_ret
 exact ⟨_, rfl, ⟨_, _, _, _, _, _, heap_at0 w _ _, rfl⟩, World.grownBy_alloc w _ none⟩
theorem set_byte {n k : Nat} {x : Int} (hk : k < n) : ((List.replicate k x ++ List.replicate (n - k) (0 : Int)).map (Value.int .u8)).set k (.int .u8 x) = (List.replicate (k + 1) x ++ List.replicate (n - (k + 1)) (0 : Int)).map (Value.int .u8) := by
 rw [List.map_append, List.set_append, if_neg (by simp), List.length_map, List.length_replicate, Nat.sub_self, show n - k = (n - (k + 1)) + 1 by omega, List.replicate_succ, List.map_cons, List.set_cons_zero, List.replicate_succ', List.map_append, List.map_append]
 simp
set_option maxHeartbeats 4000000 in
set_option maxRecDepth 100000 in
theorem value10 (n : Nat) (x : Int) (w : World) (hn : n ≤ 100000) :
  Calls Tryz.prog 33 #[.int .i64 (n : Nat), .int .u8 x] w fun en w' => ∃ g, en = .returned (.slice (some ⟨g, 0, none⟩) n n) ∧ Byt w' (some ⟨g, 0, none⟩) n n (List.replicate n x) ∧ w.grownBy w' none := by
 obtain ⟨i0, hi, hz0, hz1, hz2⟩ := info_parts info_u8
 go_enter Tryz.func33, Tryz.ntmps33
 go_wp2_with (at_make; refine wpList_make_full _ rfl _ _ 30 rfl w.heap.size 5 i0 (.int .u8 0) 1 Tryz.underlying30 hi hz0 hz1 _ _ _ _ n rfl rfl rfl rfl ?b2 ?b3 (Nat.le_refl _) ?_)
 case b2 => rw [hz2]; omega
 case b3 => unfold maxLen; omega
 intro w3 ho3 hg3
 obtain ⟨g, hg⟩ : ∃ g, w.heap.size = g := ⟨_, rfl⟩
 have O3 : Hid (w3.ownsRow g 5 1 (.slice (some ⟨g, 0, none⟩) n n) n ((List.replicate 0 x ++ List.replicate (n - 0) (0 : Int)).map (Value.int .u8))) := by
  have ho4 := ho3
  (try rw [Nat.mul_one] at ho4)
  (try rw [show (Value.int IntKind.u8 0).cells = #[Value.int IntKind.u8 0] from rfl] at ho4)
  rw [toList_madeCells_one, hg] at ho4
  show w3.ownsRow _ _ _ _ _ _
  simpa using ho4
 rw [hg]
 have G3 := hid_intro hg3
 have HG := hid_intro hg
 clear ho3 hg3 hg
 go_wp2_with fail
 go_loopw [6] (fun s6 wr => ∃ k : Nat, k ≤ n ∧ s6 = .int .i64 (k : Nat) ∧ wr.ownsRow g 5 1 (.slice (some ⟨g, 0, none⟩) n n) n ((List.replicate k x ++ List.replicate (n - k) (0 : Int)).map (Value.int .u8)) ∧ w.grownBy wr none) (fun s6 _ => n - (intOf s6).toNat)
 case atStart => exact ⟨0, Nat.zero_le _, rfl, O3.out, G3.out⟩
 case round =>
  obtain ⟨k, hk, rfl, ho, hgr⟩ := hrel
  have HO := hid_intro ho
  have GR := hid_intro hgr
  clear ho hgr
  by_cases hlt : k < n
  ·have i0 : (0 : Int) ≤ (k : Int) := by omega
   have i1 : (k : Int) < (n : Int) := by omega
   have f5 := HO.out.frozenAt k
   obtain ⟨u0, c5⟩ : ∃ u0, wr.cell? ⟨g, k, none⟩ = some u0 := by
    rw [HO.out.cellAt k (by omega)]
    exact ⟨_, List.getElem?_eq_getElem (by have := HO.out.1; omega)⟩
   have ST := hid_intro (HO.out.stored k (.int .u8 x))
   rw [set_byte hlt] at ST
   go_wp2_with fail
   go_roundw
   case rel => exact ⟨k + 1, by omega, by go_num, ST.out.1, grown_new GR.out ST.out.2 (by have := HG.out; omega)⟩
   case measure => simp [intOf]; omega
  ·have hk2 : k = n := by omega
   subst hk2
   have i1 : ¬ (k : Int) < (k : Int) := by omega
   go_wp2
   go_ret
   refine ⟨g, rfl, ?_, GR.out⟩
   have h1 := HO.out
   rw [Nat.sub_self, List.replicate_zero, List.append_nil] at h1
   exact Byt.of_owns h1
theorem bt_rep {n : Nat} {x : Int} (hx : 0 ≤ x ∧ x < 256) : Bt (List.replicate n x) := by
 intro z hz
 rw [List.eq_of_mem_replicate hz]
 omega
theorem tf_step {k : Nat} (h : k < 9) (hs : SdT (TF k)) : treeT (TF k) (pF k).key [pF k] = some (TF (k + 1)) ∧ SdT (TF (k + 1)) := by
 have h1 := tf_some k h
 obtain ⟨u, hu⟩ := Option.isSome_iff_exists.1 h1
 have e : TF (k + 1) = u := by rw [TF, hu]; rfl
 have hn : NowT (pF k).key [pF k] := ⟨by simp, fun p hp => by rw [List.mem_singleton.1 hp], fun p hp => by
  rw [List.mem_singleton.1 hp]
  exact ⟨Nat.le_refl 1, by show 1 ≤ 255; omega, by show (List.replicate 500 (k : Int)).length ≤ 262144; rw [List.length_replicate]; omega, (fun z hz => by have hz' : z ∈ [97 + (k : Int)] := hz; rw [List.mem_singleton.1 hz']; omega), bt_rep (by omega)⟩⟩
 rw [e]
 exact ⟨hu, (hs.change hn (fun p hp => by rw [List.mem_singleton.1 hp]; rfl) hu).1⟩
theorem wf_step {k : Nat} (h : k < 4) (hs : SdT (WF k)) : treeT (WF k) (pF (k + 4)).key [] = some (WF (k + 1)) ∧ SdT (WF (k + 1)) := by
 have h1 := wf_some k h
 obtain ⟨u, hu⟩ := Option.isSome_iff_exists.1 h1
 have e : WF (k + 1) = u := by rw [WF, hu]; rfl
 have hn : NowT (pF (k + 4)).key [] := ⟨by simp, (fun p hp => by cases hp), (fun p hp => by cases hp)⟩
 rw [e]
 exact ⟨hu, (hs.change hn (fun p hp => (by cases hp)) hu).1⟩
theorem told3 {xs : List NoT} (h : xs.map (fun x => (x.ps.length, x.ss)) = [(4, []), (5, []), (0, [[101]])]) : ∃ x0 x1 x2, xs = [x0, x1, x2] ∧ x0.ps.length = 4 ∧ x1.ps.length = 5 ∧ x2.ss = [[101]] := by
 match xs, h with
 | [x0, x1, x2], h =>
  simp only [List.map_cons, List.map_nil, List.cons.injEq, Prod.mk.injEq, and_true] at h
  exact ⟨x0, x1, x2, rfl, h.1.1, h.2.1.1, h.2.2.2⟩
 | [], h => simp at h
 | [_], h => simp at h
 | [_, _], h => simp at h
 | _ :: _ :: _ :: _ :: _, h => simp at h
theorem len3 {T : Type} {L : List T} (h : L.length = 3) : ∃ a b c, L = [a, b, c] := by
 match L, h with
 | [a, b, c], _ => exact ⟨a, b, c, rfl⟩
 | [], h => simp at h
 | [_], h => simp at h
 | [_, _], h => simp at h
 | _ :: _ :: _ :: _ :: _, h => simp at h
set_option maxHeartbeats 1000000 in
theorem cells3 {w : World} {lb lo hi g c : Nat} {es : List (List Value)} {xs : List NoT} (h : xs.map (fun x => (x.ps.length, x.ss)) = [(4, []), (5, []), (0, [[101]])]) (ho : w.ownsRow lb 54 6 (.slice (some ⟨g, 0, none⟩) 3 c) 3 es.flatten) (ht : ToM w lb es xs lo hi) :
  ∃ a0 c0 a1 c1 sb so sc ao d, w.cell? ⟨g, 2, none⟩ = some (.slice a0 4 c0) ∧ w.cell? ⟨g, 8, none⟩ = some (.slice a1 5 c1) ∧ w.cell? ⟨g, 16, none⟩ = some (.slice (some ⟨sb, so, none⟩) 1 sc) ∧ w.cell? ⟨sb, so, none⟩ = some (.slice ao 1 d) ∧ Byt w ao 1 d [101] := by
 obtain ⟨x0, x1, x2, rfl, h0, h1, h2⟩ := told3 h
 clear h
 have hsz := ht.sz
 obtain ⟨e0, e1, e2, rfl⟩ := len3 (L := es) (by have := ht.len; simpa using this)
 ·obtain ⟨m0, _, _, n0, m1, _, _, n1, m2, _, _, n2, _⟩ := ht
  obtain ⟨vp0, q0, ca0, cn0, cc0, sa0, sn0, sc0, ka0, kn0, kc0, rfl, o0, _⟩ := n0
  obtain ⟨vp1, q1, ca1, cn1, cc1, sa1, sn1, sc1, ka1, kn1, kc1, rfl, o1, _⟩ := n1
  obtain ⟨vp2, q2, ca2, cn2, cc2, sa2, sn2, sc2, ka2, kn2, kc2, rfl, o2, _, _, _, s2, _⟩ := n2
  obtain ⟨a0, c0, r0⟩ := own_shape10 o0
  obtain ⟨a1, c1, r1⟩ := own_shape10 o1
  rw [h0] at r0
  rw [h1] at r1
  rw [h2] at s2
  have sl := s2.len
  obtain ⟨sb, so, ao, m, d, rfl, k1, k2⟩ := s2.str (i := 0) (x := [101]) rfl
  have hm : m = 1 := by have := k2.b.len; simpa using this.symm
  subst hm
  have hs : sn2 = 1 := by simpa using sl.symm
  subst hs r0 r1
  have c2 := (ho.cellAt (0 * 6 + 2) (by omega)).trans (flat_at (i := 0) (f := 2) hsz rfl rfl)
  have c8 := (ho.cellAt (1 * 6 + 2) (by omega)).trans (flat_at (i := 1) (f := 2) hsz rfl rfl)
  have c16 := (ho.cellAt (2 * 6 + 4) (by omega)).trans (flat_at (i := 2) (f := 4) hsz rfl rfl)
  exact ⟨a0, c0, a1, c1, sb, so, sc2, ao, d, c2, c8, c16, k1, k2.b⟩
set_option maxHeartbeats 16000000 in
set_option maxRecDepth 100000 in
theorem first10 (w : World) : Calls Tryz.prog 6 #[] w fun en w' => en = .returned (.bool true) ∧ w.grownBy w' none := by
 have v1 := fun (W : World) (C : Array Value) (n c : Nat) => conv10 W C n c _ rfl
 go_enter Tryz.func6, Tryz.ntmps6
 go_wp2_with fail
 refine (empty10 w).mono ?_
 rintro en w1 ⟨p0, rfl, ht0, hg0⟩
 have T0 := hid_intro ht0
 have G0 := hid_intro hg0
 clear ht0 hg0
 go_upto_block 0 with fail
 go_cut [1, 2, 3, 4] from 13 to 37 (fun s1 _ _ _ wx => ∃ p, s1 = .pointer (some ⟨p, 0, none⟩) ∧ TreeT wx p (TF 9) ∧ SdT (TF 9) ∧ w.grownBy wx none)
 case first =>
  go_wp2_with fail
  go_loopw [1, 2, 3, 4] (fun s1 s2 _ _ wr => ∃ k p : Nat, k ≤ 9 ∧ s1 = .pointer (some ⟨p, 0, none⟩) ∧ s2 = .int .i64 (k : Nat) ∧ TreeT wr p (TF k) ∧ SdT (TF k) ∧ w.grownBy wr none) (fun _ s2 _ _ _ => 9 - (intOf s2).toNat)
  case atStart => exact ⟨0, p0, by omega, rfl, rfl, T0.out, SdT.start, G0.out⟩
  case round =>
   obtain ⟨k, p, hk, rfl, rfl, ht, hs, hg⟩ := hrel
   have HT := hid_intro ht
   have HS := hid_intro hs
   have HG := hid_intro hg
   clear ht hs hg
   by_cases hlt : k < 9
   ·have i1 : (k : Int) < 9 := by omega
    have c1 : IntKind.u8.wrap (97 + (k : Int)) = 97 + (k : Int) := by rw [IntKind.wrap_u8]; omega
    have c2 : IntKind.u8.wrap (k : Int) = (k : Int) := by rw [IntKind.wrap_u8]; omega
    have ga := World.grownBy_alloc wr (.cells #[.int .u8 (97 + (k : Int))] 5) none
    have KB := hid_intro (lit10 wr 5 (0, 0) (97 + (k : Int)))
    have GA := hid_intro ga
    have ST := hid_intro (tf_step hlt HS.out)
    clear ga
    go_wp2_with fail
    refine (value10 500 (k : Int) _ (by omega)).mono ?_
    rintro en w2 ⟨g2, rfl, hb2, hg2⟩
    have V2 := hid_intro hb2
    have K2 := hid_intro (KB.out.keptN hg2)
    have G2 := hid_intro (grown_trans HG.out (grown_trans GA.out hg2))
    have T2 := hid_intro (HT.out.kept (FrT.of (grown_trans GA.out hg2)))
    clear hb2 hg2
    have WC := hid_intro (with_any changedC (TF k) p (some ⟨wr.heap.size, 0, none⟩) 1 1 [97 + (k : Int)] (some ⟨g2, 0, none⟩) 500 500 (List.replicate 500 (k : Int)) w2 T2.out HS.out.ok K2.out (fun z hz => by rw [List.mem_singleton.1 hz]; omega) V2.out (by omega) (by omega) (by omega) ?hnow)
    case hnow =>
     exact ⟨by simp, fun q hq => by rw [List.mem_singleton.1 hq], fun q hq => by
      rw [List.mem_singleton.1 hq]
      exact ⟨Nat.le_refl 1, by show 1 ≤ 255; omega, by show (List.replicate 500 (k : Int)).length ≤ 262144; rw [List.length_replicate]; omega, (fun z hz => by have hz' : z ∈ [97 + (k : Int)] := hz; rw [List.mem_singleton.1 hz']; omega), bt_rep (by omega)⟩⟩
    have HE : Hid (treeT (TF k) [97 + (k : Int)] [⟨[97 + (k : Int)], List.replicate 500 (k : Int), []⟩] = some (TF (k + 1))) := ST.out.1
    rw [HE.out] at WC
    go_wp2_with fail
    refine WC.out.mono ?_
    rintro en w3 ⟨⟨q, rfl, ht3⟩, hg3⟩
    have T3 := hid_intro ht3
    have G3 := hid_intro (grown_trans G2.out hg3)
    clear ht3 hg3 WC
    go_wp2_with (first | (go_at_call 27; refine (num10 _ _).mono ?_; rintro en wz ⟨rfl, hwz⟩; rw [hwz]; clear hwz) | fail)
    go_roundw
    case rel => exact ⟨k + 1, q, by omega, rfl, by go_num, T3.out, ST.out.2, G3.out⟩
    case measure => simp [intOf]; omega
   ·have hk2 : k = 9 := by omega
    have i1 : ¬ (k : Int) < 9 := by omega
    go_wp2_with fail
    go_meet
    subst hk2
    exact ⟨p, rfl, HT.out, HS.out, HG.out⟩
 case rest =>
  obtain ⟨p, rfl, ht, hs, hg⟩ := hcut
  have a1 := tf9_high
  have a2 := tf9_fresh
  have a3 := tf9_len
  have a4 := tf9_tell
  have a5 : WF 0 = TF 9 := rfl
  obtain ⟨T9, hT9⟩ : ∃ T, TF 9 = T := ⟨_, rfl⟩
  rw [hT9] at a1 a2 a3 a4 a5 ht hs
  have HT := hid_intro ht
  have HS := hid_intro hs
  have HG := hid_intro hg
  have A5 := hid_intro a5
  have HH := hid_intro (fun (W : World) (h : wc.grownBy W none) => height_any T9 p W (ht.kept (FrT.of h)) hs.ok (by omega))
  have HF := hid_intro (fun (W : World) (h : wc.grownBy W none) => tfresh_any T9 p W (ht.kept (FrT.of h)) hs.ok (by omega))
  have HL := hid_intro (fun (W : World) (h : wc.grownBy W none) => len_any T9 p W (ht.kept (FrT.of h)) hs.ok (by omega))
  have tl : (tellO T9).length = 3 := by have := congrArg List.length a4; simpa using this
  have HN := hid_intro (fun (W : World) (h : wc.grownBy W none) => nodes_any T9 p W (ht.kept (FrT.of h)) hs.ok hs.chk (by omega) (by omega))
  rw [a1] at HH
  rw [a2] at HF
  rw [a3] at HL
  rw [tl] at HN
  have A4 := hid_intro a4
  clear ht hs hg a1 a2 a3 a4 a5 tl hT9
  go_wp2_with fail
  refine (HH.out _ (World.grownBy.refl _ _)).mono ?_
  rintro en w2 ⟨rfl, hg2⟩
  have G2 := hid_intro hg2
  clear hg2
  go_wp2_with fail
  refine (HF.out _ G2.out).mono ?_
  rintro en w3 ⟨rfl, hg3⟩
  have G3 := hid_intro (grown_trans G2.out hg3)
  clear hg3
  go_wp2_with fail
  refine (HL.out _ G3.out).mono ?_
  rintro en w4 ⟨rfl, hg4⟩
  have G4 := hid_intro (grown_trans G3.out hg4)
  clear hg4
  go_wp2_with fail
  refine (HN.out _ G4.out).mono ?_
  rintro en w5 ⟨v5, es5, rfl, ho5, ht5, hg5⟩
  obtain ⟨g5, c5, cur5, rfl, _⟩ : ∃ g c cur, v5 = .slice (some ⟨g, 0, none⟩) 3 c ∧ w5.heap[g]? = some (.cells cur 54 (0, 0)) := by
   rcases ho5.2 with ⟨_, h⟩ | ⟨g, cap, cur, h1, h2, h3, _⟩
   ·omega
   ·exact ⟨g, cap, cur, h1, h3⟩
  obtain ⟨q0, r0, q1, r1, sb, so, sc, ao, d, x1, x2, x3, x4, x5⟩ := cells3 A4.out ho5 ht5
  have G5 := hid_intro (grown_trans G4.out hg5)
  have X5 := hid_intro x5
  have hst : strOfNums [101] = ByteArray.mk #[101] := by rfl
  have hcs := conv_str x5
  rw [hst] at hcs
  clear ho5 ht5 hg5 x5 hst HH HF HL HN A4
  go_upto_block 2 with fail
  go_cut [1, 6, 7, 8] from 93 to 113 (fun s1 _ _ _ wx => ∃ p, s1 = .pointer (some ⟨p, 0, none⟩) ∧ TreeT wx p (WF 4) ∧ SdT (WF 4) ∧ w.grownBy wx none)
  case first =>
   go_wp2_with fail
   go_loopw [1, 6, 7, 8] (fun s1 s6 _ _ wr => ∃ j p : Nat, j ≤ 4 ∧ s1 = .pointer (some ⟨p, 0, none⟩) ∧ s6 = .int .i64 ((j + 4 : Nat) : Int) ∧ TreeT wr p (WF j) ∧ SdT (WF j) ∧ w.grownBy wr none) (fun _ s6 _ _ _ => 8 - (intOf s6).toNat)
   case atStart => exact ⟨0, p, by omega, rfl, rfl, by rw [A5.out]; exact HT.out.kept (FrT.of G5.out), by rw [A5.out]; exact HS.out, grown_trans HG.out G5.out⟩
   case round =>
    obtain ⟨j, p, hj, rfl, rfl, ht, hs, hg⟩ := hrel
    have HT := hid_intro ht
    have HS := hid_intro hs
    have HG := hid_intro hg
    clear ht hs hg
    by_cases hlt : j < 4
    ·have ST := hid_intro (wf_step hlt HS.out)
     obtain ⟨i, hi⟩ : ∃ i : Nat, j + 4 = i := ⟨_, rfl⟩
     have HE : Hid (treeT (WF j) [97 + (i : Int)] [] = some (WF (j + 1))) := by
      show _ = _
      rw [← hi]
      exact ST.out.1
     rw [hi]
     have i1 : (i : Int) < 8 := by omega
     have c1 : IntKind.u8.wrap (97 + (i : Int)) = 97 + (i : Int) := by rw [IntKind.wrap_u8]; omega
     have ga := World.grownBy_alloc wr (.cells #[.int .u8 (97 + (i : Int))] 5) none
     have KB := hid_intro (lit10 wr 5 (0, 0) (97 + (i : Int)))
     have WC := hid_intro (without_any changedC (WF j) p (some ⟨wr.heap.size, 0, none⟩) 1 1 [97 + (i : Int)] _ (HT.out.kept (FrT.of ga)) HS.out.ok KB.out (fun z hz => by rw [List.mem_singleton.1 hz]; omega))
     rw [HE.out] at WC
     have GA := hid_intro ga
     have HI := hid_intro hi
     clear ga hi
     go_wp2_with fail
     refine WC.out.mono ?_
     rintro en w3 ⟨⟨q, rfl, ht3⟩, hg3⟩
     have T3 := hid_intro ht3
     have G3 := hid_intro (grown_trans HG.out (grown_trans GA.out hg3))
     clear ht3 hg3 WC
     go_wp2_with fail
     go_roundw
     case rel => exact ⟨j + 1, q, by omega, rfl, by have := HI.out; go_num, T3.out, ST.out.2, G3.out⟩
     case measure => have := HI.out; simp [intOf]; omega
    ·have hj2 : j = 4 := by omega
     have i1 : ¬ ((j + 4 : Nat) : Int) < 8 := by omega
     obtain ⟨i, hi⟩ : ∃ i : Nat, j + 4 = i := ⟨_, rfl⟩
     rw [hi] at i1 ⊢
     clear hi
     go_wp2_with fail
     go_meet
     subst hj2
     exact ⟨p, rfl, HT.out, HS.out, HG.out⟩
  case rest =>
   obtain ⟨p2, rfl, ht, hs, hg⟩ := hcut
   clear x1 x2 x3 x4 hcs X5 G2 G3 G4 G5 HT HS HG A5
   have a1 := wf4_high
   have a3 := wf4_len
   have a4 := wf4_get
   obtain ⟨T4, hT4⟩ : ∃ T, WF 4 = T := ⟨_, rfl⟩
   rw [hT4] at a1 a3 a4 ht hs
   have GC := hid_intro (fun (W : World) (h : wc.grownBy W none) (ka : Option Addr) (kc : Nat) (hk : Byt W ka 1 kc [105]) => tget_any T4 p2 ka 1 kc [105] W (ht.kept (FrT.of h)) hs.ok hk (fun z hz => by rw [List.mem_singleton.1 hz]; omega))
   have HH := hid_intro (fun (W : World) (h : wc.grownBy W none) => height_any T4 p2 W (ht.kept (FrT.of h)) hs.ok (by omega))
   have HL := hid_intro (fun (W : World) (h : wc.grownBy W none) => len_any T4 p2 W (ht.kept (FrT.of h)) hs.ok (by omega))
   rw [a1] at HH
   rw [a3] at HL
   rw [a4] at GC
   have HG := hid_intro hg
   have K1 := hid_intro (lit10 wc 5 (1, 2) 105)
   have GK := hid_intro (World.grownBy_alloc wc (.cells #[.int .u8 105] 5 (1, 2)) none)
   clear ht hs hg a1 a3 a4 hT4
   go_wp2_with fail
   refine (GC.out _ GK.out _ _ K1.out).mono ?_
   rintro en w5 ⟨⟨ao, nn, cc, rfl, hb5⟩, hg5⟩
   have V5 := hid_intro hb5
   have G5 := hid_intro (grown_trans GK.out hg5)
   clear hb5 hg5
   go_wp2_with fail
   refine (value10 500 8 _ (by omega)).mono ?_
   rintro en w6 ⟨g6, rfl, hb6, hg6⟩
   have V6 := hid_intro hb6
   have G6 := hid_intro (grown_trans G5.out hg6)
   have V56 := hid_intro (V5.out.b.keptN hg6)
   clear hb6 hg6
   have SC := hid_intro (same_yes ao (some ⟨g6, 0, none⟩) nn 500 cc 500 (List.replicate 500 8) (List.replicate 500 8) w6 V56.out V6.out rfl)
   go_wp2_with fail
   refine SC.out.mono ?_
   rintro en w7 ⟨rfl, hw7⟩
   rw [hw7]
   clear hw7 SC
   go_wp2_with fail
   refine (HH.out _ G6.out).mono ?_
   rintro en w8 ⟨rfl, hg8⟩
   have G8 := hid_intro (grown_trans G6.out hg8)
   clear hg8
   go_wp2_with fail
   refine (HL.out _ G8.out).mono ?_
   rintro en w9 ⟨rfl, hg9⟩
   have G9 := hid_intro (grown_trans HG.out (grown_trans G8.out hg9))
   clear hg9
   go_wp2
   go_ret
   exact ⟨rfl, G9.out⟩
theorem mp_str {w : World} {a : Option Addr} {n c : Nat} {L : List PrT} (h : MpW w a n c L) : MpW w a n c (L.map strP) := by
 obtain ⟨h1, es, h2, h3⟩ := h
 refine ⟨by rw [List.length_map]; exact h1, es, h2, by rw [List.length_map]; exact h3.len, fun i e p k1 k2 => ?_⟩
 rw [List.getElem?_map, Option.map_eq_some_iff] at k2
 obtain ⟨q, k2, rfl⟩ := k2
 obtain ⟨ka, kc, va, vc, e1, b1, b2⟩ := h3.get i e q k1 k2
 exact ⟨ka, kc, va, vc, e1, b1, b2⟩
def wantF (L : List PrT) (key : List Int) : Option (List Int) := (midT L key).getLast?.map PrT.val
theorem want_snoc (L : List PrT) (p : PrT) (key : List Int) : wantF (L ++ [p]) key = if p.key = key then some p.val else wantF L key := by
 unfold wantF midT
 rw [List.filter_append]
 by_cases e : p.key = key
 ·rw [if_pos e]
  have : ([p].filter fun p => decide (cmpZ p.key key = 0)) = [p] := by simp [e, cmp_self]
  rw [this, List.getLast?_append]
  simp
 ·rw [if_neg e]
  have h1 : ¬ cmpZ p.key key = 0 := fun h => e (cmp_zero h)
  have : ([p].filter fun p => decide (cmpZ p.key key = 0)) = [] := by simp [h1]
  rw [this, List.append_nil]
theorem mid_one {L : List PrT} {key : List Int} (h : Srt L) : (midT L key).length ≤ 1 := by
 have hs : (midT L key).Pairwise fun a b => cmpZ a.key b.key < 0 := h.sublist List.filter_sublist
 have hk : ∀ p ∈ midT L key, p.key = key := fun p hp => cmp_zero (by simpa using (List.mem_filter.1 hp).2)
 match hm : midT L key with
 | [] => simp
 | [_] => simp
 | a :: b :: M =>
  rw [hm] at hs hk
  have h1 := (List.pairwise_cons.1 hs).1 b List.mem_cons_self
  rw [hk a List.mem_cons_self, hk b (List.mem_cons_of_mem _ List.mem_cons_self), cmp_self] at h1
  omega
theorem want_look {L : List PrT} {key : List Int} (h : Srt L) : wantF L key = lookT L key := by
 have h1 := mid_one (key := key) h
 unfold wantF lookT
 match hm : midT L key with
 | [] => rfl
 | [_] => rfl
 | _ :: _ :: _ => rw [hm] at h1; simp at h1
theorem look_str (L : List PrT) (key : List Int) : lookT (L.map strP) key = lookT L key := by
 unfold lookT midT
 rw [List.filter_map, List.head?_map, Option.map_map]
 rfl
theorem get_want {t : Option TrT} (h : SdT t) (key : List Int) : getO t key = wantF ((flatO t).map strP) key := by
 have hs : Srt (flatO t) := by
  match t, h.ok with
  | none, _ => exact List.Pairwise.nil
  | some t, ho => exact flat_srt t.lv t.root ho
 rw [want_look ((srt_str _).2 hs), look_str]
 match t, h.ok with
 | none, _ => rfl
 | some t, ho => exact get_look t.lv t.root key ho
theorem sd_srt {t : Option TrT} (h : SdT t) : Srt ((flatO t).map strP) := by
 rw [srt_str]
 match t, h.ok with
 | none, _ => exact List.Pairwise.nil
 | some t, ho => exact flat_srt t.lv t.root ho
theorem sd_vp {t : Option TrT} (h : SdT t) : ∀ p ∈ (flatO t).map strP, Vp p := fun p hp => by
 obtain ⟨q, hq, rfl⟩ := List.mem_map.1 hp
 refine (vp_str q).2 ?_
 match t, h.ok, hq with
 | some t, ho, hq => exact flat_vp t.lv t.root ho q hq
 | none, _, hq => simp [flatO] at hq
theorem bk_kept {w w' : World} {Q : Nat} {L : List PrT} (h : BkW w Q L) (hg : w.grownBy w' none) : BkW w' Q L := by
 obtain ⟨a, n, c, h1, h2⟩ := h
 exact ⟨a, n, c, heap_kept h1 hg, h2.cef (CeF.of hg)⟩
theorem does_any (Q : Nat) (L : List PrT) (ka : Option Addr) (kn kc : Nat) (key : List Int) (va : Option Addr) (vn vc : Nat) (val : List Int) (gone mark : Bool) (no : Int) (w : World) (hb : BkW w Q L) (hk : Byt w ka kn kc key) (hv : Byt w va vn vc val) (bk : Bt key) (bl : ∀ p ∈ L, Bt p.key) (hsr : Srt L) (hn : L.length ≤ 100000) :
  Calls Tryz.prog 9 #[.pointer (some ⟨Q, 0, none⟩), .agg #[.slice ka kn kc, .slice va vn vc, .bool gone, .bool mark, .int .i64 no]] w fun en w' => DoesP w Q (dosB L key val gone) en w' := by
 have lk := hk.len
 have lv := hv.len
 unfold dosB
 rw [lk, lv]
 by_cases hbd : badB kn vn gone = true
 ·rw [if_pos hbd]
  cases gone with
  | true => simp [badB] at hbd
  | false => exact does_bad Q L ka kn kc va vn vc mark no w hb hbd
 ·rw [if_neg hbd]
  exact does_ok Q L ka kn kc key va vn vc val gone mark no w hb hk hv bk bl hsr hn (by simpa using hbd)
structure AcT where
 key : List Int
 val : List Int
 gone : Bool
 mark : Bool
 no : Int
structure AcE (w : World) (a : Option Addr) (i : Nat) (x : AcT) (b off : Nat) (ka : Option Addr) (kc : Nat) (va : Option Addr) (vc : Nat) : Prop where
 a : a = some ⟨b, off, none⟩
 c0 : w.cell? ⟨b, off + i * 5, none⟩ = some (.slice ka x.key.length kc)
 c1 : w.cell? ⟨b, off + i * 5 + 1, none⟩ = some (.slice va x.val.length vc)
 c2 : w.cell? ⟨b, off + i * 5 + 2, none⟩ = some (.bool x.gone)
 c3 : w.cell? ⟨b, off + i * 5 + 3, none⟩ = some (.bool x.mark)
 c4 : w.cell? ⟨b, off + i * 5 + 4, none⟩ = some (.int .i64 x.no)
 k : Byt w ka x.key.length kc x.key
 v : Byt w va x.val.length vc x.val
 bk : Bt x.key
 bv : Bt x.val
def AcW (w : World) (a : Option Addr) (C : List AcT) : Prop := ∀ (i : Nat) (x : AcT), C[i]? = some x → ∃ b off ka kc va vc, AcE w a i x b off ka kc va vc
theorem AcW.cef {w W : World} (h : CeF w W) {a : Option Addr} {C : List AcT} (k : AcW w a C) : AcW W a C := fun i x hx => by
 obtain ⟨b, off, ka, kc, va, vc, e⟩ := k i x hx
 exact ⟨b, off, ka, kc, va, vc, e.a, h.cell e.c0, h.cell e.c1, h.cell e.c2, h.cell e.c3, h.cell e.c4, byt_cef h e.k, byt_cef h e.v, e.bk, e.bv⟩
end Go.Proofs.YtepcgckapoljpaaGreat
