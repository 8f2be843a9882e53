import Derived.Test.YthodgddoolbenaaGreatDoorQ33
import Derived.Test.YthodgddoolbenaaGreatDoorQ22
import Derived.Test.YthodgddoolbenaaGreatDoorQ31
import Derived.Test.YthodgddoolbenaaGreatDoorQ25
namespace Go.Proofs.YthodgddoolbenaaGreatDoor
open Go.RowKit
def PairsO (w : World) (n : Nat) (l : List Pq) (en : Ending) (w' : World) : Prop := ∃ A c xs, en = .returned (.slice (some ⟨A, 0, none⟩) n c) ∧ w.grownBy w' none ∧ w'.ownsRow w.heap.size 54 2 (.slice (some ⟨A, 0, none⟩) n c) n xs ∧ Pw w' xs l ∧ Bd20 w.heap.size w'.heap.size xs
set_option maxHeartbeats 4000000 in
set_option maxRecDepth 100000 in
theorem refPairs_own (a : Option Addr) (n c : Nat) (l : List Pq) (w : World) (h : Pm w a l) (hn : l.length = n) (h0 : n ≤ 2000) (hs : ∀ p ∈ l, p.1.length ≤ 1048576 ∧ p.2.length ≤ 1048576) :
  Calls Tryz.prog 23 #[.slice a n c] w fun en w' => PairsO w n l en w' := by
 obtain ⟨ip, hip, hp0, hp1, hp2⟩ := info_parts info_pairD
 have HP := hid_intro h
 have HL := hid_intro hn
 have HSM := hid_intro hs
 clear h hn hs
 go_enter Tryz.func23, Tryz.ntmps23
 go_wp2_with (at_make; refine wpList_make_own _ rfl _ _ 22 rfl w.heap.size 54 ip (.agg #[.slice none 0 0, .slice none 0 0]) 2 Tryz.underlying22 hip hp0 hp1 _ _ _ n rfl rfl rfl ?b2 ?b3 (Nat.le_refl _) ?_)
 case b2 => rw [hp2]; omega
 case b3 => unfold maxLen; omega
 intro w0 hown0 hg0
 have O0 := hid_intro hown0
 have G0 := hid_intro hg0
 clear hown0 hg0
 go_wp2
 go_loopw [3, 4, 5] (fun sm si _ wr => ∃ (i : Nat) (so : Option Addr) (sc : Nat) (xs : List Value), i ≤ n ∧ si = .int .i64 (i : Nat) ∧ sm = .slice so i sc ∧ wr.ownsRow w.heap.size 54 2 (.slice so i sc) i xs ∧ Pw wr xs (l.take i) ∧ w.grownBy wr none ∧ Bd20 w.heap.size wr.heap.size xs ∧ ∃ A, so = some ⟨A, 0, none⟩) (fun _ si _ _ => n - (intOf si).toNat)
 case atStart => exact ⟨0, _, _, [], Nat.zero_le _, rfl, rfl, O0.out, Pw.nil _, G0.out, Bd20.nil _ _, _, rfl⟩
 case round =>
  obtain ⟨i, so, sc, xs, hi', rfl, rfl, ho, hlw, hg, hbd, hso⟩ := hrel
  have HBD := hid_intro hbd
  have HSO := hid_intro hso
  clear hbd hso
  have HO := hid_intro ho
  have HLW := hid_intro hlw
  have HG := hid_intro hg
  clear ho hlw hg O0 G0
  by_cases hlt : i < n
  ·obtain ⟨p, hp⟩ : ∃ p, l[i]? = some p := ⟨_, List.getElem?_eq_getElem (by have := HL.out; omega)⟩
   have hsm := HSM.out p (List.mem_of_getElem? hp)
   have HTK : Hid (l.take (i + 1) = l.take i ++ [p]) := by
    obtain ⟨h1, e⟩ := List.getElem?_eq_some_iff.1 hp
    show _ = _
    rw [List.take_succ_eq_append_getElem h1, e]
   obtain ⟨b, off, ao, c1, bo, d1, rfl, q1, q2, q3, q4, q5, q6⟩ := HP.out.el i p hp
   obtain ⟨ky, vl⟩ := p
   simp only at q1 q2 q3 q4 q5 q6 hsm
   have c0 := HG.out.cell q1 (by simp)
   have c2 := HG.out.cell q2 (by simp)
   have Q4 := hid_intro q4
   have Q6 := hid_intro q6
   have HCP := hid_intro (refPair20 ao bo ky.length c1 vl.length d1 ky vl wr (q3.keptN HG.out) (q5.keptN HG.out) (by omega) (by omega))
   have j0 : (0 : Int) ≤ (i : Int) := by omega
   have j1 : (i : Int) < (n : Int) := by omega
   clear q1 q2 q3 q4 q5 q6 hp
   go_wp2_with fail
   refine HCP.out.mono ?_
   rintro en w4 ⟨ko, kc, vo, vc, rfl, hg4, hk4, hv4⟩
   have R4 := hid_intro hg4
   have OK4 := hid_intro hk4
   have OV4 := hid_intro hv4
   clear hg4 hk4 hv4 HCP
   have hs4 := R4.out.size
   have BK : Hid (∀ g, (Value.slice ko ky.length kc).ownBlock = some g → w.heap.size ≤ g ∧ g < w4.heap.size) := fun g e => by have := OK4.out.lt g e; have := HG.out.size; omega
   have BV : Hid (∀ g, (Value.slice vo vl.length vc).ownBlock = some g → w.heap.size ≤ g ∧ g < w4.heap.size) := fun g e => by have := OV4.out.lt g e; have := HG.out.size; omega
   have BW := hid_intro (HBD.out.up hs4)
   have hs45 : w4.heap.size ≤ (w4.alloc (.cells #[.slice ko ky.length kc, .slice vo vl.length vc] 54)).heap.size := by simp
   have HS45 := hid_intro hs45
   clear hs45
   have gx := World.grownBy_alloc w4 (.cells #[.slice ko ky.length kc, .slice vo vl.length vc] 54) none
   have O5 := hid_intro (own_keptD (own_keptD HO.out R4.out) gx)
   have P5 := hid_intro ((HLW.out.keptN R4.out).keptN gx)
   have OK5 := hid_intro (own_low (own_keptD OK4.out gx) (Nat.zero_le _))
   have OV5 := hid_intro (own_low (own_keptD OV4.out gx) (Nat.zero_le _))
   have G5 := hid_intro (grown_trans (grown_trans HG.out R4.out) gx)
   have hxb : (w4.alloc (.cells #[.slice ko ky.length kc, .slice vo vl.length vc] 54)).heap[w4.heap.size]? = some (.cells #[.slice ko ky.length kc, .slice vo vl.length vc] 54 (0, 0)) := heap_alloc_new w4 _
   have x0 : (w4.alloc (.cells #[.slice ko ky.length kc, .slice vo vl.length vc] 54)).cell? ⟨w4.heap.size, 0, none⟩ = some (.slice ko ky.length kc) := by rw [Lib.cell_of_heap hxb]; rfl
   have x1 : (w4.alloc (.cells #[.slice ko ky.length kc, .slice vo vl.length vc] 54)).cell? ⟨w4.heap.size, 1, none⟩ = some (.slice vo vl.length vc) := by rw [Lib.cell_of_heap hxb]; rfl
   have hs5 := G5.out.size
   obtain ⟨nk, hnk⟩ : ∃ nk, ky.length = nk := ⟨_, rfl⟩
   obtain ⟨nv, hnv⟩ : ∃ nv, vl.length = nv := ⟨_, rfl⟩
   have HNK := hid_intro hnk
   have HNV := hid_intro hnv
   rw [hnk, hnv] at x0 x1 O5 P5 OK5 OV5 G5 hs5 HS45 ⊢
   rw [hnk] at BK
   rw [hnv] at BV
   clear gx hxb hnk hnv HO HLW OK4 OV4 R4
   go_upto_region 6 with fail
   generalize w4.alloc (.cells #[.slice ko nk kc, .slice vo nv vc] 54) = w5 at *
   generalize w4.heap.size = X at *
   have HAP : Hid (∀ W : World, W.heap = w5.heap → (W.alloc (.cells #[.slice ko nk kc, .slice vo nv vc] 54)).ownsRow w.heap.size 54 2 (.slice so i sc) i xs) := fun W hW => (own_same20 O5.out hW).alloc _
   go_wp2_with (at_builtin; refine wpList_append_own _ rfl _ _ 22 rfl w.heap.size 54 ip (.agg #[.slice none 0 0, .slice none 0 0]) 2 48 Tryz.underlying22 hip hp0 hp1 hp2 rfl (by decide) _ i xs rfl (HAP.out _ rfl) ⟨w5.heap.size, 0, none⟩ 1 1 [.slice ko nk kc, .slice vo nv vc] rfl rfl (cell_two_new _ _ _ _) (by intro u hu; simp at hu; rcases hu with rfl | rfl <;> rfl) (by unfold maxLen; omega) (by omega) (by simp; omega) ?_)
   intro v8 w8 ho8 hg8 _
   obtain ⟨va, vd, hv8⟩ := own_shape20 ho8
   subst hv8
   have O8 := hid_intro ho8
   have G8 := hid_intro hg8
   clear ho8 hg8
   go_wp2
   go_roundw
   case rel =>
    have gb := World.grownBy_alloc w5 (.cells #[.slice ko nk kc, .slice vo nv vc] 54) none
    have oa := own_keptD O5.out gb
    have ok8 := (own_keptD OK5.out gb).kept G8.out (own_neD (own_keptD OK5.out gb) oa (by decide))
    have ov8 := (own_keptD OV5.out gb).kept G8.out (own_neD (own_keptD OV5.out gb) oa (by decide))
    have p8 := (P5.out.keptN gb).app oa G8.out
    have ps := p8.snoc (p := (ky, vl)) (by rw [HNK.out]; exact ok8) (by rw [HNV.out]; exact ov8) ⟨Q4.out, Q6.out⟩
    simp only [HNK.out, HNV.out] at ps
    have gg := grown_app20 G5.out O5.out (Nat.le_refl _) G8.out
    have hz8 : X ≤ w8.heap.size := by have h1 := HS45.out; have h2 := G8.out.size; simp at h2; omega
    have hso8 : ∃ A, va = some ⟨A, 0, none⟩ := by
     rcases O8.out.2 with ⟨_, h0⟩ | ⟨A, _, _, e, _⟩
     ·omega
     ·exact ⟨A, by injection e⟩
    exact ⟨i + 1, va, vd, _, by omega, by go_num, rfl, O8.out, by rw [HTK.out]; exact ps, gg, BW.out.snoc hz8 (fun g e => by have := BK.out g e; omega) (fun g e => by have := BV.out g e; omega), hso8⟩
   case measure => simp [intOf]; omega
  ·obtain rfl : i = n := by omega
   have e1 : l.take i = l := by rw [← HL.out, List.take_length]
   have hpm := HLW.out
   rw [e1] at hpm
   have PM := hid_intro hpm
   obtain ⟨A, rfl⟩ := HSO.out
   clear hpm e1
   go_wp2
   go_ret
   exact ⟨A, sc, xs, rfl, HG.out, HO.out, PM.out, HBD.out⟩
theorem own_hi {w : World} {b0 H n k : Nat} {t : TypeId} {v : Value} {xs : List Value} (h : w.ownsRow b0 t k v n xs) (hb : ∀ g, v.ownBlock = some g → H ≤ g) : w.ownsRow H t k v n xs := by
 refine ⟨h.1, ?_⟩
 rcases h.2 with h1 | ⟨g, cap, cur, e, _, h3⟩
 ·exact .inl h1
 ·subst e
  exact .inr ⟨g, cap, cur, rfl, hb g rfl, h3⟩
structure Py (w : World) (H : Nat) (xs : List Value) (l : List Pq) : Prop where
 len : xs.length = l.length * 2
 el : ∀ i p, l[i]? = some p → ∃ ao c bo d, xs[i * 2]? = some (.slice ao p.1.length c) ∧ xs[i * 2 + 1]? = some (.slice bo p.2.length d) ∧ w.ownsRow H 5 1 (.slice ao p.1.length c) p.1.length (p.1.map (Value.int .u8)) ∧ w.ownsRow H 5 1 (.slice bo p.2.length d) p.2.length (p.2.map (Value.int .u8)) ∧ Bt p.1 ∧ Bt p.2
theorem py_of {w : World} {H K : Nat} {xs : List Value} {l : List Pq} (h : Pw w xs l) (hb : Bd20 H K xs) : Py w H xs l :=
 ⟨h.len, fun i p hp => by
  obtain ⟨ao, c, bo, d, h1, h2, h3, h4, h5⟩ := h.el i p hp
  exact ⟨ao, c, bo, d, h1, h2, own_hi h3 (fun g e => (hb _ (List.mem_of_getElem? h1) g e).1), own_hi h4 (fun g e => (hb _ (List.mem_of_getElem? h2) g e).1), h5⟩⟩
theorem Py.map {w w' : World} {H : Nat} {xs : List Value} {l : List Pq} (h : Py w H xs l) (f : ∀ (t : TypeId) (k : Nat) (v : Value) (m : Nat) (ys : List Value) (_ : Unit), w.ownsRow H t k v m ys → w'.ownsRow H t k v m ys) : Py w' H xs l :=
 ⟨h.len, fun i p hp => by
  obtain ⟨ao, c, bo, d, h1, h2, h3, h4, h5⟩ := h.el i p hp
  exact ⟨ao, c, bo, d, h1, h2, f _ _ _ _ _ () h3, f _ _ _ _ _ () h4, h5⟩⟩
structure Tp (w : World) (base : Nat) (cs : Nat → Value) (a : Option Addr) (Z : List Pq) : Prop where
 row : ∀ i p, Z[i]? = some p → ∃ b off ao c bo d, a = some ⟨b, off, none⟩ ∧ w.cell? ⟨b, off + i * 2, none⟩ = some (.slice ao p.1.length c) ∧ w.cell? ⟨b, off + i * 2 + 1, none⟩ = some (.slice bo p.2.length d) ∧ Tb w base cs ao p.1.length c p.1 ∧ Bt p.1 ∧ Tb w base cs bo p.2.length d p.2 ∧ Bt p.2 ∧ Fre base cs b
theorem Tp.kee {w w' : World} {base : Nat} {cs cs' : Nat → Value} {a : Option Addr} {Z : List Pq} (h : Tp w base cs a Z) (k : Kee w w' base cs cs') : Tp w' base cs' a Z := by
 refine ⟨fun i p hp => ?_⟩
 obtain ⟨b, off, ao, c, bo, d, h1, h2, h3, h4, h5, h6, h7, h8⟩ := h.row i p hp
 exact ⟨b, off, ao, c, bo, d, h1, k.cell h2 h8, k.cell h3 h8, h4.kee k, h5, h6.kee k, h7, (k.block b (World.block_lt_of_cell? w _ h2) h8).2⟩
theorem Tp.pm {w : World} {base : Nat} {cs : Nat → Value} {a : Option Addr} {Z : List Pq} (h : Tp w base cs a Z) : Pm w a Z := by
 refine ⟨fun i p hp => ?_⟩
 obtain ⟨b, off, ao, c, bo, d, h1, h2, h3, h4, h5, h6, h7, _⟩ := h.row i p hp
 exact ⟨b, off, ao, c, bo, d, h1, h2, h3, h4.by', h5, h6.by', h7⟩
theorem Pm.heapD {w w' : World} {a : Option Addr} {Z : List Pq} (h : Pm w a Z) (e : w'.heap = w.heap) : Pm w' a Z := by
 refine ⟨fun i p hp => ?_⟩
 obtain ⟨b, off, ao, c, bo, d, h1, h2, h3, h4, h5, h6, h7⟩ := h.el i p hp
 exact ⟨b, off, ao, c, bo, d, h1, (World.cell?_of_block (by rw [e])).trans h2, (World.cell?_of_block (by rw [e])).trans h3, h4.heap e, h5, h6.heap e, h7⟩
theorem tp_own {w : World} {base H K A n c : Nat} {cs : Nat → Value} {xs : List Value} {Z : List Pq} (ho : w.ownsRow H 54 2 (.slice (some ⟨A, 0, none⟩) n c) n xs) (hy : Py w H xs Z) (hb : ∀ u, u ∈ xs → ∀ g, u.ownBlock = some g → H ≤ g ∧ g < K) (hA : H ≤ A ∧ A < K) (hf : ∀ d, H ≤ d → d < K → Fre base cs d) : Tp w base cs (some ⟨A, 0, none⟩) Z := by
 refine ⟨fun i p hp => ?_⟩
 obtain ⟨ao, c1, bo, d1, h1, h2, h3, h4, h5, h6⟩ := hy.el i p hp
 have x1 := ho.cells (g := A) rfl (i * 2) _ h1
 have x2 := ho.cells (g := A) rfl (i * 2 + 1) _ h2
 rw [Addr.add_lit] at x1 x2
 exact ⟨A, 0, ao, c1, bo, d1, rfl, x1, x2, ⟨byt_of_ownD h3, fun ad e _ => by
  have := hb _ (List.mem_of_getElem? h1) ad.block (by rw [e]; rfl)
  exact hf _ this.1 this.2⟩, h5, ⟨byt_of_ownD h4, fun ad e _ => by
  have := hb _ (List.mem_of_getElem? h2) ad.block (by rw [e]; rfl)
  exact hf _ this.1 this.2⟩, h6, hf A hA.1 hA.2⟩
def SameP (w : World) (base : Nat) (cs : Nat → Value) (s : Lst) (y : Value) : Prop := ∃ ao bo cb, ∃ Z : List Pq, s.v = .slice ao s.n s.c ∧ y = .slice bo s.n cb ∧ Tp w base cs ao Z ∧ Tp w base cs bo Z ∧ Z.length = s.n ∧ s.n ≤ 1000000
theorem SameP.kee {w w' : World} {base : Nat} {cs cs' : Nat → Value} (k : Kee w w' base cs cs') : ∀ s y, SameP w base cs s y → SameP w' base cs' s y := by
 rintro s y ⟨ao, bo, cb, zs, h1, h2, h3, h4, h5⟩
 exact ⟨ao, bo, cb, zs, h1, h2, h3.kee k, h4.kee k, h5⟩
theorem kinfo_pairsK : (Tryz.prog.info? 22).map (fun i => (i.zero, i.size, i.bytes)) = some (some (.slice none 0 0), 1, 24) := by kernel_rfl
set_option maxHeartbeats 4000000 in
set_option maxRecDepth 100000 in
theorem kst_pairs {kd : Nat → Kdk} {Same : Nat → World → Nat → (Nat → Value) → Lst → Value → Prop} (hK : Kds kd Same) {w : World} {B base : Nat} {cs : Nat → Value} {L : Nat → List Lst} {ys : Nat → List Value} (h : Kst kd Same w B base cs L ys) (ek0 : kd 0 = kdB) (es0 : Same 0 = SameB) (FF : Int → Nat → Nat → Value) (ek : kd 5 = kdP FF) (es : Same 5 = SameP) (a : Option Addr) (n cap : Nat) (Z : List Pq) (D : List Lst) (hti : Tp w base cs a Z) (hzn : Z.length = n) (hn : n ≤ 2000) (hzs : ∀ p ∈ Z, p.1.length ≤ 1048576 ∧ p.2.length ≤ 1048576)
  (hDl : D.length = 2 * n) (hD : ∀ i, i < n → ∃ b off k v, a = some ⟨b, off, none⟩ ∧ D[2 * i]? = some k ∧ D[2 * i + 1]? = some v ∧ w.cell? ⟨b, off + i * 2, none⟩ = some k.v ∧ w.cell? ⟨b, off + i * 2 + 1, none⟩ = some v.v)
  (hDo : ∀ s ∈ D, Rdy w base cs 1 5 s) (hDp : D.Pairwise Lst.Apart) (hDa : ∀ t ∈ L 0, ∀ s ∈ D, t.Apart s) (hm : (L 0).length + 2 * n ≤ 1000000) (hm6 : (L 5).length ≤ 1000000) :
  Calls Tryz.prog 10 #[.pointer (some ⟨B, 0, none⟩), .slice a n cap] w fun en w' => en = .returned (.tuple #[]) ∧ ∃ cs' YY y, Kfr w w' B base cs cs' ∧ (∀ s : Lst, s.v = .slice a n cap → s.n = n → s.c = cap → Rdy w base cs (kd 5).W (kd 5).et s → (∀ t ∈ lsn L 0 D 5, t.Apart s) → Kst kd Same w' B base cs' (lsn (lsn L 0 D) 5 [s]) (ysn YY 5 [y])) ∧ (n = 0 → cap = 0 → ∃ s, w.heap.size ≤ s.g ∧ s.C = 0 ∧ Kst kd Same w' B base cs' (lsn (lsn L 0 D) 5 [s]) (ysn YY 5 [y])) := by
 obtain ⟨i0, hi, hz0, hz1, hz2⟩ := info_parts kinfo_pairsK
 have S0 : Hid (∃ cz YY, Kst kd Same w B base cz (lsn L 0 (D.take (2 * 0))) YY ∧ Kfr w w B base cs cz) := ⟨cs, ys, by rw [Nat.mul_zero, List.take_zero, lsn_nil]; exact h, Kfr.of ((Qt.refl _).grown none)⟩
 have HD := hid_intro hD
 have HDO := hid_intro hDo
 have HTL0 := hid_intro hti
 have AP : Hid (∀ j k, D[j]? = some k → ∀ t ∈ lsn L 0 (D.take j) 0, t.Apart k) := fun j k hk t ht => by
  rw [lsn_same] at ht
  rcases List.mem_append.1 ht with h | h
  ·exact hDa t h k (List.mem_of_getElem? hk)
  ·obtain ⟨i, hi⟩ := List.mem_iff_getElem?.1 h
   have hil := (List.getElem?_eq_some_iff.1 hi).1
   rw [List.length_take] at hil
   rw [List.getElem?_take, if_pos (by omega)] at hi
   exact ls_pair hDp hi hk (by omega)
 clear h hti hD hDo hDp hDa
 go_enter Tryz.func10, Tryz.ntmps10
 go_wp2
 go_loopw [4] (fun si wr => ∃ i : Nat, i ≤ n ∧ si = .int .i64 i ∧ ∃ cz YY, Kst kd Same wr B base cz (lsn L 0 (D.take (2 * i))) YY ∧ Kfr w wr B base cs cz) (fun si _ => n - (intOf si).toNat)
 case atStart => exact ⟨0, Nat.zero_le _, rfl, S0.out⟩
 case round =>
  obtain ⟨i, hi', rfl, cz, YY, hT, hkf⟩ := hrel
  have HT := hid_intro hT
  have HKF := hid_intro hkf
  clear hT hkf S0
  by_cases hlt : i < n
  ·obtain ⟨b, off, k, v, rfl, hk, hv, ck, cv⟩ := HD.out i hlt
   obtain ⟨p, hp⟩ : ∃ p, Z[i]? = some p := ⟨_, List.getElem?_eq_getElem (by omega)⟩
   obtain ⟨b', off', ao, c, bo, d, e, q1, q2, q6, _, q9, _, q12⟩ := HTL0.out.row i p hp
   simp only [Option.some.injEq, Addr.mk.injEq, and_true] at e
   obtain ⟨rfl, rfl⟩ := e
   have hkr := HDO.out k (List.mem_of_getElem? hk)
   have hvr := HDO.out v (List.mem_of_getElem? hv)
   obtain ⟨ak, ekv, _⟩ := hkr.ok.val
   obtain ⟨av, evv, _⟩ := hvr.ok.val
   have ck2 := ck
   have cv2 := cv
   rw [q1] at ck2
   rw [q2] at cv2
   have e1 := Option.some.inj ck2
   have e2 := Option.some.inj cv2
   rw [ekv] at e1
   rw [evv] at e2
   simp only [Value.slice.injEq] at e1 e2
   obtain ⟨e1a, e1b, e1c⟩ := e1
   obtain ⟨e2a, e2b, e2c⟩ := e2
   subst e1a e1c e2a e2c
   rw [e1b] at q1 q6
   rw [e2b] at q2 q9
   have c1 := HKF.out.toKee.cell q1 q12
   have c2 := HKF.out.toKee.cell q2 q12
   have HQ6 := hid_intro (q6.kee HKF.out.toKee)
   have HQ9 := hid_intro q9
   have HKR := hid_intro (hkr.kee HKF.out.toKee)
   have HVR := hid_intro hvr
   have HEK := hid_intro ekv
   have HEV := hid_intro evv
   have HK := hid_intro hk
   have HV := hid_intro hv
   have HQ2 := hid_intro q2
   have HQ12 := hid_intro q12
   have g0 : (0 : Int) ≤ (i : Int) := by omega
   have g1 : (i : Int) < (n : Int) := by omega
   have hLk : (lsn L 0 (D.take (2 * i)) 0).length ≤ 1000000 := by rw [lsn_same, List.length_append, List.length_take]; omega
   have hLv : (lsn L 0 (D.take (2 * i + 1)) 0).length ≤ 1000000 := by rw [lsn_same, List.length_append, List.length_take]; omega
   have hkn := hkr.n
   have hvn := hvr.n
   clear e1b e2b hp ck ck2 cv cv2 q1 q2 q6 q9 q12 hkr hvr hk hv ekv evv
   go_wp2_with fail
   refine (kst_bytes hK HT.out ek0 es0 ao k.n k.c _ HQ6.out hkn hLk).mono ?_
   rintro en w1 ⟨rfl, cz1, y1, k1, k2, _⟩
   have HT1 := hid_intro (k2 k HEK.out rfl rfl (by rw [ek0]; exact HKR.out) (AP.out _ k HK.out))
   have HKF1 := hid_intro (HKF.out.trans k1)
   have etk : D.take (2 * i + 1) = D.take (2 * i) ++ [k] := by
    rw [List.take_add_one, HK.out]; rfl
   rw [lsn_lsn, ← etk] at HT1
   have c3 := HKF1.out.toKee.cell HQ2.out HQ12.out
   have HQ91 := hid_intro (HQ9.out.kee HKF1.out.toKee)
   have HVR1 := hid_intro (HVR.out.kee HKF1.out.toKee)
   clear k1 k2 etk HT HKF HQ6 HQ9 HKR HVR c1 c2
   go_wp2_with fail
   refine (kst_bytes hK HT1.out ek0 es0 bo v.n v.c _ HQ91.out hvn hLv).mono ?_
   rintro en w3 ⟨rfl, cz3, y3, k1, k2, _⟩
   have HT3 := hid_intro (k2 v HEV.out rfl rfl (by rw [ek0]; exact HVR1.out) (AP.out _ v HV.out))
   have HKF3 := hid_intro (HKF1.out.trans k1)
   have etv : D.take (2 * (i + 1)) = D.take (2 * i + 1) ++ [v] := by
    rw [show 2 * (i + 1) = 2 * i + 1 + 1 by omega, List.take_add_one, HV.out]; rfl
   rw [lsn_lsn, ← etv] at HT3
   clear k1 k2 etv HT1 HKF1 HQ91 HVR1 c3
   go_wp2
   go_roundw
   case rel => exact ⟨i + 1, by omega, by go_num, _, _, HT3.out, HKF3.out⟩
   case measure => simp [intOf]; omega
  ·have hin : n = i := by omega
   subst hin
   have etl : D.take (2 * n) = D := List.take_of_length_le (by omega)
   rw [etl] at HT
   clear etl
   have HTL := hid_intro (HTL0.out.kee HKF.out.toKee)
   have hmj : (lsn L 0 D 5).length ≤ 1000000 := by rw [lsn_far _ _ (by omega)]; exact hm6
   have HX := hid_intro HT.out.t.box
   have HOB : Hid (wr.ownsRow base 22 1 (cz 17) (lsn L 0 D 5).length ((lsn L 0 D 5).map Lst.v)) := by have := (HT.out.k 5 (by omega)).ob; rw [ek] at this; exact this
   have HOW : Hid (wr.ownsRow base 22 1 (cz 18) (lsn L 0 D 5).length (YY 5)) := by have := (HT.out.k 5 (by omega)).ow; rw [ek] at this; exact this
   have hB1 := HT.out.t.notB 17 (by omega)
   have hB2 := HT.out.t.notB 18 (by omega)
   have hbase := HT.out.t.bB.2
   have hBb := HT.out.t.bB.1
   have hbw : ∀ i, (cz 17).ownBlock = some i → (cz 18).ownBlock ≠ some i := HT.out.t.un 17 18 (by omega) (by omega) (by omega)
   have HBW := hid_intro hbw
   have k2 := HX.out.cell 17 (by omega)
   obtain ⟨LJ, hLJ⟩ : ∃ LJ, LJ = lsn L 0 D 5 := ⟨_, rfl⟩
   obtain ⟨YJ, hYJ⟩ : ∃ YJ, YJ = YY 5 := ⟨_, rfl⟩
   rw [← hLJ] at HOB HOW hmj
   rw [← hYJ] at HOW
   have ELJ := hid_intro hLJ
   have EYJ := hid_intro hYJ
   clear hLJ hYJ
   go_wp2_with (at_builtin; refine wpList_append_lies _ rfl _ _ 33 rfl base 22 i0 (.slice none 0 0) 1 24 Tryz.underlying33 hi hz0 hz1 hz2 rfl (by decide) (cz 17) LJ.length (LJ.map Lst.v) rfl (HOB.out.alloc _) ⟨wr.heap.size, 0, none⟩ 1 1 [.slice a n cap] rfl rfl (cell_one_new _ _ _) (by intro u hu; simp at hu; subst hu; rfl) (by omega) (by unfold maxLen; omega) (by omega) (by simp; omega) (wr.heap.size + 1) (by simp) ?_)
   intro g1 c1 w1 hown1 hg1 hat1 hlt1
   have X1 : Hid (Kbx w1 B cz) := (HX.out.kept (World.grownBy_alloc _ _ none) (by simp)).kept hg1 (Ne.symm hB1)
   have X2 : Hid (Kbx (w1.setCell ⟨B, 17, none⟩ (.slice (some ⟨g1, 0, none⟩) (LJ.length + 1) c1)) B (kup cz 17 (.slice (some ⟨g1, 0, none⟩) (LJ.length + 1) c1))) := X1.out.set 17 (by omega) _
   have k2' := X1.out.cell 17 (by omega)
   have f2' := X1.out.fz 17 (by omega)
   have k3' : (w1.setCell ⟨B, 17, none⟩ (.slice (some ⟨g1, 0, none⟩) (LJ.length + 1) c1)).cell? ⟨B, 18, none⟩ = some (cz 18) := (X2.out.cell 18 (by omega)).trans (by rw [kup_far _ _ (by omega)])
   have f3' := X2.out.fz 18 (by omega)
   have H1 := hid_intro hown1
   have HG1 := hid_intro hg1
   clear hown1 hg1
   go_wp2
   obtain ⟨w2, hw2⟩ : ∃ w2, w2 = w1.setCell ⟨B, 17, none⟩ (.slice (some ⟨g1, 0, none⟩) (LJ.length + 1) c1) := ⟨_, rfl⟩
   rw [← hw2] at X2 k3' f3' ⊢
   have HW2 := hid_intro hw2
   clear hw2
   have hs12 : w2.heap.size = w1.heap.size := by rw [HW2.out]; simp
   have hs01 : wr.heap.size < w1.heap.size := by have := HG1.out.size; simp at this; omega
   have hgw2 : w1.grownBy w2 (some B) := by rw [HW2.out]; exact kset_grown _ _ _ _
   have KF2 : Hid (Kee wr w2 base cz cz) := ⟨by omega, fun d hd hf => ⟨(hgw2.block d (by omega) (fun e => by have := hf.1; have := Option.some.inj e; omega)).trans ((HG1.out.block d (by simp; omega) (fun e => hf.2 17 (by omega) e.symm)).trans ((World.grownBy_alloc wr _ none).block d hd (by simp))), hf⟩⟩
   have Y2 : Hid (∀ w' : World, w'.heap = w2.heap → Pm w' a Z) := fun w' e => (HTL.out.kee KF2.out).pm.heapD e
   have O2 : Hid (w2.ownsRow base 22 1 (cz 18) LJ.length YJ) :=
    (((HOW.out.alloc _).kept HG1.out (by
     cases hvw : (cz 18).ownBlock with
     | none => exact Or.inl rfl
     | some i => exact Or.inr (fun e => hbw i e.symm hvw))).kept hgw2 (Or.inr hB2))
   have P2 : Hid (w2.ownsRow base 22 1 (.slice (some ⟨g1, 0, none⟩) (LJ.length + 1) c1) (LJ.length + 1) (LJ.map Lst.v ++ [.slice a n cap])) :=
    H1.out.kept hgw2 (Or.inr (fun e => by
     have e' : g1 = B := Option.some.inj e
     have := HX.out.lt
     rcases hat1 with h | h
     ·exact hB1 (by rw [h, e'])
     ·omega))
   have HGW2 := hid_intro hgw2
   clear hgw2
   have HS12 := hid_intro hs12
   have hb2 : base ≤ w2.heap.size := by omega
   have HVW := hid_intro (fun i e => (HOW.out.lt i e).2 : ∀ i, (cz 18).ownBlock = some i → i < wr.heap.size)
   clear hs12
   generalize hvw : cz 18 = vw at *
   go_region_law
    ((first
     | (go_simp; go_at_call 23; refine (refPairs_own a n cap Z _ (by exact Y2.out _ rfl) hzn (by omega) hzs).mono ?_; rintro en w3 ⟨A, cA, zs3, rfl, hg3, hq3, hw3, hb3⟩; have kk3 : w3.cell? ⟨B, 18, none⟩ = some vw := hg3.cell (by simpa using k3') (by simp); have nn3 := World.new_ne w3 ⟨B, 18, none⟩ kk3; have kk3o : ∀ o : Obj, (w3.alloc o).cell? ⟨B, 18, none⟩ = some vw := (fun o => by rw [World.cell?_alloc_lt _ _ _ (World.block_lt_of_cell? _ _ kk3)]; exact kk3); have ff3 : w3.frozen? ⟨B, 18, none⟩ = false := (hg3.frozen_far ⟨B, 18, none⟩ (by simpa using World.block_lt_of_cell? _ _ k3') (by simp)).trans (by simpa using f3'))
     | (refine step_append_lies _ (by rfl) _ _ _ (by rfl) base 22 i0 (.slice none 0 0) 1 24 Tryz.underlying33 hi hz0 hz1 hz2 (by rfl) (by decide) vw LJ.length YJ (by rfl) (by exact ((O2.out.kept ((Qt.refl w2).drew.grown none) (by cases vw.ownBlock <;> simp)).kept hg3 (by cases vw.ownBlock <;> simp)).alloc _) ⟨w3.heap.size, 0, none⟩ 1 1 [.slice (some ⟨A, 0, none⟩) n cA] (by rfl) (by rfl) (by exact cell_one_new _ _ _) (by intro u hu; simp at hu; subst hu; rfl) (by omega) (by unfold maxLen; omega) (by omega) (by have h9 := hg3.size; simp at h9; simp; omega) (w3.heap.size + 1) (by simp) ?_; intro g4 c4 w4 hown4 hg4 hat4 hlt4; have kk4 : w4.cell? ⟨B, 18, none⟩ = some vw := hg4.cell (by rw [World.cell?_alloc_lt _ _ _ (World.block_lt_of_cell? _ _ kk3)]; exact kk3) (Ne.symm hB2); have ff4 : w4.frozen? ⟨B, 18, none⟩ = false := (hg4.frozen_far ⟨B, 18, none⟩ (by have := World.block_lt_of_cell? _ _ kk3; simp at this ⊢; omega) (Ne.symm hB2)).trans ((World.frozen?_of_block ((World.grownBy_alloc w3 _ none).block B (World.block_lt_of_cell? _ _ kk3) (by simp))).trans ff3))))
   all_goals
    refine Go.Great.bodyPost_end0 rfl rfl ?_
    subst hvw
    have hs3' : w2.heap.size ≤ w3.heap.size := by have := hg3.size; simpa using this
    have hset := kset_grown w4 B 18 (.slice (some ⟨g4, 0, none⟩) (LJ.length + 1) c4)
    have hKP := Kpk.make (q := 17) (by omega) HX.out.lt HOW.out hB1 hB2 HBW.out HG1.out hat1 hlt1 HGW2.out HS12.out X2.out P2.out hg3 hs3' hown4 hg4 hat4
    have hBl := HX.out.lt
    have hS := HS12.out
    have hVW := HVW.out
    have hKP' : Kpk (kd 5).lt 17 wr (w4.setCell ⟨B, 18, none⟩ (.slice (some ⟨g4, 0, none⟩) (LJ.length + 1) c4)) B cz base (lsn L 0 D 5).length ((lsn L 0 D 5).map Lst.v) (YY 5) (.slice a n cap) (.slice (some ⟨A, 0, none⟩) n cA) (.slice (some ⟨g1, 0, none⟩) (LJ.length + 1) c1) (.slice (some ⟨g4, 0, none⟩) (LJ.length + 1) c4) := by rw [← ELJ.out, ← EYJ.out, ek]; exact hKP
    obtain ⟨s1, s2, s3⟩ := HT.out.snoc hK 5 17 (by omega) (by rw [ek]; rfl) hKP'
    have hg4l : g4 < w2.heap.size ∨ w3.heap.size ≤ g4 := by
     rcases hat4 with h | h
     ·exact Or.inl (by have := hVW g4 h; omega)
     ·exact Or.inr (by omega)
    have FC : ∀ b, w2.heap.size ≤ b → b < w3.heap.size → Fre base (kup (kup cz 17 (.slice (some ⟨g1, 0, none⟩) (LJ.length + 1) c1)) (17 + 1) (.slice (some ⟨g4, 0, none⟩) (LJ.length + 1) c4)) b := fun b h1 h2 => fre_copy HT.out.t (lo := w2.heap.size) (hi := w3.heap.size) (by omega) (by omega) hg4l h1 h2
    have KO : ∀ {H W : Nat} {t : TypeId} {v : Value} {m : Nat} {xs : List Value}, w3.ownsRow H t W v m xs → w2.heap.size ≤ H → (w4.setCell ⟨B, 18, none⟩ (.slice (some ⟨g4, 0, none⟩) (LJ.length + 1) c4)).ownsRow H t W v m xs := fun {H W t v m xs} ho hH => by
     have hne : ∀ i, v.ownBlock = some i → w2.heap.size ≤ i := fun i e => by have := (ho.lt i e).1; omega
     have h5 := (ho.alloc (.cells #[.slice (some ⟨A, 0, none⟩) n cA] 22)).kept hg4 (by
      cases hv : v.ownBlock with
      | none => exact Or.inl rfl
      | some i => exact Or.inr (fun e => by have := hne i hv; have := hVW i e.symm; omega))
     exact h5.kept hset (by
      cases hv : v.ownBlock with
      | none => exact Or.inl rfl
      | some i => exact Or.inr (fun e => by have := hne i hv; have := Option.some.inj e; omega))
    have hq6 := KO (H := w2.drew.heap.size) hq3 (Nat.le_refl w2.heap.size)
    have hw6 : Py (w4.setCell ⟨B, 18, none⟩ (.slice (some ⟨g4, 0, none⟩) (LJ.length + 1) c4)) w2.heap.size zs3 Z := (py_of hw3 hb3).map fun _ _ _ _ _ _ ho => KO ho (Nat.le_refl w2.heap.size)
    have hA3 := hq3.lt A rfl
    have hA0 : w2.heap.size ≤ A := hA3.1
    have SM : (∀ (s : Lst), s.v = .slice a n cap → s.n = n → s.c = cap → Same 5 (w4.setCell ⟨B, 18, none⟩ (.slice (some ⟨g4, 0, none⟩) (LJ.length + 1) c4)) base (kup (kup cz 17 (.slice (some ⟨g1, 0, none⟩) (LJ.length + 1) c1)) (17 + 1) (.slice (some ⟨g4, 0, none⟩) (LJ.length + 1) c4)) s (.slice (some ⟨A, 0, none⟩) n cA)) := fun s e1 e2 e3 => by
     subst e2 e3
     rw [es]
     exact ⟨a, some ⟨A, 0, none⟩, cA, Z, e1, rfl, HTL.out.kee s2.toKee, tp_own hq6 hw6 (fun g hg => hb3 _ hg) hA3 (fun d h1 h2 => FC d h1 h2), hzn, by omega⟩
    refine ⟨rfl, _, YY, .slice (some ⟨A, 0, none⟩) n cA, HKF.out.trans s2, fun s e1 e2 e3 hr hap => ?_, fun e1 e2 => ⟨lsz (.slice a n cap) A, by have := HKF.out.size; show _ ≤ A; omega, rfl, ?_⟩⟩
    ·have hr' := hr.kee HKF.out.toKee
     exact s3 s e1 hr'.ok (s2.toKee.there hr'.th hr'.fr) hr'.n (hr'.bl.kee s2.toKee hr'.fr) (s2.block s.g hr'.bl.lt hr'.fr).2 hap (SM s e1 e2 e3)
    ·have hbA := blk_own hq6 A rfl
     have hsm := SM (lsz (.slice a n cap) A) rfl (by rw [e1]; rfl) (by rw [e2]; rfl)
     subst e1 e2
     refine s3 (lsz (.slice a 0 0) A) rfl (lsz_ok _ _ _) (lsz_there _ _ _) (by simp [lsz]) ?_ (FC _ hA0 hA3.2) (fun t _ => lsz_apart _ _ _) hsm
     rw [ek]
     exact hbA
end Go.Proofs.YthodgddoolbenaaGreatDoor
