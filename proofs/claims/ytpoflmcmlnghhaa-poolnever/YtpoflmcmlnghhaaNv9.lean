import Derived.Test.YtpoflmcmlnghhaaNvC
namespace Go.Proofs.Ytpoflmcmlnghhaa
open Go.RowKit Go.Maps
theorem Lp.len0 {p : Po} {ls ls' : Fin 4 → List Int} {N i : Nat} (h : Lt p ls) (k : Lp p ls (tkn p N) i ls') (hN : (N : Int) ≤ rm p) : (ls' 0).length ≤ 524287 := by
  have hk := h.ok.k
  have hck := h.ok.ck
  have hT := ris_nodup (h.tris N)
  have hin : ∀ x ∈ tkn p N, 2 ≤ x ∧ x < 524287 ∧ x ∉ ls 0 := fun x hx => by
    unfold tkn at hx
    rw [List.mem_append, mem_ups] at hx
    rcases hx with hx | ⟨j, hj, rfl⟩
    · have h1 := h.usl (List.mem_of_mem_take hx)
      refine ⟨h1.1, by omega, fun hm => ?_⟩
      have := (h.mine x hm).2.2
      rw [h1.2.2] at this
      cases this
    · unfold rm at hN
      have := h.ok.c2
      refine ⟨by omega, by omega, fun hm => ?_⟩
      have := (h.mine _ hm).2.1
      omega
  have hn : (ls' 0).Nodup := by
    rw [k.m, List.nodup_append]
    refine ⟨h.nd, hT.sublist (List.take_sublist _ _), fun a ha b hb e => ?_⟩
    subst e
    exact (hin a (List.mem_of_mem_take hb)).2.2 ha
  have h2 := nodup_le (l := (List.range 524287).map fun (i : Nat) => (i : Int)) hn (fun x hx => by
    have : 2 ≤ x ∧ x < 524287 := by
      rw [k.m, List.mem_append] at hx
      rcases hx with hx | hx
      · have := h.mine x hx
        omega
      · have := hin x (List.mem_of_mem_take hx)
        omega
    exact List.mem_map.2 ⟨x.toNat, List.mem_range.2 (by omega), by omega⟩)
  rw [List.length_map, List.length_range] at h2
  exact h2
theorem Lp.len1 {p : Po} {ls ls' : Fin 4 → List Int} {T : List Int} {i : Nat} (h : Lt p ls) (k : Lp p ls T i ls') : (ls' 1).length ≤ 524287 := by
  have a1 := nodup_le (l := p.l.map (·.1)) k.nf (fun x hx => by
    obtain ⟨j, hj, ej⟩ := List.mem_iff_getElem.1 hx
    have hj2 : j < (ls' 2).length := by rw [k.len]; exact hj
    have hz : ((ls' 1)[j], (ls' 2)[j]) ∈ (ls' 1).zip (ls' 2) := by
      rw [← List.getElem_zip (h := by rw [List.length_zip]; omega)]
      exact List.getElem_mem _
    exact List.mem_map.2 ⟨_, ((k.mem _).1 hz).1, ej⟩)
  rw [List.length_map] at a1
  have := h.ok.len h.ris
  omega
theorem unpin_both {w : World} {B s q : Nat} {p : Po} {ls : Fin 4 → List Int} (v : Int) (h : Pl w B s q p) (hv : -9223372036854775808 ≤ v ∧ v ≤ 9223372036854775807) (ht : Lt p ls) (hl : (ls 3).length ≤ 1001) (bh : Bool) (hb : bh = decide (v ∈ ls 3)) :
    Calls Try.prog 25 #[.pointer (some ⟨B, 0, none⟩), .int .i64 v] w fun en w' => en = .returned (.bool bh) ∧ ∃ p2, Pl w' B s q p2 ∧ Fr w w' (Bk B s q) ∧ Lt p2 (upd ls 3 ((ls 3).erase v)) ∧ p2.k = p.k := by
  have hg := ht.pq.get v
  have hq := ht.pq.len
  by_cases hm : v ∈ ls 3
  · refine (unpin_yes v h hv (by
      have : ¬ getI p.q v = 0 := fun e => hg.2.2.1 e hm
      omega) (by omega)).mono ?_
    rintro en w' ⟨rfl, h1, h2⟩
    exact ⟨by rw [hb, decide_eq_true hm], _, h1, h2, ht.unpin hm, rfl⟩
  · refine (unpin_no v h hv (hg.2.2.2 hm)).mono ?_
    rintro en w' ⟨rfl, rfl⟩
    exact ⟨by rw [hb, decide_eq_false hm], _, h, Fr.refl _ _, ht.unno hm, rfl⟩
theorem drew_fr {w w' : World} {G : Nat → Prop} (h : Fr w.drew w' G) : Fr w w' G := ⟨h.os, h.tape, h.output, h.size, h.block⟩
set_option maxHeartbeats 16000000 in
set_option maxRecDepth 100000 in
theorem turn_any {w : World} {F : Nat → Prop} {X B s q : Nat} {p : Po} {ls : Fin 4 → List Int} {ver : Int} {vs : Fin 4 → Value} (hl : Lv w F X B vs ls ver) (hp : Pl w B s q p) (hb : ∀ i, Bk B s q i → ¬ F i) (ht : Lt p ls) (t : Tq) (hn3 : (ls 3).length ≤ 1000) (hv : 0 ≤ ver ∧ ver ≤ 1000) (ha : t.a ≤ 3000) (hc : -9223372036854775808 ≤ t.c ∧ t.c ≤ 9223372036854775807) (hd : -9223372036854775808 ≤ t.d ∧ t.d ≤ 9223372036854775807) :
    Calls Try.prog 13 #[.pointer (some ⟨X, 0, none⟩), .agg #[.int .i64 t.a, .int .i64 t.b, .int .i64 t.c, .int .i64 t.d]] w fun e w' => e = .returned (.bool true) ∧ ∃ P p' ls', StE w F X B s q P t w' p' ls' (ver + 1) ∧ Lt p' ls' ∧ (ls' 3).length ≤ (ls 3).length + 1 ∧ p'.k = p.k := by
  have HS := hid_intro (St.box t hl hp hb)
  have HT := hid_intro ht
  have HC := hid_intro hc
  have HD := hid_intro hd
  have HN3 := hid_intro hn3
  have HV := hid_intro hv
  have HBX : Hid ((w.alloc (.cells #[.int .i64 t.a, .int .i64 t.b, .int .i64 t.c, .int .i64 t.d] 44)) = w.alloc (.cells (tqc t) 44)) := rfl
  have a2 : (w.alloc (.cells #[.int .i64 t.a, .int .i64 t.b, .int .i64 t.c, .int .i64 t.d] 44)).cell? ⟨w.heap.size, 2, none⟩ = some (.int .i64 t.c) := HS.out.t 2
  clear hl hp hb ht hc hd hn3 hv
  go_enter Try.func13, Try.ntmps13
  go_upto_if 18 with fail
  have HS0 := hid_intro (show St w F X B s q w.heap.size t (w.alloc (.cells #[.int .i64 t.a, .int .i64 t.b, .int .i64 t.c, .int .i64 t.d] 44)) p ls ver F vs from HS.out)
  clear HS HBX
  generalize w.alloc (.cells #[.int .i64 t.a, .int .i64 t.b, .int .i64 t.c, .int .i64 t.d] 44) = W at *
  generalize w.heap.size = P at *
  have c0 := HS0.out.lv.c0
  go_cut [] from 16 to 36 (fun wx => ∃ p1 ls1, StE w F X B s q P t wx p1 ls1 ver ∧ Lt p1 ls1 ∧ (ls1 3).length ≤ (ls 3).length + 1 ∧ p1.k = p.k)
  case first =>
    by_cases hpin : 0 < t.c
    · have HPQ := hid_intro (HT.out.pq.get t.c)
      have hql := HT.out.pq.len
      have hn3 := HN3.out
      go_wp2_with fail
      go_region_held3 (fun w' => w'.cell? ⟨X, 0, none⟩ = some (.pointer (some ⟨B, 0, none⟩)) ∧ w'.cell? ⟨P, 2, none⟩ = some (.int .i64 t.c)) (first | exact ⟨c0, a2⟩ | exact T3.out | go_keep)
        (first | (go_at_call 24; refine (pin_any t.c (HS0.out.pl.keptN ((Qt.refl W).drew.grown none)) HC.out (by have := HPQ.out; omega) HPQ.out.1 (by omega)).mono ?_; rintro en w3 ⟨rfl, hp3, hf3⟩; have HS3 := hid_intro (HS0.out.pool (drew_fr hf3) hp3); have T3 := hid_intro (show w3.cell? ⟨X, 0, none⟩ = some (.pointer (some ⟨B, 0, none⟩)) ∧ w3.cell? ⟨P, 2, none⟩ = some (.int .i64 t.c) from ⟨HS3.out.lv.c0, HS3.out.t 2⟩); clear hp3 hf3))
      all_goals
        have a23 := T3.out.2
        clear T3
        have ga0 := World.grownBy_alloc w3 (.cells #[.int .i64 t.c] 3) none
        have a23a := ga0.cell a23 (by simp)
        clear ga0
        obtain ⟨po, pc, ev, pnt, pc1, pc2⟩ := (HS3.out.lv.own 3).shape
        have d4 := HS3.out.lv.c4
        rw [ev] at d4
        have ga := World.grownBy_alloc w3 (.cells #[.int .i64 t.c] 3) none
        have d4a := ga.cell d4 (by simp)
        have HOA : Hid (∀ V : World, V.heap = (w3.alloc (.cells #[.int .i64 t.c] 3)).heap → Ow V 0 (.slice po (ls 3).length pc) (ls 3)) := fun V e => by
          have h1 := HS3.out.lv.own 3
          rw [ev] at h1
          exact own_same (h1.keptN ga) (fun g _ => by rw [e])
        have HNA : Hid (∀ V : World, V.heap = (w3.alloc (.cells #[.int .i64 t.c] 3)).heap → Nt V (some ⟨w3.heap.size, 0, none⟩) [t.c]) := fun V e => (Nt.lit w3 3 #[.int .i64 t.c] [t.c] rfl).heap e
        have HZ : Hid (∀ (V w8 : World) (v8 : Value), V.grownBy w8 (Value.slice po (ls 3).length pc).ownBlock → Qt (w3.alloc (.cells #[.int .i64 t.c] 3)) V → Ow w8 0 v8 (ls 3 ++ [t.c]) → (∀ g, v8.ownBlock = some g → (Value.slice po (ls 3).length pc).ownBlock = some g ∨ V.heap.size ≤ g) → StE w F X B s q P t (w8.setCell ⟨X, 4, none⟩ v8) { p with q := pinQ p.q t.c } (upd ls 3 (ls 3 ++ [t.c])) ver ∧ w8.cell? ⟨X, 4, none⟩ = some (.slice po (ls 3).length pc) ∧ w8.frozen? ⟨X, 4, none⟩ = false ∧ Fr w3 (w8.setCell ⟨X, 4, none⟩ v8) F) := fun V w8 v8 hg hq ho hl => by
          rw [← ev] at hg hl ⊢
          have h3 := HS3.out.lv.app 3 _ hg hq v8 _ ho hl
          exact ⟨⟨_, _, HS3.out.life h3.1 h3.2.1⟩, h3.2.2.1, h3.2.2.2, h3.2.1⟩
        clear ga ev pnt pc1
        go_wp2_with fail
        go_region_law (refine step17 rfl (.tmp 30) (.tmp 33) (by rfl) 0 (.slice po (ls 3).length pc) (ls 3) (by rfl) (by exact HOA.out _ rfl) (some ⟨w3.heap.size, 0, none⟩) 1 1 (by rfl) [t.c] (by exact HNA.out _ rfl) rfl (by simp) (by omega) (Nat.zero_le _) ?_; intro v8 w8 ho8 hg8 hl8; have Z8 := HZ.out _ w8 v8 hg8 ⟨rfl, rfl, rfl, rfl⟩ ho8 hl8; obtain ⟨va, vn, vc, hv8⟩ := owns_shape7 ho8; clear ho8 hg8 hl8; subst hv8; have c48 := Z8.2.1; have f48 := Z8.2.2.1; have ZZ := hid_intro Z8; clear Z8)
        all_goals
          go_wp2_with fail
          go_meet
          case rel => exact ⟨_, _, ZZ.out.1, HT.out.pin t.c, by rw [upd_same]; simp, rfl⟩
    · go_wp2_with fail
      go_meet
      case rel => exact ⟨p, ls, ⟨_, _, HS0.out⟩, HT.out, by omega, rfl⟩
  case rest =>
    obtain ⟨p1, ls1, ⟨F1, vs1, hs1⟩, ht1, hl1, hk1⟩ := hcut
    have HS1 := hid_intro hs1
    have HT1 := hid_intro ht1
    have HL1 := hid_intro hl1
    have HK1 := hid_intro hk1
    have hn13 : (ls1 3).length ≤ 1001 := by have := HN3.out; omega
    clear hs1 ht1 hl1 hk1 HS0 HT a2 c0
    obtain ⟨po, pc, ev, pnt, pc1, pc2⟩ := (HS1.out.lv.own 3).shape
    have c4 := HS1.out.lv.c4
    rw [ev] at c4
    have t3 : wc.cell? ⟨P, 3, none⟩ = some (.int .i64 t.d) := HS1.out.t 3
    have HHAS : Hid (∀ V : World, V.heap = wc.heap → Calls Try.prog 17 #[.slice po (ls1 3).length pc, .int .i64 t.d] V fun en w' => en = .returned (.bool (decide (t.d ∈ ls1 3))) ∧ w' = V) := fun V e => hasL_any po (ls1 3).length pc (ls1 3) t.d V (pnt.heap e) rfl (by omega)
    clear ev pnt pc1
    go_upto_region 4 with fail
    obtain ⟨bh, hbh⟩ : ∃ bh, bh = decide (t.d ∈ ls1 3) := ⟨_, rfl⟩
    have HBH := hid_intro hbh
    rw [← hbh] at HHAS
    clear hbh
    go_cut [5] from 37 to 43 (fun s5 wx => s5 = .bool bh ∧ Qt wc wx)
    case first =>
      go_quiet ((go_at_call 17; exact Calls.quiet_of_same (HHAS.out _ rfl)))
      go_wp2_with fail
      go_meet
      case rel => exact ⟨rfl, Qt.drewN _ _⟩
    case rest =>
      obtain ⟨rfl, hq⟩ := hcut
      have HS2 := hid_intro (HS1.out.keptN (hq.grown none))
      clear hq HS1 HHAS c4 t3
      have d0 := HS2.out.lv.c0
      have t3 : wc.cell? ⟨P, 3, none⟩ = some (.int .i64 t.d) := HS2.out.t 3
      go_upto_region 5 with fail
      go_cut [52] from 44 to 52 (fun s52 wx => s52 = .bool false ∧ ∃ p2, StE w F X B s q P t wx p2 ls1 ver ∧ Lt p2 (upd ls1 3 ((ls1 3).erase t.d)) ∧ p2.k = p.k)
      case first =>
        go_region_held3 (fun w' => w'.cell? ⟨X, 0, none⟩ = some (.pointer (some ⟨B, 0, none⟩)) ∧ w'.cell? ⟨P, 3, none⟩ = some (.int .i64 t.d)) (first | exact ⟨d0, t3⟩ | exact T3.out | go_keep)
          (first | (go_at_call 25; refine (unpin_both t.d (HS2.out.pl.keptN ((Qt.refl wc).drew.grown none)) HD.out HT1.out hn13 bh HBH.out).mono ?_; rintro en w3 ⟨rfl, p2, hp3, hf3, ht3, hk3⟩; have HS3 := hid_intro (HS2.out.pool (drew_fr hf3) hp3); have HT3 := hid_intro ht3; have HK3 := hid_intro (hk3.trans HK1.out); have T3 := hid_intro (show w3.cell? ⟨X, 0, none⟩ = some (.pointer (some ⟨B, 0, none⟩)) ∧ w3.cell? ⟨P, 3, none⟩ = some (.int .i64 t.d) from ⟨HS3.out.lv.c0, HS3.out.t 3⟩); clear hp3 hf3 ht3 hk3))
        all_goals
          clear T3
          go_wp2_with fail
          go_meet
          case rel => exact ⟨rfl, p2, ⟨_, _, HS3.out⟩, HT3.out, HK3.out⟩
      case rest =>
        obtain ⟨rfl, p2, ⟨F2, vs2, hs2⟩, ht2, hk2⟩ := hcut
        have HS3 := hid_intro hs2
        have HT2 := hid_intro ht2
        have HK2 := hid_intro hk2
        clear hs2 ht2 hk2 HS2 HT1 HK1 d0 t3 HBH
        obtain ⟨po, pc, ev, pnt, pc1, pc2⟩ := (HS3.out.lv.own 3).shape
        have c4 := HS3.out.lv.c4
        rw [ev] at c4
        have t3 : wc.cell? ⟨P, 3, none⟩ = some (.int .i64 t.d) := HS3.out.t 3
        have HWI : Hid (∀ V : World, V.heap = wc.heap → Calls Try.prog 37 #[.slice po (ls1 3).length pc, .int .i64 t.d] V fun e w' => ∃ v, e = .returned v ∧ Ow w' V.heap.size v ((ls1 3).erase t.d) ∧ V.grownBy w' none) := fun V e => without_any po (ls1 3).length pc (ls1 3) t.d V (pnt.heap e) rfl (by omega)
        have HZ : Hid (∀ (V w8 : World) (v8 : Value), V.grownBy w8 none → Qt wc V → Ow w8 V.heap.size v8 ((ls1 3).erase t.d) → StE w F X B s q P t (w8.setCell ⟨X, 4, none⟩ v8) p2 (upd ls1 3 ((ls1 3).erase t.d)) ver ∧ w8.cell? ⟨X, 4, none⟩ = some (.slice po (ls1 3).length pc) ∧ w8.frozen? ⟨X, 4, none⟩ = false) := fun V w8 v8 hg hq ho => by
          have g1 := grown_trans (hq.grown none) hg
          have hz : V.heap.size = wc.heap.size := by rw [hq.heap]
          have h3 := HS3.out.lv.set 3 g1 (fun g e => by cases e) v8 _ (ho.base (Nat.zero_le _)) (fun g e => .inr (by have := (ho.lt e).1; omega))
          exact ⟨⟨_, _, HS3.out.life h3.1 h3.2⟩, g1.cell c4 (by simp), (HS3.out.lv.keptN g1).fz 4⟩
        clear ev pnt pc1
        go_upto_region 7 with fail
        go_cut [] from 53 to 62 (fun wx => StE w F X B s q P t wx p2 (upd ls1 3 ((ls1 3).erase t.d)) ver)
        case first =>
          go_region_law ((go_simp; go_at_call 37; refine (HWI.out wc.drew rfl).mono ?_; rintro en w8 ⟨v8, rfl, ho8, hg8⟩; have Z8 := HZ.out _ w8 v8 hg8 ⟨rfl, rfl, rfl, rfl⟩ ho8; obtain ⟨va, vn, vc, hv8⟩ := owns_shape7 ho8; clear ho8 hg8; subst hv8; have c48 := Z8.2.1; have f48 := Z8.2.2; have ZZ := hid_intro Z8.1; clear Z8))
          all_goals
            go_wp2_with fail
            go_meet
            case rel => exact ZZ.out
        case rest =>
          obtain ⟨F3, vs3, hs3⟩ := hcut
          have HS4 := hid_intro hs3
          clear hs3 HS3 HWI HZ c4 t3
          have HL2 : Hid ((upd ls1 3 ((ls1 3).erase t.d) 3).length ≤ (ls 3).length + 1) := by
            show _ ≤ _
            rw [upd_same]
            exact Nat.le_trans List.length_erase_le HL1.out
          generalize upd ls1 3 ((ls1 3).erase t.d) = ls2 at *
          have c5 := HS4.out.lv.c5
          have f5 := HS4.out.lv.fz 5
          have hv1 := HV.out
          have HS5 := hid_intro (HS4.out.lifeV (HS4.out.lv.setV (ver + 1)).1 (HS4.out.lv.setV (ver + 1)).2)
          have hw1 : IntKind.i64.wrap (ver + 1) = ver + 1 := by simp [IntKind.wrap, IntKind.signed, IntKind.bits]; omega
          have HLN := hid_intro HT2.out.lens
          have HBK := hid_intro (bk_low HS5.out.pl)
          have HFL := hid_intro HS5.out.lv.low
          have t1 : (wc.setCell ⟨X, 5, none⟩ (.int .i64 (ver + 1))).cell? ⟨P, 1, none⟩ = some (.int .i64 t.b) := HS5.out.t 1
          go_upto_region 9 with fail
          clear c5 f5 hw1 HS4
          generalize wc.setCell ⟨X, 5, none⟩ (.int .i64 (ver + 1)) = W5 at *
          go_wp2_with fail
          refine (gives_any HS5.out.lv t.b (by have := HLN.out; omega)).mono ?_
          obtain ⟨hmay, hris, hmine⟩ := HT2.out.gone t.b.toNat
          have HGL : Hid ((gv ((ls2 0).take t.b.toNat)).length ≤ 524287) := by
            show _ ≤ _
            rw [gv_len, List.length_take]
            have := HLN.out
            omega
          have HWF : Hid (Wf (gv ((ls2 0).take t.b.toNat))) := fun x hx => by
            have := HT2.out.mine x (hmine x hx)
            have h2 := HT2.out.ok.ck
            have h3 := HT2.out.ok.k
            omega
          generalize gv ((ls2 0).take t.b.toNat) = g at *
          have HMY := hid_intro hmay
          have HRG := hid_intro hris
          have HMG := hid_intro hmine
          clear hmay hris hmine t1
          rintro en w6 ⟨v6, rfl, ho6, hg6⟩
          have HS6 := hid_intro (HS5.out.keptN hg6)
          have HO6 := hid_intro ho6
          have HG6 := hid_intro hg6
          have hs6 := hg6.size
          clear ho6 hg6
          have c0 := HS6.out.lv.c0
          go_wp2_with fail
          refine (count_any HS6.out.pl).mono ?_
          rintro en w7 ⟨rfl, hw7⟩
          rw [hw7]
          clear hw7 w7
          go_wp2_with fail
          refine (usable_any HS6.out.pl (by have := HLN.out; omega)).mono ?_
          rintro en w7 ⟨v8, rfl, ho8, hg8⟩
          have HS7 := hid_intro (HS6.out.keptN hg8)
          have HO8 := hid_intro (Ow.of ho8)
          have HG7 := hid_intro (grown_trans HG6.out hg8)
          have HO67 := hid_intro (HO6.out.keptN hg8)
          clear ho8 hg8 c0 HS6 HO6 HG6
          have c0 := HS7.out.lv.c0
          go_wp2_with fail
          refine (room_any HS7.out.pl HT2.out.ok).mono ?_
          rintro en w8 ⟨rfl, hg8⟩
          have HS8 := hid_intro (HS7.out.keptN hg8)
          have HOG := hid_intro (HO67.out.keptN hg8)
          have HOU := hid_intro (HO8.out.keptN hg8)
          have HG8 := hid_intro (grown_trans HG7.out hg8)
          have hsz := HG7.out.size
          clear hg8 c0 HS7 HO8 HO67
          have c0 := HS8.out.lv.c0
          have t0 : w8.cell? ⟨P, 0, none⟩ = some (.int .i64 t.a) := HS8.out.t 0
          obtain ⟨go, gc, eg, gnt, gc1, gc2⟩ := HOG.out.shape
          subst eg
          have HGN := hid_intro gnt
          go_upto_region 13 with fail
          go_cut [10] from 89 to 96 (fun s10 wx => s10 = .int .i64 (lsP p2 t.a g) ∧ w8.grownBy wx none)
          case first =>
            go_region_held3 (fun w' => w'.cell? ⟨X, 0, none⟩ = some (.pointer (some ⟨B, 0, none⟩)) ∧ w'.cell? ⟨P, 0, none⟩ = some (.int .i64 t.a)) (first | exact ⟨c0, t0⟩ | exact T3.out | go_keep)
              (first | (go_at_call 22; refine (lists_any (HS8.out.pl.keptN ((Qt.refl w8).drew.grown none)) HT2.out.ok t.a go g.length gc g (HGN.out.keptN ((Qt.refl w8).drew.grown none)) rfl HWF.out (by have := HGL.out; omega) (by omega)).mono ?_; rintro en w9 ⟨rfl, hg9⟩; have HG9 := hid_intro (grown_trans ((Qt.refl w8).drew.grown none) hg9); have T3 := hid_intro (show w9.cell? ⟨X, 0, none⟩ = some (.pointer (some ⟨B, 0, none⟩)) ∧ w9.cell? ⟨P, 0, none⟩ = some (.int .i64 t.a) from ⟨HG9.out.cell c0 (by simp), HG9.out.cell t0 (by simp)⟩); clear hg9))
            all_goals
              clear T3
              go_wp2_with fail
              go_meet
              case rel => exact ⟨rfl, HG9.out⟩
          case rest =>
            obtain ⟨rfl, hg9⟩ := hcut
            have HS9 := hid_intro (HS8.out.keptN hg9)
            have HOG9 := hid_intro (HOG.out.keptN hg9)
            have HOU9 := hid_intro (HOU.out.keptN hg9)
            have HGN9 := hid_intro (HGN.out.keptN hg9)
            have hsz9 : W5.heap.size ≤ wc.heap.size := Nat.le_trans HG8.out.size hg9.size
            clear hg9 HS8 HOG HOU HGN c0 t0 gnt HG7 HG8 hsz
            have c0 := HS9.out.lv.c0
            have c5 := HS9.out.lv.c5
            have t0 : wc.cell? ⟨P, 0, none⟩ = some (.int .i64 t.a) := HS9.out.t 0
            by_cases h0 : t.a < 0
            · have hls : lsP p2 t.a g = -1 := by
                unfold lsP
                rw [if_pos (.inl h0)]
              rw [hls]
              go_wp2_with fail
              go_region_held3 (fun w' => w'.cell? ⟨X, 0, none⟩ = some (.pointer (some ⟨B, 0, none⟩)) ∧ w'.cell? ⟨P, 0, none⟩ = some (.int .i64 t.a) ∧ w'.cell? ⟨X, 5, none⟩ = some (.int .i64 (ver + 1))) (first | exact ⟨c0, t0, c5⟩ | exact T10.out | exact T11.out | go_keep)
                (first
                  | (go_at_call 21; refine (refInts_any go g.length gc g _ (HGN9.out.keptN ((Qt.refl wc).drew.grown none)) rfl (by have := HGL.out; omega)).mono ?_; rintro en w10 ⟨⟨v10, rfl, ho10⟩, hg10, hs10⟩; have HG10 := hid_intro (grown_trans ((Qt.refl wc).drew.grown none) hg10); have HO10 := hid_intro (Ow.of ho10); have T10 := hid_intro (show w10.cell? ⟨X, 0, none⟩ = some (.pointer (some ⟨B, 0, none⟩)) ∧ w10.cell? ⟨P, 0, none⟩ = some (.int .i64 t.a) ∧ w10.cell? ⟨X, 5, none⟩ = some (.int .i64 (ver + 1)) from ⟨HG10.out.cell c0 (by simp), HG10.out.cell t0 (by simp), HG10.out.cell c5 (by simp)⟩); clear ho10 hg10 hs10; obtain ⟨ga, gcp, eg10, gnt10, gc110, gc210, -, gb10⟩ := owns_ints HO10.out; subst eg10; have HN10 := hid_intro gnt10; have HB10 := hid_intro gb10; clear gnt10 gb10)
                  | (go_at_call 23; refine (commit_pool (HS9.out.pl.keptN HG10.out) HT2.out.ok t.a ga g.length gcp g (ver + 1) HN10.out rfl HWF.out (by have := HGL.out; omega) (by omega) hls).mono ?_; rintro en w11 ⟨rfl, hg11⟩; have HG11 := hid_intro (grown_trans HG10.out hg11); have T11 := hid_intro (show w11.cell? ⟨X, 0, none⟩ = some (.pointer (some ⟨B, 0, none⟩)) ∧ w11.cell? ⟨P, 0, none⟩ = some (.int .i64 t.a) ∧ w11.cell? ⟨X, 5, none⟩ = some (.int .i64 (ver + 1)) from ⟨HG11.out.cell c0 (by simp), HG11.out.cell t0 (by simp), HG11.out.cell c5 (by simp)⟩); clear hg11))
              all_goals
                have t011 := T11.out.2.1
                clear T10 T11
                have h0d : decide (t.a < 0) = true := by simp [h0]
                go_wp2_with (go_at_call 27; refine (num17_any _ _).mono ?_; rintro en w12 ⟨rfl, hw12⟩; rw [hw12]; clear hw12)
                go_ret
                exact ⟨rfl, P, p2, ls2, ⟨_, _, HS9.out.keptN HG11.out⟩, HT2.out, HL2.out, HK2.out⟩
            · have hls : 0 ≤ lsP p2 t.a g := by
                unfold lsP
                rw [if_neg (by rw [HMY.out]; simp; omega)]
                omega
              have hlr := lsP_range HT2.out.ok HT2.out.ris t.a g (by have := HGL.out; omega)
              have hwr : IntKind.i64.wrap (t.a + lsP p2 t.a g) = t.a + lsP p2 t.a g := by simp [IntKind.wrap, IntKind.signed, IntKind.bits]; omega
              have hls0 : ¬ lsP p2 t.a g < 0 := by omega
              by_cases hfull : rm p2 - lsP p2 t.a g < t.a
              · have hf2 : rm p2 < t.a + lsP p2 t.a g := by omega
                go_wp2_with fail
                go_region_held3 (fun w' => w'.cell? ⟨X, 0, none⟩ = some (.pointer (some ⟨B, 0, none⟩)) ∧ w'.cell? ⟨P, 0, none⟩ = some (.int .i64 t.a) ∧ w'.cell? ⟨X, 5, none⟩ = some (.int .i64 (ver + 1))) (first | exact ⟨c0, t0, c5⟩ | exact T10.out | exact T11.out | go_keep)
                  (first
                    | (go_at_call 21; refine (refInts_any go g.length gc g _ (HGN9.out.keptN ((Qt.refl wc).drew.grown none)) rfl (by have := HGL.out; omega)).mono ?_; rintro en w10 ⟨⟨v10, rfl, ho10⟩, hg10, hs10⟩; have HG10 := hid_intro (grown_trans ((Qt.refl wc).drew.grown none) hg10); have HO10 := hid_intro (Ow.of ho10); have T10 := hid_intro (show w10.cell? ⟨X, 0, none⟩ = some (.pointer (some ⟨B, 0, none⟩)) ∧ w10.cell? ⟨P, 0, none⟩ = some (.int .i64 t.a) ∧ w10.cell? ⟨X, 5, none⟩ = some (.int .i64 (ver + 1)) from ⟨HG10.out.cell c0 (by simp), HG10.out.cell t0 (by simp), HG10.out.cell c5 (by simp)⟩); clear ho10 hg10 hs10; obtain ⟨ga, gcp, eg10, gnt10, gc110, gc210, -, gb10⟩ := owns_ints HO10.out; subst eg10; have HN10 := hid_intro gnt10; have HB10 := hid_intro gb10; clear gnt10 gb10)
                    | (go_at_call 23; refine (commit_full (HS9.out.pl.keptN HG10.out) HT2.out.ok t.a ga g.length gcp g (ver + 1) HN10.out rfl HWF.out (by have := HGL.out; omega) (by omega) hls hfull).mono ?_; rintro en w11 ⟨rfl, hg11⟩; have HG11 := hid_intro (grown_trans HG10.out hg11); have T11 := hid_intro (show w11.cell? ⟨X, 0, none⟩ = some (.pointer (some ⟨B, 0, none⟩)) ∧ w11.cell? ⟨P, 0, none⟩ = some (.int .i64 t.a) ∧ w11.cell? ⟨X, 5, none⟩ = some (.int .i64 (ver + 1)) from ⟨HG11.out.cell c0 (by simp), HG11.out.cell t0 (by simp), HG11.out.cell c5 (by simp)⟩); clear hg11))
                all_goals
                  have t011 := T11.out.2.1
                  have c011 := T11.out.1
                  clear T10 T11
                  have HS11 := hid_intro (HS9.out.keptN HG11.out)
                  go_wp2_with (first
                    | (go_at_call 27; refine (num17_any _ _).mono ?_; rintro en w12 ⟨rfl, hw12⟩; rw [hw12]; clear hw12)
                    | (go_at_call 20; refine (count_any HS11.out.pl).mono ?_; rintro en w12 ⟨rfl, hw12⟩; rw [hw12]; clear hw12)
                    | (go_at_call 19; refine (room_any HS11.out.pl HT2.out.ok).mono ?_; rintro en w12 ⟨rfl, hg12⟩; have HG12 := hid_intro hg12; clear hg12))
                  go_ret
                  exact ⟨rfl, P, p2, ls2, ⟨_, _, HS11.out.keptN HG12.out⟩, HT2.out, HL2.out, HK2.out⟩
              · have hf2 : ¬ rm p2 < t.a + lsP p2 t.a g := by omega
                go_wp2_with fail
                go_region_held3 (fun w' => w'.cell? ⟨X, 0, none⟩ = some (.pointer (some ⟨B, 0, none⟩)) ∧ w'.cell? ⟨P, 0, none⟩ = some (.int .i64 t.a) ∧ w'.cell? ⟨X, 5, none⟩ = some (.int .i64 (ver + 1))) (first | exact ⟨c0, t0, c5⟩ | exact T10.out | exact T11.out | go_keep)
                  (first
                    | (go_at_call 21; refine (refInts_any go g.length gc g _ (HGN9.out.keptN ((Qt.refl wc).drew.grown none)) rfl (by have := HGL.out; omega)).mono ?_; rintro en w10 ⟨⟨v10, rfl, ho10⟩, hg10, hs10⟩; have HG10 := hid_intro (grown_trans ((Qt.refl wc).drew.grown none) hg10); have HO10 := hid_intro (Ow.of ho10); have T10 := hid_intro (show w10.cell? ⟨X, 0, none⟩ = some (.pointer (some ⟨B, 0, none⟩)) ∧ w10.cell? ⟨P, 0, none⟩ = some (.int .i64 t.a) ∧ w10.cell? ⟨X, 5, none⟩ = some (.int .i64 (ver + 1)) from ⟨HG10.out.cell c0 (by simp), HG10.out.cell t0 (by simp), HG10.out.cell c5 (by simp)⟩); clear ho10 hg10 hs10; obtain ⟨ga, gcp, eg10, gnt10, gc110, gc210, -, gb10⟩ := owns_ints HO10.out; subst eg10; have HN10 := hid_intro gnt10; have HB10 := hid_intro gb10; clear gnt10 gb10)
                    | (go_at_call 23; refine (commit_ok (HS9.out.pl.keptN HG10.out) HT2.out.ok t.a ga g.length gcp g (ver + 1) HN10.out (fun ad e h0 hb => by have h1 := HB10.out ad e; have h2 := HBK.out _ hb; have h3 : wc.drew.heap.size = wc.heap.size := rfl; omega) rfl HWF.out (by have := HGL.out; omega) (by omega) (by omega) hls (by omega) (by omega)).mono ?_; rintro en w11 ⟨u11, rfl, ho11, hp11, hf11⟩; have HS11 := hid_intro ((HS9.out.keptN HG10.out).pool hf11 hp11); have HF11 := hid_intro hf11; have HU11 := hid_intro (Ow.of ho11); have T11 := hid_intro (show w11.cell? ⟨X, 0, none⟩ = some (.pointer (some ⟨B, 0, none⟩)) ∧ w11.cell? ⟨P, 0, none⟩ = some (.int .i64 t.a) ∧ w11.cell? ⟨X, 5, none⟩ = some (.int .i64 (ver + 1)) from ⟨HS11.out.lv.c0, HS11.out.t 0, HS11.out.lv.c5⟩); clear ho11 hp11 hf11))
                all_goals
                  clear T10 T11
                  have t0b : w11.cell? ⟨P, 0, none⟩ = some (.int .i64 t.a) := HS11.out.t 0
                  have hN : ((cmN p2 t.a g : Nat) : Int) = t.a + lsP p2 t.a g := by unfold cmN; omega
                  have HW9 := hid_intro (HG10.out.size)
                  have HOG11 := hid_intro ((HOG9.out.keptN HG10.out).fr HF11.out (fun x hx hb => by have h1 := (HOG9.out.lt hx).1; have h2 := HBK.out _ hb; omega))
                  have HOU11 := hid_intro ((HOU9.out.keptN HG10.out).fr HF11.out (fun x hx hb => by have h1 := (HOU9.out.lt hx).1; have h2 := HBK.out _ hb; omega))
                  have HTR := hid_intro (HT2.out.tris (cmN p2 t.a g))
                  obtain ⟨uo, uc, eu, unt, uc1, uc2, -, ub1⟩ := owns_ints HU11.out
                  have HUB := hid_intro ub1
                  clear ub1
                  rw [tkn_len] at eu uc1
                  have HRZ : Hid (∀ V : World, V.heap = w11.heap → Calls Try.prog 16 #[.slice uo (cmN p2 t.a g) uc] V fun en w' => en = .returned (.bool true) ∧ Qt V w') := fun V e => by
                    have h1 := riseL_any uo (cmN p2 t.a g) uc (tkn p2 (cmN p2 t.a g)) V (unt.heap e) (tkn_len _ _) (by have := hlr; omega)
                    rw [(rz_iff _).2 HTR.out] at h1
                    exact h1
                  subst eu
                  have HUN := hid_intro unt
                  clear unt HOG9 HOU9 HG10 HO10 HN10 HB10 HS9
                  generalize hNN : cmN p2 t.a g = N at *
                  have hN' : t.a + lsP p2 t.a g = (N : Int) := hN.symm
                  have hNb : N ≤ 2003000 := by omega
                  have hNr : (N : Int) ≤ rm p2 := by omega
                  have hwN : IntKind.i64.wrap (N : Int) = (N : Int) := by simp [IntKind.wrap, IntKind.signed, IntKind.bits]; omega
                  clear hN hwr
                  obtain ⟨ub, hub⟩ : ∃ ub, ub = w10.heap.size := ⟨_, rfl⟩
                  obtain ⟨U, hUL⟩ : ∃ U, (us p2).length = U := ⟨_, rfl⟩
                  have HUL := hid_intro hUL
                  obtain ⟨vo, vc, ev, vnt, vc1, vc2, -, vb1⟩ := owns_ints HOU11.out
                  rw [hUL] at ev vc1
                  subst ev
                  have HVN := hid_intro vnt
                  have HUF0 : Hid (∀ ad, uo = some ad → 0 < (tkn p2 N).length → ¬ F3 ad.block) := fun ad e h0 hF => by
                    have h1 := HUB.out ad e
                    have h2 := HFL.out _ hF
                    have h3 := HW9.out
                    omega
                  have HVF0 : Hid (∀ ad, vo = some ad → 0 < (us p2).length → ¬ F3 ad.block) := fun ad e h0 hF => by
                    have h1 := vb1 ad e
                    have h2 := HFL.out _ hF
                    omega
                  clear vnt vb1 hUL hub
                  go_wp2_with (first
                    | (go_at_call 27; refine (num17_any _ _).mono ?_; rintro en w12 ⟨rfl, hw12⟩; rw [hw12]; clear hw12)
                    | (go_at_call 16; refine (HRZ.out w11 rfl).mono ?_; rintro en w12 ⟨rfl, hq12⟩; have HQ12 := hid_intro hq12; clear hq12))
                  have HS12 := hid_intro (HS11.out.keptN (HQ12.out.grown none))
                  have HUN12 := hid_intro (HUN.out.keptN (HQ12.out.grown none))
                  have HVN12 := hid_intro (HVN.out.keptN (HQ12.out.grown none))
                  have HOG12 := hid_intro (HOG11.out.keptN (HQ12.out.grown none))
                  have HUF := HUF0
                  have HVF := HVF0
                  clear HS11 HUN HVN HOG11 HRZ t0b HUF0 HVF0
                  go_loopw [13, 14] (fun si _ wr => ∃ (i : Nat) (ls' : Fin 4 → List Int), i ≤ N ∧ si = .int .i64 i ∧ Lp p2 ls2 (tkn p2 N) i ls' ∧ ∃ F' vs', St w F X B s q P t wr (cmP p2 t.a g (ver + 1)) ls' (ver + 1) F' vs' ∧ Fr w12 wr F3 ∧ (∀ x, F' x → F3 x ∨ w12.heap.size ≤ x)) (fun si _ _ => N - (zOf si).toNat)
                  case atStart => exact ⟨0, ls2, Nat.zero_le _, rfl, Lp.start HT2.out _, _, _, HS12.out, Fr.refl _ _, fun x hx => .inl hx⟩
                  case round =>
                    obtain ⟨i, ls', hi, rfl, hlp, F', vs', hst, hfr, hsub⟩ := hrel
                    have HLP := hid_intro hlp
                    have HST := hid_intro hst
                    have HFR := hid_intro hfr
                    have HSUB := hid_intro hsub
                    clear hlp hst hfr hsub
                    by_cases hlt : i < N
                    · have g1 : (i : Int) < (N : Int) := by omega
                      have g0 : (0 : Int) ≤ (i : Int) := by omega
                      obtain ⟨lb, loff, rfl, l13⟩ := (HFR.out.nt HUN12.out HUF.out).row i (by rw [tkn_len]; exact hlt)
                      have HNO : Hid ((tkn p2 N).getD i 0 = (tkn p2 N).getD i 0) := rfl
                      have HFRE := hid_intro (HLP.out.fresh HT2.out hlt)
                      obtain ⟨no, hno⟩ : ∃ no, (tkn p2 N).getD i 0 = no := ⟨_, rfl⟩
                      rw [hno] at l13 HFRE
                      clear HNO
                      have HNO := hid_intro hno
                      clear hno
                      have HM0 : Hid ((ls' 0).length ≤ 1000000) := hid_intro (Nat.le_trans (HLP.out.len0 HT2.out hNr) (by omega))
                      have HM1 : Hid ((ls' 1).length ≤ 1000000) := hid_intro (Nat.le_trans (HLP.out.len1 HT2.out) (by omega))
                      have HM2 : Hid (U ≤ 1000000) := by have := us_len p2; have := HLN.out; have := HUL.out; exact hid_intro (by omega)
                      by_cases hU : i < U
                      · have HPR : Hid (∃ j, j < (ls' 1).length ∧ (ls' 1).getD j 0 = no ∧ (∀ m, m < j → (ls' 1).getD m 0 ≠ no) ∧ pnd (ls' 3) ((ls' 2).getD j 0) = false ∧ Lp p2 ls2 (tkn p2 N) (i + 1) (tkF ls' j no)) := by rw [← HNO.out]; exact HLP.out.free HT2.out hlt (by rw [HUL.out]; exact hU)
                        obtain ⟨j, j1, j2, j3, j4, j5⟩ := HPR.out
                        have TK := hid_intro (taken_free HST.out.lv no p2.c j (ls' 1).length HFRE.out.1 HFRE.out.2 rfl HLP.out.len j1 j2 j3 j4 (by have := HM0.out; omega) (by have := HM1.out; omega))
                        have HL5 := hid_intro j5
                        clear HPR j1 j2 j3 j4 j5
                        go_wp2_with fail
                        refine TK.out.mono ?_
                        rintro en w14 ⟨rfl, vs5, hl5, hf5⟩
                        have HST5 := hid_intro (HST.out.life hl5 hf5)
                        have HFR5 := hid_intro (HFR.out.then hf5 (fun x hx hl => (HSUB.out x hx).elim id (fun e => by omega)))
                        have HSUB5 : Hid (∀ x, Nf F' wr w14 x → F3 x ∨ w12.heap.size ≤ x) := fun x hx => by
                          rcases hx with h1 | h1
                          · exact HSUB.out x h1
                          · exact .inr (by have := HFR.out.size; omega)
                        clear hl5 hf5 TK
                        have l14 := (HFR5.out.nt HUN12.out HUF.out).at i (by rw [tkn_len]; exact hlt)
                        rw [HNO.out] at l14
                        have hUd : decide ((i : Int) < (U : Int)) = true := by simp; omega
                        have hUe : decide (i < U) = true := by simp; omega
                        have hUe2 : decide (U ≤ i) = false := by simp; omega
                        have hUd2 : decide ((U : Int) ≤ (i : Int)) = false := by simp; omega
                        have hnn : (no != no) = false := by simp
                        have m14 := (HFR5.out.nt HVN12.out HVF.out).row i (by rw [HUL.out]; exact hU)
                        obtain ⟨vb, voff, rfl, m14⟩ := m14
                        rw [← tkG_lo hlt (by rw [HUL.out]; exact hU), HNO.out] at m14
                        have iu1 : (i : Int) < (U : Int) := by omega
                        go_wp2_with fail
                        go_quiet (fail)
                        go_wp2_with fail
                        go_roundw
                        case rel => exact ⟨i + 1, _, by omega, by go_num, HL5.out, _, _, HST5.out.keptN ((Qt.drewN _ _).grown none), HFR5.out.trans (Fr.ofN ((Qt.drewN _ _).grown none)), HSUB5.out⟩
                        case measure => simp [zOf]; omega
                      · have HPR : Hid (no ∉ ls' 1 ∧ p2.c ≤ no ∧ Lp p2 ls2 (tkn p2 N) (i + 1) (tkN ls' no)) := by rw [← HNO.out]; exact HLP.out.new HT2.out hlt (by rw [HUL.out]; omega)
                        have TK := hid_intro (taken_new HST.out.lv no p2.c (ls' 1).length HFRE.out.1 HFRE.out.2 rfl HPR.out.1 HPR.out.2.1 (by have := HM0.out; omega) (by have := HM1.out; omega))
                        have HL5 := hid_intro HPR.out.2.2
                        clear HPR
                        go_wp2_with fail
                        refine TK.out.mono ?_
                        rintro en w14 ⟨rfl, vs5, hl5, hf5⟩
                        have HST5 := hid_intro (HST.out.life hl5 hf5)
                        have HFR5 := hid_intro (HFR.out.then hf5 (fun x hx hl => (HSUB.out x hx).elim id (fun e => by omega)))
                        have HSUB5 : Hid (∀ x, Nf F' wr w14 x → F3 x ∨ w12.heap.size ≤ x) := fun x hx => by
                          rcases hx with h1 | h1
                          · exact HSUB.out x h1
                          · exact .inr (by have := HFR.out.size; omega)
                        clear hl5 hf5 TK
                        have l14 := (HFR5.out.nt HUN12.out HUF.out).at i (by rw [tkn_len]; exact hlt)
                        rw [HNO.out] at l14
                        have hUd : decide ((i : Int) < (U : Int)) = false := by simp; omega
                        have hUe : decide (i < U) = false := by simp; omega
                        have hUe2 : decide (U ≤ i) = true := by simp; omega
                        have hUd2 : decide ((U : Int) ≤ (i : Int)) = true := by simp; omega
                        have hnn : (no != p2.c + (i : Int) - (U : Int)) = false := by
                          have e := tkG_hi (p := p2) hlt (by rw [HUL.out]; omega)
                          rw [HNO.out, HUL.out] at e
                          simp; omega
                        have w1 : IntKind.i64.wrap (p2.c + (i : Int)) = p2.c + (i : Int) := by have := HT2.out.ok.c2; have := HT2.out.ok.ck; have := HT2.out.ok.k; simp [IntKind.wrap, IntKind.signed, IntKind.bits]; omega
                        have w2' : IntKind.i64.wrap (p2.c + (i : Int) - (U : Int)) = p2.c + (i : Int) - (U : Int) := by have := HT2.out.ok.c2; have := HT2.out.ok.ck; have := HT2.out.ok.k; have := HM2.out; simp [IntKind.wrap, IntKind.signed, IntKind.bits]; omega
                        go_wp2_with fail
                        go_quiet (fail)
                        go_wp2_with fail
                        go_roundw
                        case rel => exact ⟨i + 1, _, by omega, by go_num, HL5.out, _, _, HST5.out.keptN ((Qt.drewN _ _).grown none), HFR5.out.trans (Fr.ofN ((Qt.drewN _ _).grown none)), HSUB5.out⟩
                        case measure => simp [zOf]; omega
                    · have hin : i = N := by omega
                      rw [hin] at HLP
                      have hlt2 : ¬ (i : Int) < (N : Int) := by omega
                      clear hin hlt
                      obtain ⟨go', gc', eg', gnt', -, -, -, gb'⟩ := owns_ints HOG12.out
                      obtain ⟨rfl, rfl⟩ : go' = go ∧ gc' = gc := by injection eg' with a b c; exact ⟨a.symm, c.symm⟩
                      have HGF3 : Hid (∀ ad, go' = some ad → 0 < g.length → ¬ F3 ad.block) := fun ad e h0 hF => by
                        have h1 := gb' ad e
                        have h2 := HFL.out _ hF
                        omega
                      have HGF : Hid (∀ ad, go' = some ad → 0 < g.length → ¬ F' ad.block) := fun ad e h0 hF => by
                        obtain ⟨b, off, eb, hb⟩ := gnt'.where h0
                        rw [eb] at e
                        obtain rfl := Option.some.inj e
                        rcases HSUB.out _ hF with h1 | h1
                        · exact HGF3.out _ eb h0 h1
                        · simp only at h1
                          omega
                      have HGN := hid_intro (HFR.out.nt gnt' HGF3.out)
                      have HL0 := hid_intro (HLP.out.len0 HT2.out hNr)
                      have HL1 := hid_intro (HLP.out.len1 HT2.out)
                      have HL3 := hid_intro HLP.out.len
                      clear eg' gnt' gb' HGF3
                      go_upto_block 2 with fail
                      go_cut [15] from 218 to 261 (fun _ wx => TxE w F X B s q P t (cmP p2 t.a g (ver + 1)) (ver + 1) F' wr wx (gnL ls' g (ver + 1) g.length))
                      case first =>
                        rename_i J K' hJ hM
                        refine turnB2 rfl (by have := HGL.out; omega) (hid_intro HST.out) HGN HGF (by have := HL0.out; omega) (by have := HL1.out; omega) (by have := HL1.out; have := HL3.out; omega) ?_
                        intro _ _ _ _ _ _ _ _ _ _ _ _ _ _ _ _ _ _ _ _ _ _ _ _ _ _ _ _ _ _ _ _ _ _ _ _ _ _ _ _ _ _ _ _ _ wx hrl
                        refine hM _ _ ?_
                        go_meet
                        exact hrl
                      case rest =>
                        obtain ⟨F5, vs5, hs5⟩ := hcut
                        have HS5' := hid_intro hs5.st
                        clear hs5
                        have c0' := HS5'.out.lv.c0
                        have HEND : Hid (Lt (cmP p2 t.a g (ver + 1)) (gnL ls' g (ver + 1) g.length)) := HT2.out.commit (ver + 1) (by rw [hNN]; exact HLP.out) HMG.out HRG.out hls (by omega)
                        have hcc : (cmP p2 t.a g (ver + 1)).c = p2.c + ((N - U : Nat) : Int) := by
                          have e : (cmP p2 t.a g (ver + 1)).c = p2.c + ((cmN p2 t.a g - (us p2).length : Nat) : Int) := rfl
                          rw [e, hNN, HUL.out]
                        have H3L : Hid ((gnL ls' g (ver + 1) g.length 3).length ≤ (ls 3).length + 1) := by
                          show (ls' 3).length ≤ _
                          rw [HLP.out.p3]
                          exact HL2.out
                        have HMX := hid_intro hcc
                        obtain ⟨M, hM⟩ : ∃ M : Nat, M = N - U := ⟨_, rfl⟩
                        rw [← hM] at hcc
                        have HPC := hid_intro HT2.out.ok
                        have HM2 : Hid (U ≤ 1000000) := by have := us_len p2; have := HLN.out; have := HUL.out; exact hid_intro (by omega)
                        have wN : IntKind.i64.wrap ((N : Int) - (U : Int)) = (N : Int) - (U : Int) := by have := HM2.out; simp [IntKind.wrap, IntKind.signed, IntKind.bits]; omega
                        have wM : IntKind.i64.wrap (p2.c + (M : Int)) = p2.c + (M : Int) := by have := HPC.out.c2; have := HPC.out.ck; have := HPC.out.k; simp [IntKind.wrap, IntKind.signed, IntKind.bits]; omega
                        have HCN := hid_intro (count_any HS5'.out.pl)
                        rw [hcc] at HCN
                        have hMX : ∀ (ts : Array TypeId) (ty : TypeId) (W : World), (Builtin.max_ ts ty #[.int .i64 0, .int .i64 ((N : Int) - (U : Int))]).run Try.prog W = .ok (.int .i64 (M : Int)) W := fun ts ty W => by
                          have e : (if ((N : Int) - (U : Int)) > 0 then ((N : Int) - (U : Int)) else 0) = (M : Int) := by rw [hM]; split <;> omega
                          rw [run_max_int2, e]
                        clear hM hcc
                        go_wp2_with (go_at_call 20; refine HCN.out.mono ?_; rintro en w16 ⟨rfl, hw16⟩; rw [hw16]; clear hw16)
                        go_ret
                        exact ⟨rfl, P, _, _, ⟨_, _, HS5'.out⟩, HEND.out, H3L.out, HK2.out⟩
end Go.Proofs.Ytpoflmcmlnghhaa
