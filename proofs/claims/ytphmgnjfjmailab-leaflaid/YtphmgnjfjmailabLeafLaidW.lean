import Derived.Test.YtphmgnjfjmailabLeafLaid1
import Derived.Deep.CutBlock
namespace Go.Proofs.Ytphmgnjfjmailab
open Go.RowKit

set_option maxHeartbeats 8000000 in
set_option maxRecDepth 100000 in
theorem laid_walk (a : Option Addr) (n cap : Nat) (L : List It) (w : World) (hl : Il w a L) (hib : Ib L) (hn : L.length = n) (_hnc : n ≤ cap) (_hcm : cap ≤ 9223372036854775807) :
    Calls Try.prog 3 #[.slice a n cap] w fun en w' => en = .returned (.bool true) ∧ w.grownBy w' none := by
  have HL := hid_intro hl
  clear hl
  go_enter Try.func3, Try.ntmps3
  go_wp2_with fail
  refine (first4_any _).mono ?_
  rintro en w1 ⟨rfl, hg1⟩
  have G1 := hid_intro hg1
  clear hg1
  go_wp2_with fail
  refine (short_any a n cap L _ (HL.out.keptN G1.out) hn).mono ?_
  rintro en w2 ⟨rfl, hq2⟩
  have G2 := hid_intro (grown_trans G1.out (hq2.grown none))
  clear hq2 G1
  cases hsh : sh L with
  | false =>
    clear hsh
    go_wp2
    go_ret
    exact ⟨rfl, G2.out⟩
  | true =>
    have hsp := (sh_parts hsh).1
    have HKL : Hid (∀ x ∈ L, x.key.length ≤ 1000000) := fun x hx => by have := ((sh_parts hsh).2 x hx).1; omega
    clear hsh
    have HWR := hid_intro (refWrong_any a n cap L w2 (HL.out.keptN G2.out) hib hn (by omega))
    by_cases hw : wrong L = 0
    · rw [hw] at HWR
      go_wp2_with fail
      refine HWR.out.mono ?_
      rintro en wx ⟨rfl, hgx⟩
      have GX := hid_intro (grown_trans G2.out hgx)
      clear hgx HWR G2
      go_wp2_with fail
      refine (size_any a n cap L _ (HL.out.keptN GX.out) hn (by omega) HKL.out).mono ?_
      rintro en wy ⟨rfl, hgy⟩
      have GY := hid_intro (grown_trans GX.out hgy)
      clear hgy GX
      have HW := hid_intro hw
      by_cases hs : size L ≤ 4092
      · have HEN := hid_intro (encode_ok a n cap L wy (HL.out.keptN GY.out) hib hn (by omega) hw hs)
        have hbl := body_len hw hs
        have HBL := hid_intro hbl
        have HBT := hid_intro (body_bt hib)
        obtain ⟨hm1, hm2⟩ := many_le hw hs
        obtain ⟨hL0, hws, hwv, hup⟩ := wrong_parts hw
        have hLne : L ≠ [] := fun e => hL0 (by rw [e]; rfl)
        have hn0 : 0 < n := by omega
        have HPE := hid_intro (pre_ends hup hLne)
        have hhl := head_len hLne
        have HZ0 := hid_intro (laid_zero_at L)
        have HZN := hid_intro (laid_n L (by omega))
        have HZP := hid_intro (laid_pre L)
        have HZS := hid_intro (fun i hi => laid_slot L i hi)
        have HZC := hid_intro (fun i hi => laid_cell L i hi)
        have HZE := hid_intro (laid_end hw)
        have HCA := hid_intro (cst_all hw)
        have HCS := hid_intro (cst_le hw hs)
        have hcst : cst L = (headB L).length + 2 * n := by unfold cst; rw [hn]
        have HWS := hid_intro hws
        have HWV := hid_intro hwv
        have HHK : Hid ((L.headD it0) = L.getD 0 it0) := by
          cases L with
          | nil => exact absurd rfl hLne
          | cons x T => rfl
        have HPX : Hid (∀ x ∈ L, pre L ≤ x.key.length) := fun x hx => (pre_each x hx).1
        obtain ⟨sz, hsz⟩ : ∃ sz, size L = sz := ⟨_, rfl⟩
        rw [hsz] at hs HCA HZE ⊢
        have HSZ := hid_intro hsz
        clear hsz hw hbl hup hws hwv hL0
        go_wp2_with fail
        refine HEN.out.mono ?_
        rintro en w3 ⟨G, rfl, hr3, hg3, hG⟩
        have R3 := hid_intro hr3
        have G3 := hid_intro (grown_trans GY.out hg3)
        have HL3 := hid_intro (HL.out.keptN G3.out)
        clear hr3 hg3 hG HEN GY HKL
        go_wp2_with fail
        refine (num4_any _ _).mono ?_
        rintro en wz ⟨rfl, rfl⟩
        have b0 := R3.out.cell 0 (by rw [HBL.out]; omega)
        rw [HZ0.out] at b0
        go_wp2_with fail
        refine (u16_any G 4092 (body L) 1 _ R3.out HBL.out (by omega) (by omega) HBT.out).mono ?_
        rintro en w4 ⟨rfl, hq4⟩
        rw [HZN.out, hn]
        clear b0
        have HG4 := hid_intro (hq4.grown none)
        clear hq4
        obtain ⟨b, off, ao, n0, c0, bo, m0, d0, rfl, q2, q3, q4, q5, q6, q7, q8, q9, q10, q11⟩ := HL3.out.row 0 (by omega)
        obtain ⟨b', off', ao9, n9, c9, bo9, m9, d9, e9, r2, r3, r4, r5, r6, r7, r8, r9, r10, r11⟩ := HL3.out.row (n - 1) (by omega)
        simp only [Option.some.injEq, Addr.mk.injEq] at e9
        obtain ⟨rfl, rfl, _⟩ := e9
        rw [Nat.zero_mul, Nat.add_zero] at q2
        have k0 := HG4.out.cell q2 (by simp)
        have k9 := HG4.out.cell r2 (by simp)
        have hk0 := q6.len
        have hk9 := r6.len
        have HF := hid_intro q6
        have HH := hid_intro r6
        have HPC : Hid (pre L = com (L.getD 0 it0).key (L.getD (n - 1) it0).key) := by
          have := HPE.out
          rw [hn] at this
          exact this
        have hp0 := HPX.out _ (getD_mem (L := L) (i := 0) (by omega))
        have hx0 := (ws_parts (HWS.out _ (getD_mem (L := L) (i := 0) (by omega)))).1
        have hx05 := (ws_parts (HWS.out _ (getD_mem (L := L) (i := 0) (by omega)))).2.1
        have hx9 := (ws_parts (HWS.out _ (getD_mem (L := L) (i := n - 1) (by omega)))).1
        obtain ⟨b1, o1, rfl, _, s1⟩ := HF.out.at (by omega)
        obtain ⟨b2, o2, rfl, _, s2⟩ := HH.out.at (by omega)
        have P0 : Hid (∀ q, com (L.getD 0 it0).key (L.getD (n - 1) it0).key = q → ∀ W : World, Calls Try.prog 12 #[.slice none 0 0, .int .u64 ((q : Nat) : Int)] W fun e w' => e = .returned (.slice (some ⟨W.heap.size, 0, none⟩) (vform (pre L)).length (vform (pre L)).length) ∧ w'.ownsRow W.heap.size 5 1 (.slice (some ⟨W.heap.size, 0, none⟩) (vform (pre L)).length (vform (pre L)).length) (vform (pre L)).length ((vform (pre L)).map (Value.int .u8)) ∧ W.grownBy w' none) := by
          intro q e W
          rw [HPC.out, e]
          exact putV_own q W (by rw [HPC.out, e] at hp0; omega)
        obtain ⟨hd, hhd⟩ : ∃ hd, (vform (pre L)).length + pre L = hd := ⟨_, rfl⟩
        have HZP1 : Hid (∀ q, com (L.getD 0 it0).key (L.getD (n - 1) it0).key = q → ((body L).drop 3).take hd = vform (pre L) ++ (L.getD 0 it0).key.take q) := by
          intro q e
          rw [← e, ← HPC.out]
          have := HZP.out hd (by rw [HHK.out, List.length_append, List.length_take]; omega)
          rw [HHK.out] at this
          exact this
        have HHD : Hid (∀ q, com (L.getD 0 it0).key (L.getD (n - 1) it0).key = q → (vform (pre L)).length + q = hd) := by
          intro q e
          rw [← e, ← HPC.out]; exact hhd
        have HH0 : Hid ((headB L).length = 3 + hd) := by show _ = _; rw [hhl, ← hhd]; unfold vl; omega
        have hb4 : 3 + hd + 2 * n ≤ 4092 := by have := HCS.out 0; have := HH0.out; omega
        have hvq : (vform (pre L)).length ≤ 10 := vl_le _
        clear HZP hhd hhl
        generalize (vform (pre L)).length = lq at *
        generalize vform (pre L) = vq at *
        clear q2 q3 q4 q5 q6 q9 r2 r3 r4 r5 r6 r9 HPE
        generalize (L.getD (n - 1) it0).key = zh at *
        generalize (L.getD 0 it0).key = zl at *
        have gn : (n : Int) - 1 = ((n - 1 : Nat) : Int) := by omega
        obtain ⟨nm, hnm⟩ : ∃ nm, n - 1 = nm := ⟨_, rfl⟩
        rw [hnm] at gn k9
        have gn0 : (0 : Int) ≤ (nm : Int) := by omega
        have gn1 : (nm : Int) < (n : Int) := by omega
        have gn2 : (0 : Int) < (n : Int) := by omega
        clear hnm
        go_upto_block 0 with fail
        clear k0 k9
        go_cut [10] from 82 to 104 (fun s10 wx => s10 = .int .i64 ((com zl zh : Nat) : Int) ∧ wz.grownBy wx none)
        case first =>
          go_wp2_with fail
          go_loopw [10] (fun sk wk => ∃ q : Nat, q ≤ n0 ∧ q ≤ n9 ∧ sk = .int .i64 q ∧ com (zl.drop q) (zh.drop q) + q = com zl zh ∧ wz.grownBy wk none) (fun sk _ => n0 - (intOf sk).toNat)
          case atStart => exact ⟨0, Nat.zero_le _, Nat.zero_le _, rfl, rfl, HG4.out⟩
          case round =>
            obtain ⟨q, hq1, hq2, rfl, he, hqk⟩ := hrel
            have HE := hid_intro he
            have HQ := hid_intro hqk
            clear he hqk HG4
            by_cases h1 : q < n0 ∧ q < n9 ∧ zl.getD q 0 = zh.getD q 0
            · obtain ⟨h1, h2, huv⟩ := h1
              have c1 := HQ.out.cell (s1 q h1) (by simp)
              have c2 := HQ.out.cell (s2 q h2) (by simp)
              have E1 := hid_intro (com_on (a := zl) (b := zh) (by omega) (by omega) huv)
              have gg1 : decide ((q : Int) < (n0 : Int)) = true := by simp; omega
              have gg2 : decide ((q : Int) < (n9 : Int)) = true := by simp; omega
              have gg3 : (q : Int) < (n0 : Int) := by omega
              have gg4 : (q : Int) < (n9 : Int) := by omega
              have gg0 : (0 : Int) ≤ (q : Int) := by omega
              rw [← huv] at c2
              generalize zl.getD q 0 = u at *
              clear huv
              have hd : (u == u) = true := by simp
              go_wp2
              go_quiet (fail)
              go_wp2
              go_roundw
              case rel => exact ⟨q + 1, by omega, by omega, by go_num, by have := E1.out; have := HE.out; omega, grown_trans HQ.out ((Qt.drewN _ _).grown _)⟩
              case measure => simp [intOf]; omega
            · have hqp : com zl zh = q := by
                by_cases h2 : q < n0
                · by_cases h3 : q < n9
                  · have := com_off (a := zl) (b := zh) (i := q) (by omega) (by omega) (fun e => h1 ⟨h2, h3, e⟩)
                    have := HE.out
                    omega
                  · have := com_end (a := zl) (b := zh) (i := q) (by omega)
                    have := HE.out
                    omega
                · have := com_end (a := zl) (b := zh) (i := q) (by omega)
                  have := HE.out
                  omega
              have HQP := hid_intro hqp
              clear hqp HE
              have hq0 : q ≤ n0 := hq1
              by_cases h2 : q < n0
              · by_cases h3 : q < n9
                · have c1 := HQ.out.cell (s1 q h2) (by simp)
                  have c2 := HQ.out.cell (s2 q h3) (by simp)
                  have huv : ¬ zl.getD q 0 = zh.getD q 0 := fun e => h1 ⟨h2, h3, e⟩
                  have gg1 : decide ((q : Int) < (n0 : Int)) = true := by simp; omega
                  have gg2 : decide ((q : Int) < (n9 : Int)) = true := by simp; omega
                  have gg3 : (q : Int) < (n0 : Int) := by omega
                  have gg4 : (q : Int) < (n9 : Int) := by omega
                  have gg0 : (0 : Int) ≤ (q : Int) := by omega
                  clear h1
                  generalize zl.getD q 0 = u at *
                  generalize zh.getD q 0 = v at *
                  have hd0 : (u == v) = false := by simpa using huv
                  go_wp2
                  go_quiet (fail)
                  go_wp2_with fail
                  go_meet
                  case rel => exact ⟨by rw [HQP.out], grown_trans HQ.out ((Qt.drewN _ _).grown _)⟩
                · have gg1 : decide ((q : Int) < (n0 : Int)) = true := by simp; omega
                  have gg2 : decide ((q : Int) < (n9 : Int)) = false := by simp; omega
                  clear h1
                  go_wp2
                  go_quiet (fail)
                  go_wp2_with fail
                  go_meet
                  case rel => exact ⟨by rw [HQP.out], grown_trans HQ.out ((Qt.drewN _ _).grown _)⟩
              · have gg1 : decide ((q : Int) < (n0 : Int)) = false := by simp; omega
                clear h1
                go_wp2
                go_quiet (fail)
                go_wp2_with fail
                go_meet
                case rel => exact ⟨by rw [HQP.out], grown_trans HQ.out ((Qt.drewN _ _).grown _)⟩

        case rest =>
          obtain ⟨rfl, hgr⟩ := hcut
          have GQ := hid_intro hgr
          clear hgr HG4
          obtain ⟨q, hqq⟩ : ∃ q, com zl zh = q := ⟨_, rfl⟩
          have hq0 : q ≤ n0 := by have := com_le1 zl zh; omega
          rw [hqq]
          have HQP := hid_intro hqq
          clear hqq
          go_wp2_with fail
          refine (P0.out q HQP.out _).mono ?_
          rintro en w5 ⟨rfl, ho5, hg5⟩
          have O5 := hid_intro ho5
          have G5 := hid_intro hg5
          have S5 : wc.heap.size ≤ w5.heap.size := hg5.size
          have GZ5 := hid_intro (grown_trans GQ.out hg5)
          have B5 := hid_intro ((HF.out.keptN GZ5.out).take q c0 (by omega) (fun e => by cases e))
          clear ho5 hg5
          have f1 : (0 : Int) ≤ (q : Int) := by omega
          have f2 : (q : Int) ≤ (c0 : Int) := by omega
          go_wp2_with (at_builtin; refine wpList_append_byt rfl _ _ rfl wc.heap.size _ lq vq rfl O5.out _ q _ (zl.take q) rfl B5.out (by omega) S5 ?_)
          intro v6 w6 ho6 hg6
          have G6 := hid_intro (grown_own0 GZ5.out O5.out GQ.out.size hg6)
          have ho6' : w6.ownsRow wc.heap.size 5 1 v6 (lq + q) ((vq ++ zl.take q).map (Value.int .u8)) := by rw [List.map_append, List.map_take]; exact ho6
          obtain ⟨ca, cc, e6, hb6⟩ := owns_any ho6'
          subst e6
          have C6 := hid_intro hb6
          clear ho6 ho6' hg6 hb6 O5 G5 S5 GZ5 B5 GQ
          have R6 := hid_intro (R3.out.keptN G6.out)
          have P6 := hid_intro (R6.out.byt 3 hd 4089 (by rw [HBL.out]; omega))
          rw [HZP1.out q HQP.out] at P6
          have hlq : lq + q = hd := by have := HHD.out q HQP.out; omega
          rw [hlq] at C6 ⊢
          have f3 : (3 : Int) + (hd : Int) ≤ 4092 := by omega
          have f4 : (3 : Int) ≤ (3 : Int) + (hd : Int) := by omega
          go_wp2_with fail
          refine (same_yes _ _ _ _ _ _ _ _ _ P6.out C6.out rfl).mono ?_
          rintro en w7 ⟨rfl, rfl⟩
          have hpq : pre L = q := by rw [HPC.out]; exact HQP.out
          clear P6 C6 R6 P0 HZP1 HHD HF HH s1 s2 HPC
          have hbig : ¬ (4092 : Int) < 3 + (hd : Int) + 2 * (n : Int) := by omega
          go_wp2
          go_loopw [12, 13, 15, 16, 17] (fun sat _ si _ _ wr => ∃ i : Nat, i ≤ n ∧ si = .int .i64 i ∧ sat = .int .i64 ((cst L + (cells (pre L) (L.take i)).length : Nat) : Int) ∧ wz.grownBy wr none) (fun _ _ si _ _ _ => n - (intOf si).toNat)
          case atStart => exact ⟨0, Nat.zero_le _, rfl, by have := HH0.out; simp [cells, hcst, this] <;> omega, G6.out⟩
          case round =>
            rename_i wr
            obtain ⟨i, hi, rfl, rfl, hg⟩ := hrel
            have HG := hid_intro hg
            clear hg G6
            by_cases hlt : i < n
            · obtain ⟨b'', off'', ao', m, c', bo', m2, d2, e1, r2, r3, r4, r5, r6, r7, r8, r9, r10, r11⟩ := HL3.out.row i (by omega)
              simp only [Option.some.injEq, Addr.mk.injEq] at e1
              obtain ⟨rfl, rfl, _⟩ := e1
              have hx := getD_mem (L := L) (i := i) (by omega)
              have hws1 := HWS.out _ hx
              have hwv1 := HWV.out _ hx
              have hpx := HPX.out _ hx
              obtain ⟨y1, y2, y3, y4⟩ := ws_parts hws1
              have y5 := wv_parts hwv1
              have y6 := r6.len
              have y7 := r9.len
              have hm5 : m ≤ 255 := by omega
              have hm2 : m2 ≤ 512 := by
                rcases y5 with ⟨_, e9, _⟩ | ⟨_, e9, _⟩
                · rw [← y7, e9]; simp
                · omega
              have htt := tg_lt (L.getD i it0).size
              have hlgs := lg_of y3 y4
              obtain ⟨kb, ko, rfl, _, _⟩ := r6.at (by omega)
              have u0 := HG.out.cell r2 (by simp)
              have u1 := HG.out.cell r3 (by simp)
              have u2 := HG.out.cell r4 (by simp)
              have u3 := HG.out.cell r5 (by simp)
              have hA0 := HCS.out (i + 1)
              have hcsn := cells_snoc (pre L) L i (by omega)
              have HSL0 := HZS.out i (by omega) (by have := HCS.out i; omega)
              have HLD0 := HZC.out i (by omega)
              rw [hcsn, List.length_append] at hA0
              have HCN : Hid ((cells (pre L) (L.take (i + 1))).length = (cells (pre L) (L.take i)).length + (cb (pre L) (L.getD i it0)).length) := by show _ = _; rw [hcsn, List.length_append]
              rw [HH0.out] at HSL0
              rw [hpq] at hA0 HSL0 HLD0 HCN hpx
              have hclb := cb_len (p := q) hws1 hwv1
              have hclp := cl_pos q (L.getD i it0)
              have HKy := hid_intro r6
              have HVl := hid_intro r9
              obtain ⟨At, hAt⟩ : ∃ At, cst L + (cells q (L.take i)).length = At := ⟨_, rfl⟩
              rw [hAt] at HSL0 HLD0
              rw [← Nat.add_assoc, hAt] at hA0
              have HAA := hid_intro hAt
              rw [hpq, hAt]
              obtain ⟨sl, hsl⟩ : ∃ sl, 3 + hd + 2 * i = sl := ⟨_, rfl⟩
              rw [hsl] at HSL0
              have HSL := hid_intro HSL0
              have hslI : 3 + (hd : Int) + 2 * (i : Int) = (sl : Int) := by omega
              have hslb : sl + 2 ≤ 4092 := by omega
              clear r2 r3 r4 r5 r6 r9 hcsn HSL0 hsl hAt
              obtain ⟨LC, hLC⟩ : ∃ LC, (cb q (L.getD i it0)).length = LC := ⟨_, rfl⟩
              rw [hLC] at hA0 HLD0 HCN hclb
              have HLD := hid_intro HLD0
              clear HLD0
              generalize L.getD i it0 = x at *
              obtain ⟨k, hk⟩ : ∃ k : Nat, x.size = (k : Int) := ⟨x.size.toNat, by omega⟩
              obtain ⟨fs, hfs⟩ : ∃ fs, x.first = fs := ⟨_, rfl⟩
              obtain ⟨t, ht⟩ : ∃ t, tg x.size = t := ⟨_, rfl⟩
              obtain ⟨r, hr⟩ : ∃ r, m - q = r := ⟨_, rfl⟩
              have HT : Hid ((if 512 < k then 2 * k + 1 else 2 * k) = t) := by
                show _ = _
                rw [← ht]; unfold tg; rw [hlgs, hk]; rfl
              have HCB := hid_intro (cell_same (p := q) (r := r) (by rw [y6]; exact hr) hk hfs)
              rw [← hk, ht, hk] at HCB
              obtain ⟨l1, hl1⟩ : ∃ l1, (vform r).length = l1 := ⟨_, rfl⟩
              obtain ⟨l2, hl2⟩ : ∃ l2, (vform t).length = l2 := ⟨_, rfl⟩
              have HLC : Hid (LC = if 512 < k then l1 + r + l2 + 4 else l1 + r + l2 + m2) := by
                show _ = _
                rw [← hLC, HCB.out]
                by_cases h9 : 512 < k
                · rw [if_pos (by omega), if_pos h9]
                  simp only [List.length_append, List.length_drop, lb_len]; omega
                · rw [if_neg (by omega), if_neg h9]
                  simp only [List.length_append, List.length_drop]; omega
              have P1 := hid_intro (fun W : World => putV_own r W (by omega))
              rw [hl1] at P1
              have HC := hid_intro hl2
              have hv1 : (vform r).length ≤ 10 := vl_le r
              have hv2 : (vform t).length ≤ 10 := vl_le t
              have HTG := hid_intro ht
              rw [hk] at u2 y5 y4
              rw [hfs] at u3 y5
              rw [ht] at htt
              have hrI : (m : Int) - (q : Int) = (r : Int) := by omega
              have hr5 : r ≤ 255 := by omega
              have hl2b : l2 ≤ 10 := by have := HC.out; omega
              have hAL : At + LC ≤ 4092 := by omega
              have hLC2 : 2 ≤ LC := by omega
              have HLCd := hid_intro hLC
              clear hLC hk hfs ht hlgs hclb hx y3 hws1 hwv1 hl2 y7
              rw [hl1] at hv1
              clear hl1
              generalize vform r = A at *
              generalize hB : x.key.drop q = B at *
              have HB := hid_intro hB
              clear hB
              have ga := World.grownBy_alloc wr (.cells #[.slice (some ⟨kb, ko, none⟩) m c', .slice bo' m2 d2, .int .i64 (k : Int), .int .i64 fs] 33) none
              have XA := hid_intro (Bx.new wr (.slice (some ⟨kb, ko, none⟩) m c') (.slice bo' m2 d2) (.int .i64 (k : Int)) (.int .i64 fs))
              have GA := hid_intro (grown_trans HG.out ga)
              have KA0 := hid_intro (HKy.out.keptN GA.out)
              have VA := hid_intro (HVl.out.keptN GA.out)
              have RA := hid_intro (R3.out.keptN GA.out)
              have f8 : (q : Int) ≤ (m : Int) := by omega
              have f9 : (q : Int) ≤ (c' : Int) := by omega
              have f7 : (0 : Int) ≤ (q : Int) := by omega
              clear ga HG HKy HVl
              by_cases hcp : c' = q
              · subst hcp
                have KA : Hid (Byt (wr.alloc (.cells #[.slice (some ⟨kb, ko, none⟩) m c', .slice bo' m2 d2, .int .i64 (k : Int), .int .i64 fs] 33)) (some ⟨kb, ko, none⟩) r 0 B) := by
                  obtain rfl : r = 0 := by omega
                  have e : B = [] := by rw [← HB.out]; exact List.drop_eq_nil_of_le (by omega)
                  rw [e]
                  exact Byt.none _ _ _ _
                clear KA0
                go_wp2_with fail
                generalize wr.alloc (.cells #[.slice (some ⟨kb, ko, none⟩) m c', .slice bo' m2 d2, .int .i64 (k : Int), .int .i64 fs] 33) = wa at *
                generalize wr.heap.size = T at *
                refine (P1.out _).mono ?_
                rintro en w5 ⟨rfl, ho5, hg5⟩
                have O5 := hid_intro ho5
                have G5 := hid_intro hg5
                have S5 : wa.heap.size ≤ w5.heap.size := hg5.size
                clear ho5 hg5
                obtain ⟨x0, x1, x2, x3⟩ := (Bx.kept XA.out G5.out (by simp)).cells
                have K5 := hid_intro (KA.out.keptN G5.out)
                go_wp2_with (at_builtin; refine wpList_append_byt rfl _ _ rfl wa.heap.size _ l1 A rfl O5.out _ r _ B rfl K5.out (by omega) S5 ?_)
                intro v6 w6 ho6 hg6
                have G6 := hid_intro (grown_own0 G5.out O5.out (Nat.le_refl _) hg6)
                rw [← List.map_append] at ho6
                obtain ⟨ca, cc, e6, hb6⟩ := owns_any ho6
                subst e6
                have C6 := hid_intro hb6
                clear ho6 hg6 hb6 O5 G5 S5 K5 x0 x1 x2 x3
                obtain ⟨x0, x1, x2, x3⟩ := (Bx.kept XA.out G6.out (by simp)).cells
                go_upto_if 156 with fail
                go_cut [17] from 156 to 178 (fun s17 wx => ∃ ca8 cc8, s17 = .slice ca8 LC cc8 ∧ Byt wx ca8 LC cc8 (cb c' x) ∧ wa.grownBy wx none)
                case first =>
                  by_cases h5 : 512 < k
                  · have hd5 : (512 : Int) < (k : Int) := by omega
                    have htk : 2 * (k : Int) + 1 = (t : Int) := by have := HT.out; rw [if_pos h5] at this; omega
                    obtain ⟨fn, hfn⟩ : ∃ fn : Nat, fs = (fn : Int) := ⟨fs.toNat, by omega⟩
                    subst hfn
                    go_wp2_with fail
                    refine (putV_any ca (l1 + r) cc (A ++ B) t _ C6.out (by omega) (by omega)).mono ?_
                    rintro en w7 ⟨rfl, ho7, hg7, _⟩
                    have C7 := hid_intro (Byt.of_owns ho7)
                    have G7 := hid_intro (grown_trans G6.out hg7)
                    clear ho7 hg7 C6 G6 x0 x1 x2 x3
                    obtain ⟨x0, x1, x2, x3⟩ := (Bx.kept XA.out G7.out (by simp)).cells
                    rw [HC.out] at C7 ⊢
                    go_wp2_with fail
                    refine (put_u32 _ (l1 + r + l2) _ _ fn _ C7.out (by omega) (by omega)).mono ?_
                    rintro en w8 ⟨rfl, ho8, hg8, _⟩
                    have C8 : Hid (Byt w8 (some ⟨w7.heap.size, 0, none⟩) LC LC (cb c' x)) := by
                      have := Byt.of_owns ho8
                      have e9 : LC = l1 + r + l2 + 4 := by have := HLC.out; rw [if_pos h5] at this; exact this
                      rw [e9, HCB.out, if_pos (by omega), Int.toNat_natCast, ← List.append_assoc]
                      exact this
                    have e9 : l1 + r + l2 + 4 = LC := by have := HLC.out; rw [if_pos h5] at this; exact this.symm
                    rw [e9]
                    clear e9
                    have G8 := hid_intro (grown_trans G7.out hg8)
                    clear ho8 hg8 C7 G7 x0 x1 x2 x3
                    go_wp2_with fail
                    go_meet
                    case rel => exact ⟨_, _, rfl, C8.out, G8.out⟩
                  · have hd5 : ¬ (512 : Int) < (k : Int) := by omega
                    have htk : 2 * (k : Int) = (t : Int) := by have := HT.out; rw [if_neg h5] at this; omega
                    go_wp2_with fail
                    refine (putV_any ca (l1 + r) cc (A ++ B) t _ C6.out (by omega) (by omega)).mono ?_
                    rintro en w7 ⟨rfl, ho7, hg7, _⟩
                    rw [HC.out] at ho7 ⊢
                    have O7 := hid_intro ho7
                    have S6 : w6.heap.size ≤ w7.heap.size := hg7.size
                    have S6' : wa.heap.size ≤ w6.heap.size := G6.out.size
                    have G7 := hid_intro (grown_trans G6.out hg7)
                    clear ho7 hg7 C6 G6 x0 x1 x2 x3
                    obtain ⟨x0, x1, x2, x3⟩ := (Bx.kept XA.out G7.out (by simp)).cells
                    have V7 := hid_intro (VA.out.keptN G7.out)
                    go_wp2_with (at_builtin; refine wpList_append_byt rfl _ _ rfl w6.heap.size _ (l1 + r + l2) (A ++ B ++ vform t) rfl O7.out _ m2 _ x.val rfl V7.out (by omega) S6 ?_)
                    intro v8 w8 ho8 hg8
                    have G8 := hid_intro (grown_own0 G7.out O7.out S6' hg8)
                    have e9 : l1 + r + l2 + m2 = LC := by have := HLC.out; rw [if_neg h5] at this; exact this.symm
                    rw [e9] at ho8
                    have ho8' : w8.ownsRow w6.heap.size 5 1 v8 LC ((A ++ B ++ vform t ++ x.val).map (Value.int .u8)) := by simpa [List.map_append, List.append_assoc] using ho8
                    obtain ⟨ca8, cc8, e8, hb8⟩ := owns_any ho8'
                    subst e8
                    have C8 : Hid (Byt w8 ca8 LC cc8 (cb c' x)) := by
                      rw [HCB.out, if_neg (by omega), ← List.append_assoc]
                      exact hb8
                    clear ho8 ho8' hg8 hb8 O7 S6 S6' G7 V7 x0 x1 x2 x3 e9
                    go_wp2_with fail
                    go_meet
                    case rel => exact ⟨_, _, rfl, C8.out, G8.out⟩
                case rest =>
                  obtain ⟨ca8, cc8, rfl, hb8, hg8⟩ := hcut
                  have C8 := hid_intro hb8
                  have G8 := hid_intro hg8
                  clear hb8 hg8 C6 G6 x0 x1 x2 x3
                  have R8 := hid_intro (RA.out.keptN G8.out)
                  go_wp2_with fail
                  refine (u16_any G 4092 (body L) sl _ R8.out HBL.out (by omega) (by omega) HBT.out).mono ?_
                  rintro en w9 ⟨rfl, hq9⟩
                  rw [HSL.out]
                  have G9 := hid_intro (grown_trans G8.out (hq9.grown none))
                  have C9 := hid_intro (C8.out.heap hq9.heap)
                  have R9 := hid_intro (RA.out.keptN G9.out)
                  have P9 := hid_intro (R9.out.byt At LC (4092 - At) (by rw [HBL.out]; omega))
                  rw [HLD.out] at P9
                  clear hq9 G8 C8 R8
                  have g1 : (0 : Int) ≤ (At : Int) := by omega
                  have g2 : (At : Int) ≤ (At : Int) + (LC : Int) := by omega
                  have g3 : (At : Int) + (LC : Int) ≤ 4092 := by omega
                  have g4 : ¬ 4092 < (At : Int) + (LC : Int) := by omega
                  have g5 : ¬ 4092 = At := by omega
                  go_wp2_with fail
                  refine (same_yes _ _ _ _ _ _ _ _ _ P9.out C9.out rfl).mono ?_
                  rintro en w10 ⟨rfl, rfl⟩
                  have G10 := hid_intro (grown_trans GA.out G9.out)
                  go_wp2
                  go_roundw
                  case rel => exact ⟨i + 1, by omega, by go_num, by rw [HCN.out, ← Nat.add_assoc, HAA.out]; go_num, G10.out⟩
                  case measure => simp [intOf]; omega
              · have KA : Hid (Byt (wr.alloc (.cells #[.slice (some ⟨kb, ko, none⟩) m c', .slice bo' m2 d2, .int .i64 (k : Int), .int .i64 fs] 33)) (some ⟨kb, ko + q, none⟩) r (c' - q) B) := by
                  have := KA0.out.drop q (c' - q) (by omega)
                  rwa [hr, HB.out] at this
                clear KA0
                go_wp2_with fail
                generalize wr.alloc (.cells #[.slice (some ⟨kb, ko, none⟩) m c', .slice bo' m2 d2, .int .i64 (k : Int), .int .i64 fs] 33) = wa at *
                generalize wr.heap.size = T at *
                refine (P1.out _).mono ?_
                rintro en w5 ⟨rfl, ho5, hg5⟩
                have O5 := hid_intro ho5
                have G5 := hid_intro hg5
                have S5 : wa.heap.size ≤ w5.heap.size := hg5.size
                clear ho5 hg5
                obtain ⟨x0, x1, x2, x3⟩ := (Bx.kept XA.out G5.out (by simp)).cells
                have K5 := hid_intro (KA.out.keptN G5.out)
                go_wp2_with (at_builtin; refine wpList_append_byt rfl _ _ rfl wa.heap.size _ l1 A rfl O5.out _ r _ B rfl K5.out (by omega) S5 ?_)
                intro v6 w6 ho6 hg6
                have G6 := hid_intro (grown_own0 G5.out O5.out (Nat.le_refl _) hg6)
                rw [← List.map_append] at ho6
                obtain ⟨ca, cc, e6, hb6⟩ := owns_any ho6
                subst e6
                have C6 := hid_intro hb6
                clear ho6 hg6 hb6 O5 G5 S5 K5 x0 x1 x2 x3
                obtain ⟨x0, x1, x2, x3⟩ := (Bx.kept XA.out G6.out (by simp)).cells
                go_upto_if 156 with fail
                go_cut [17] from 156 to 178 (fun s17 wx => ∃ ca8 cc8, s17 = .slice ca8 LC cc8 ∧ Byt wx ca8 LC cc8 (cb q x) ∧ wa.grownBy wx none)
                case first =>
                  by_cases h5 : 512 < k
                  · have hd5 : (512 : Int) < (k : Int) := by omega
                    have htk : 2 * (k : Int) + 1 = (t : Int) := by have := HT.out; rw [if_pos h5] at this; omega
                    obtain ⟨fn, hfn⟩ : ∃ fn : Nat, fs = (fn : Int) := ⟨fs.toNat, by omega⟩
                    subst hfn
                    go_wp2_with fail
                    refine (putV_any ca (l1 + r) cc (A ++ B) t _ C6.out (by omega) (by omega)).mono ?_
                    rintro en w7 ⟨rfl, ho7, hg7, _⟩
                    have C7 := hid_intro (Byt.of_owns ho7)
                    have G7 := hid_intro (grown_trans G6.out hg7)
                    clear ho7 hg7 C6 G6 x0 x1 x2 x3
                    obtain ⟨x0, x1, x2, x3⟩ := (Bx.kept XA.out G7.out (by simp)).cells
                    rw [HC.out] at C7 ⊢
                    go_wp2_with fail
                    refine (put_u32 _ (l1 + r + l2) _ _ fn _ C7.out (by omega) (by omega)).mono ?_
                    rintro en w8 ⟨rfl, ho8, hg8, _⟩
                    have C8 : Hid (Byt w8 (some ⟨w7.heap.size, 0, none⟩) LC LC (cb q x)) := by
                      have := Byt.of_owns ho8
                      have e9 : LC = l1 + r + l2 + 4 := by have := HLC.out; rw [if_pos h5] at this; exact this
                      rw [e9, HCB.out, if_pos (by omega), Int.toNat_natCast, ← List.append_assoc]
                      exact this
                    have e9 : l1 + r + l2 + 4 = LC := by have := HLC.out; rw [if_pos h5] at this; exact this.symm
                    rw [e9]
                    clear e9
                    have G8 := hid_intro (grown_trans G7.out hg8)
                    clear ho8 hg8 C7 G7 x0 x1 x2 x3
                    go_wp2_with fail
                    go_meet
                    case rel => exact ⟨_, _, rfl, C8.out, G8.out⟩
                  · have hd5 : ¬ (512 : Int) < (k : Int) := by omega
                    have htk : 2 * (k : Int) = (t : Int) := by have := HT.out; rw [if_neg h5] at this; omega
                    go_wp2_with fail
                    refine (putV_any ca (l1 + r) cc (A ++ B) t _ C6.out (by omega) (by omega)).mono ?_
                    rintro en w7 ⟨rfl, ho7, hg7, _⟩
                    rw [HC.out] at ho7 ⊢
                    have O7 := hid_intro ho7
                    have S6 : w6.heap.size ≤ w7.heap.size := hg7.size
                    have S6' : wa.heap.size ≤ w6.heap.size := G6.out.size
                    have G7 := hid_intro (grown_trans G6.out hg7)
                    clear ho7 hg7 C6 G6 x0 x1 x2 x3
                    obtain ⟨x0, x1, x2, x3⟩ := (Bx.kept XA.out G7.out (by simp)).cells
                    have V7 := hid_intro (VA.out.keptN G7.out)
                    go_wp2_with (at_builtin; refine wpList_append_byt rfl _ _ rfl w6.heap.size _ (l1 + r + l2) (A ++ B ++ vform t) rfl O7.out _ m2 _ x.val rfl V7.out (by omega) S6 ?_)
                    intro v8 w8 ho8 hg8
                    have G8 := hid_intro (grown_own0 G7.out O7.out S6' hg8)
                    have e9 : l1 + r + l2 + m2 = LC := by have := HLC.out; rw [if_neg h5] at this; exact this.symm
                    rw [e9] at ho8
                    have ho8' : w8.ownsRow w6.heap.size 5 1 v8 LC ((A ++ B ++ vform t ++ x.val).map (Value.int .u8)) := by simpa [List.map_append, List.append_assoc] using ho8
                    obtain ⟨ca8, cc8, e8, hb8⟩ := owns_any ho8'
                    subst e8
                    have C8 : Hid (Byt w8 ca8 LC cc8 (cb q x)) := by
                      rw [HCB.out, if_neg (by omega), ← List.append_assoc]
                      exact hb8
                    clear ho8 ho8' hg8 hb8 O7 S6 S6' G7 V7 x0 x1 x2 x3 e9
                    go_wp2_with fail
                    go_meet
                    case rel => exact ⟨_, _, rfl, C8.out, G8.out⟩
                case rest =>
                  obtain ⟨ca8, cc8, rfl, hb8, hg8⟩ := hcut
                  have C8 := hid_intro hb8
                  have G8 := hid_intro hg8
                  clear hb8 hg8 C6 G6 x0 x1 x2 x3
                  have R8 := hid_intro (RA.out.keptN G8.out)
                  go_wp2_with fail
                  refine (u16_any G 4092 (body L) sl _ R8.out HBL.out (by omega) (by omega) HBT.out).mono ?_
                  rintro en w9 ⟨rfl, hq9⟩
                  rw [HSL.out]
                  have G9 := hid_intro (grown_trans G8.out (hq9.grown none))
                  have C9 := hid_intro (C8.out.heap hq9.heap)
                  have R9 := hid_intro (RA.out.keptN G9.out)
                  have P9 := hid_intro (R9.out.byt At LC (4092 - At) (by rw [HBL.out]; omega))
                  rw [HLD.out] at P9
                  clear hq9 G8 C8 R8
                  have g1 : (0 : Int) ≤ (At : Int) := by omega
                  have g2 : (At : Int) ≤ (At : Int) + (LC : Int) := by omega
                  have g3 : (At : Int) + (LC : Int) ≤ 4092 := by omega
                  have g4 : ¬ 4092 < (At : Int) + (LC : Int) := by omega
                  have g5 : ¬ 4092 = At := by omega
                  go_wp2_with fail
                  refine (same_yes _ _ _ _ _ _ _ _ _ P9.out C9.out rfl).mono ?_
                  rintro en w10 ⟨rfl, rfl⟩
                  have G10 := hid_intro (grown_trans GA.out G9.out)
                  go_wp2
                  go_roundw
                  case rel => exact ⟨i + 1, by omega, by go_num, by rw [HCN.out, ← Nat.add_assoc, HAA.out]; go_num, G10.out⟩
                  case measure => simp [intOf]; omega
            · have hin : n = i := by omega
              subst hin
              have HCE : Hid (cst L + (cells (pre L) (L.take n)).length = sz) := by
                show _ = _
                rw [← hn, List.take_length]; exact HCA.out
              rw [HCE.out]
              clear HCE
              obtain ⟨mz, hmz⟩ : ∃ mz, 4092 - sz = mz := ⟨_, rfl⟩
              have hmzI : 4092 - (sz : Int) = (mz : Int) := by omega
              have hmzw : IntKind.i64.wrap (mz : Int) = (mz : Int) := by simp [IntKind.wrap, IntKind.bits, IntKind.signed]; omega
              have hmz0 : IntKind.i64.wrap 0 = 0 := by decide
              obtain ⟨ZZ, hmk, hzz⟩ := make_zero mz (by omega)
              have HUL : Hid ((used L).length = sz) := by show _ = _; rw [used_len HW.out]; exact HSZ.out
              have RE : Hid (Rw wr G (used L ++ List.replicate mz 0)) := by
                have h9 := R3.out.keptN HG.out
                have e9 : body L = used L ++ List.replicate mz 0 := by unfold body; rw [HUL.out, hmz]
                rw [e9] at h9
                exact h9
              have GZ := hid_intro (World.grownBy_alloc wr (.cells ZZ 5) none)
              have f5 : (sz : Int) ≤ 4092 := by omega
              have f6 : (0 : Int) ≤ (sz : Int) := by omega
              have HGW := hid_intro (grown_trans G3.out HG.out)
              by_cases h92 : 4092 = sz
              · obtain rfl : mz = 0 := by omega
                have HXW : Hid (∀ W : World, W.heap = (wr.alloc (.cells ZZ 5)).heap → Byt W (some ⟨G, 0, none⟩) 0 0 (List.replicate 0 0) ∧ Byt W (some ⟨wr.heap.size, 0, none⟩) 0 0 (List.replicate 0 0)) :=
                  fun W hW => ⟨Byt.none _ _ _ _, (zero_both wr W G sz 0 _ ZZ RE.out HUL.out hzz hW).2⟩
                subst h92
                have hmk0 : ∀ W : World, (Instr.makeSlice 26 (.int .i64 0) (.int .i64 0)).run Try.prog W = .ok (.slice (some ⟨W.heap.size, 0, none⟩) 0 0) (W.alloc (.cells ZZ 5)) := hmk
                clear hzz RE HG hmk
                go_wp2_with fail
                go_region_with (go_at_call 13; refine (same_yes _ _ 0 0 0 0 (List.replicate 0 0) (List.replicate 0 0) _ (HXW.out _ (by rfl)).1 (HXW.out _ (by rfl)).2 rfl).mono ?_; rintro en w12 ⟨rfl, hw12⟩; have HW12 := hid_intro hw12; clear hw12)
                all_goals
                  have hg12 : wr.grownBy w12 none := by rw [HW12.out]; exact grown_trans GZ.out ((Qt.refl _).drew.grown none)
                  have G12 := hid_intro (grown_trans HGW.out hg12)
                  clear hg12 HW12
                  go_wp2
                  go_ret
                  exact ⟨rfl, G12.out⟩
              · have HXW : Hid (∀ W : World, W.heap = (wr.alloc (.cells ZZ 5)).heap → Byt W (some ⟨G, sz, none⟩) mz mz (List.replicate mz 0) ∧ Byt W (some ⟨wr.heap.size, 0, none⟩) mz mz (List.replicate mz 0)) :=
                  fun W hW => zero_both wr W G sz mz _ ZZ RE.out HUL.out hzz hW
                clear hzz RE HG
                go_wp2_with fail
                go_region_with (go_at_call 13; refine (same_yes _ _ mz mz mz mz (List.replicate mz 0) (List.replicate mz 0) _ (HXW.out _ (by rfl)).1 (HXW.out _ (by rfl)).2 rfl).mono ?_; rintro en w12 ⟨rfl, hw12⟩; have HW12 := hid_intro hw12; clear hw12)
                all_goals
                  have hg12 : wr.grownBy w12 none := by rw [HW12.out]; exact grown_trans GZ.out ((Qt.refl _).drew.grown none)
                  have G12 := hid_intro (grown_trans HGW.out hg12)
                  clear hg12 HW12
                  go_wp2
                  go_ret
                  exact ⟨rfl, G12.out⟩
      · have HEN := hid_intro (encode_big a n cap L wy (HL.out.keptN GY.out) hib hn (by omega) hw (by omega))
        generalize size L = sz at *
        go_wp2_with fail
        refine HEN.out.mono ?_
        rintro en w3 ⟨rfl, hg3⟩
        have G3 := hid_intro (grown_trans GY.out hg3)
        clear hg3 HEN
        go_wp2_with fail
        refine (num4_any _ _).mono ?_
        rintro en wz ⟨rfl, rfl⟩
        go_wp2
        go_ret
        exact ⟨rfl, G3.out⟩
    · generalize wrong L = e at *
      go_wp2_with fail
      refine HWR.out.mono ?_
      rintro en wx ⟨rfl, hgx⟩
      have GX := hid_intro (grown_trans G2.out hgx)
      clear hgx HWR G2
      go_wp2
      go_ret
      exact ⟨rfl, GX.out⟩
end Go.Proofs.Ytphmgnjfjmailab
