import Derived.Test.YtdoclmmghdaaaaaGreatDoorSrV
import Derived.Test.YtdoclmmghdaaaaaGreatDoorSrX
namespace Go.Proofs.YtdoclmmghdaaaaaGreatDoor
open Go.RowKit

set_option maxHeartbeats 64000000 in
set_option maxRecDepth 100000 in
theorem scriptNoise_walk (T : List UInt8) (l : List (Int × Int)) (ao : Option Addr) (len cap : Nat) (w : World) (hL : Lv w) (hN : FtR w ao l) (hlen : l.length = len) : Calls Tryz.prog 5 #[.string (tstr T), .slice ao len cap] w fun en w' => en = .returned (.bool true) ∧ w.grownBy w' none := by
  obtain ⟨i0, hi0, hz0, hz1, hz2⟩ := info_parts info_u8
  obtain ⟨j0, hj0, jz0, jz1, jz2⟩ := info_parts info_intX
  have HL : Hid (Lv w) := hL
  have HF := hid_intro (first23_any w hL)
  have hT := tstr_size T
  clear hL
  by_cases h1 : T.length ≤ 60000
  · by_cases h2 : len ≤ 60
    · have t1 : ¬ (60000 : Int) < ((tstr T).size : Int) := by omega
      have t2 : ¬ (60 : Int) < (len : Int) := by omega
      have t3 : ¬ 60 < len := by omega
      have HLE := hid_intro hlen
      have HP := hid_intro (fun W hW => parse_any T W hW (by omega))
      have HPP := hid_intro (fun (x : List UInt8) (W : World) (hW : Lv W) (hx : x.length ≤ 140737488355328) => parse_any x W hW hx)
      have HLN := hid_intro (fun W => lines_any T W h1)
      have HNO := hid_intro (psc_noise l T h1 (by omega))
      have HFT := hid_intro (fun (n : Int) (lq : List Opq) (h : psc T = .ok (n, lq)) => psc_fit h)
      have HFL : Hid ((flt23 (lns T)).length ≤ 60001) := by have := flt_len T; show _ ≤ _; omega
      have hcnt := flt_cntX (lns T)
      have hM1 := HFL.out
      clear hT h1 hlen
      generalize tstr T = sT at *
      go_enter Tryz.func5, Tryz.ntmps5
      go_wp2_with fail
      refine HF.out.mono ?_
      rintro en w1 ⟨rfl, hg1⟩
      have G1 := hid_intro hg1
      clear hg1
      go_wp2_with fail
      refine (HLN.out _).mono ?_
      rintro en w5 ⟨la, lc, rfl, ho5, hg5⟩
      have HO5 := hid_intro ho5
      have G5 := hid_intro (grown_trans G1.out hg5)
      have L5 := hid_intro (HL.out.keptN G5.out)
      have HN5 := hid_intro (hN.keptN G5.out)
      have HWS : Hid (∀ i ln, (lns T)[i]? = some ln → ∃ g, la = some ⟨g, 0, none⟩ ∧ w5.cell? ⟨g, i, none⟩ = some (.string (tstr ln))) := by
        intro i ln hi
        have hne : lns T ≠ [] := fun e => by rw [e] at hi; simp at hi
        obtain ⟨gw, ea, hwl, _, _⟩ := wsl_own HO5.out hne
        have := hwl i ln hi
        rw [Nat.zero_add] at this
        exact ⟨gw, ea, this⟩
      clear ho5 hg5 G1 HF HLN hN HO5 HL
      generalize lns T = L at *
      obtain ⟨M, hM⟩ : ∃ M, L.length = M := ⟨_, rfl⟩
      have HML := hid_intro hM
      rw [hM] at hcnt HNO ⊢
      have hMz : (M : Int) ≤ 60001 := by omega
      clear hM
      go_wp2
      go_loopw [7, 8, 9, 10, 11, 12] (fun sb sa sn si _ _ wr => ∃ (i : Nat), i ≤ M ∧ si = .int .i64 (i : Nat) ∧ sn = .int .i64 ((i + cP l i : Nat) : Int) ∧ Nrw w5 wr sb sa (ntx l L i) (atl l i)) (fun _ _ _ si _ _ _ => M - (intOf si).toNat)
      case atStart => exact ⟨0, Nat.zero_le _, rfl, by rw [cP_zero]; rfl, Nrw.start _⟩
      case round =>
        obtain ⟨i, hi, rfl, rfl, hrw⟩ := hrel
        have HR := hid_intro hrw
        obtain ⟨ba, bc, hsb⟩ := own_shape20 hrw.b
        obtain ⟨aa, ac, hsa⟩ := own_shape20 hrw.a
        rw [atl_len] at hsa
        subst hsb hsa
        clear hrw
        by_cases hik : i < M
        · have e1 : (i : Int) < (M : Nat) := by omega
          have e2 : (0 : Int) ≤ (i : Int) := by omega
          have wi : IntKind.i64.wrap ((i : Int) + 1) = (i : Int) + 1 := wrap_small _ (by omega) (by omega)
          have hc0 := cP_le l i
          have hle := HLE.out
          obtain ⟨C0, hC0⟩ : ∃ C0, cP l i = C0 := ⟨_, rfl⟩
          have HC0 := hid_intro hC0
          rw [hC0] at hc0 ⊢
          obtain ⟨N0, hN0⟩ : ∃ N0, i + C0 = N0 := ⟨_, rfl⟩
          have HN0 := hid_intro hN0
          rw [hN0]
          have hNz : N0 ≤ 70000 := by omega
          have wn : IntKind.i64.wrap ((N0 : Int) + 1) = (N0 : Int) + 1 := wrap_small _ (by omega) (by omega)
          have hB0 : Hid ((ntx l L i).length ≤ 430000) := ntx_le HFL.out (by have := HLE.out; omega) (by have := HML.out; omega)
          obtain ⟨BN, hBN⟩ : ∃ BN, (ntx l L i).length = BN := ⟨_, rfl⟩
          rw [hBN] at HR ⊢
          clear hC0 hle hN0 hBN
          go_wp2
          go_loopw [7, 9, 11, 12] (fun sb sn sk _ wr => ∃ (k : Nat), k ≤ len ∧ sk = .int .i64 (k : Nat) ∧ sn = .int .i64 ((N0 + 1 + cE (l.take k) i : Nat) : Int) ∧ Nrw w5 wr sb (.slice aa i ac) (ntx l L i ++ ntp (nln i (l.take k))) (atl l i)) (fun _ _ sk _ _ => len - (intOf sk).toNat)
          case atStart =>
            refine ⟨0, Nat.zero_le _, rfl, by go_num, ?_⟩
            have e : ntx l L i ++ ntp (nln i (l.take 0)) = ntx l L i := by simp [nln, ntp, flt23]
            rw [e]
            exact HR.out
          case round =>
            obtain ⟨k, hk, rfl, rfl, hrw⟩ := hrel
            have HR2 := hid_intro hrw
            obtain ⟨ba2, bc2, hsb⟩ := own_shape20 hrw.b
            subst hsb
            clear hrw
            have hce := cE_le (l.take k) i
            have hck : (l.take k).length ≤ len := by rw [List.length_take]; have := HLE.out; omega
            have hB1 : Hid ((ntx l L i ++ ntp (nln i (l.take k))).length ≤ 432000) := by
              have h3 := hB0.out
              have h4 := ntp_le i (l.take k)
              show _ ≤ _
              rw [List.length_append]
              omega
            obtain ⟨N1, hN1⟩ : ∃ N1, N0 + 1 + cE (l.take k) i = N1 := ⟨_, rfl⟩
            have HN1 := hid_intro hN1
            have hN1z : N1 ≤ 80000 := by omega
            rw [hN1]
            obtain ⟨XT, hXT⟩ : ∃ XT, ntx l L i ++ ntp (nln i (l.take k)) = XT := ⟨_, rfl⟩
            have HXT := hid_intro hXT
            rw [hXT] at HR2 hB1 ⊢
            obtain ⟨XN, hXN⟩ : ∃ n, XT.length = n := ⟨_, rfl⟩
            have HXN := hid_intro hXN
            have hb1 := hB1.out
            rw [hXN] at hb1 ⊢
            have HOB := hid_intro HR2.out.b
            rw [hXN] at HOB HR2
            have hszA := HR2.out.g.size
            clear hXN hXT hN1 hce hck hB1
            by_cases hkl : k < len
            · have f1 : (k : Int) < (len : Nat) := by omega
              have f2 : (0 : Int) ≤ (k : Int) := by omega
              obtain ⟨p, hp⟩ : ∃ p, l[k]? = some p := ⟨_, List.getElem?_eq_getElem (by have := HLE.out; omega)⟩
              obtain ⟨n1, n2⟩ := nln_take (i := i) hp
              obtain ⟨gn, on, ea, _, _⟩ := HN5.out k p hp
              subst ea
              obtain ⟨pi, pz⟩ := p
              have HCN : Hid (∀ W, w5.grownBy W none → W.cell? ⟨gn, on + k * 2, none⟩ = some (.int .i64 pi) ∧ W.cell? ⟨gn, on + k * 2 + 1, none⟩ = some (.int .i64 pz)) := fun W hW => by
                obtain ⟨g', o', e', q1, q2⟩ := (HN5.out.keptN hW) k _ hp
                cases e'
                exact ⟨q1, q2⟩
              have cn1 := (HCN.out _ HR2.out.g).1
              simp only at n1 n2
              have wk : IntKind.i64.wrap ((k : Int) + 1) = (k : Int) + 1 := wrap_small _ (by omega) (by omega)
              clear hp
              by_cases hpi : pi = (i : Int)
              · rw [if_pos hpi] at n2
                have NX1 : Hid (ntx l L i ++ ntp (nln i (l.take (k + 1))) = (XT ++ (zPl ++ [10])) ++ blk (bct pz)) := by
                  show _ = _
                  rw [n1, nst_text i _ _ hpi, ← HXT.out]
                  simp only [List.append_assoc]
                have NX2 : Hid (N0 + 1 + cE (l.take (k + 1)) i = N1 + 1) := by show _ = _; rw [n2, ← HN1.out]; omega
                have hpe : (pi == (i : Int)) = true := by rw [hpi]; simp
                clear n1 n2 hpi
                have wn2 : IntKind.i64.wrap ((N1 : Int) + 1) = (N1 : Int) + 1 := wrap_small _ (by omega) (by omega)
                go_wp2_with (at_builtin; refine Lib.wpList_append_own_string _ rfl _ _ 42 9 rfl w5.heap.size 5 i0 Tryz.underlying42 Tryz.underlying9 hi0 hz0 hz1 hz2 _ _ _ rfl HOB.out (tstr (zPl ++ [10])) rfl ?c3 ?c4 ?c5 ?_)
                case c3 => rw [tstr_size]; unfold maxLen; simp [zPl]; omega
                case c4 => rw [tstr_size]; simp [zPl]; omega
                try (case c5 => omega)
                intro v8 w8 ho8 hg8 _
                rw [str_cells, ← Lib.byteCells_append, tstr_size, ← HXN.out] at ho8
                have HR3 := hid_intro (HR2.out.addB rfl ho8 hg8)
                obtain ⟨va, vc, hv8⟩ := own_shape20 HR3.out.b
                subst hv8
                clear ho8 hg8 HOB cn1
                obtain ⟨YT, hYT⟩ : ∃ YT, XT ++ (zPl ++ [10]) = YT := ⟨_, rfl⟩
                have hYL : YT.length ≤ 433000 := by rw [← hYT, List.length_append, HXN.out]; simp [zPl]; omega
                have hyl0 : (XT ++ (zPl ++ [10])).length = YT.length := by rw [hYT]
                rw [hYT] at HR3 NX1
                rw [hyl0]
                obtain ⟨YN, hYN⟩ : ∃ n, YT.length = n := ⟨_, rfl⟩
                rw [hYN] at hYL HR3 ⊢
                have HYN := hid_intro hYN
                clear hYT hyl0 hYN
                go_wp2
                go_loopw [7, 12] (fun sb sn wr => ∃ m : Nat, m ≤ bct pz ∧ sn = .int .i64 (m : Nat) ∧ Nrw w5 wr sb (.slice aa i ac) (YT ++ blk m) (atl l i)) (fun _ sn _ => bct pz - (intOf sn).toNat)
                case atStart => exact ⟨0, Nat.zero_le _, rfl, by simpa [blk] using HR3.out⟩
                case round =>
                  obtain ⟨m, hm, rfl, hrw⟩ := hrel
                  have HR4 := hid_intro hrw
                  obtain ⟨ba4, bc4, hsb⟩ := own_shape20 hrw.b
                  subst hsb
                  clear hrw
                  have cn2 := (HCN.out _ HR4.out.g).2
                  have hm20 : bct pz ≤ 20 := Nat.min_le_right _ _
                  obtain ⟨ZN, hZN⟩ : ∃ n, (YT ++ blk m).length = n := ⟨_, rfl⟩
                  have hZ : ZN ≤ 434000 := by rw [← hZN, List.length_append, blk_len, HYN.out]; omega
                  have HO4 := hid_intro HR4.out.b
                  rw [hZN] at HO4 HR4 ⊢
                  have HZN := hid_intro hZN
                  have hsz4 := HR4.out.g.size
                  clear hZN
                  by_cases hmb : m < bct pz
                  · have x1 : (m : Int) < pz := by unfold bct at hmb; omega
                    have x2 : (m : Int) < 20 := by omega
                    have x2n : m < 20 := by omega
                    have x3 : (0 : Int) ≤ (m : Int) := by omega
                    have wm : IntKind.i64.wrap ((m : Int) + 1) = (m : Int) + 1 := wrap_small _ (by omega) (by omega)
                    rcases Nat.mod_two_eq_zero_or_one m with h2m | h2m
                    · have HBK : Hid (YT ++ blk (m + 1) = (YT ++ blk m) ++ [32]) := by show _ = _; rw [blk_succ, if_pos h2m, ← List.append_assoc]
                      have y1 : Int.tmod (m : Int) 2 = 0 := by rw [Int.tmod_eq_emod_of_nonneg (by omega)]; omega
                      have y2 : (m : Int) % 2 = 0 := by omega
                      clear h2m
                      go_wp2_with (at_builtin; refine wpList_append_own _ rfl _ _ 42 rfl w5.heap.size 5 i0 (.int .u8 0) 1 1 Tryz.underlying42 hi0 hz0 hz1 hz2 rfl (by decide) _ _ _ rfl (HO4.out.alloc _) ⟨wr.heap.size, 0, none⟩ 1 1 [.int .u8 32] rfl rfl (cell_one20 _ _ _) (by intro u hu; simp at hu; subst hu; rfl) (by unfold maxLen; omega) (by omega) (by simp; omega) ?_)
                      intro v9 w9 ho9 hg9 _
                      have h10 := byte_one (YT ++ blk m) 32
                      have hg9' : (wr.alloc (.cells #[.int .u8 32] 5)).grownBy w9 (Value.slice ba4 ZN bc4).ownBlock := hg9
                      have HR5 := hid_intro ((HR4.out.alloc (.cells #[.int .u8 32] 5)).addB (x := [32]) rfl (by rw [HZN.out, ← h10]; exact ho9) hg9')
                      rw [← HBK.out] at HR5
                      clear ho9 hg9 hg9' h10
                      go_wp2
                      go_roundw
                      case rel => exact ⟨m + 1, by omega, by go_num, HR5.out⟩
                      case measure => simp [intOf]; omega
                    · have HBK : Hid (YT ++ blk (m + 1) = (YT ++ blk m) ++ [9]) := by show _ = _; rw [blk_succ, if_neg (by omega), ← List.append_assoc]
                      have y1 : Int.tmod (m : Int) 2 = 1 := by rw [Int.tmod_eq_emod_of_nonneg (by omega)]; omega
                      have y2 : (m : Int) % 2 = 1 := by omega
                      clear h2m
                      go_wp2_with (at_builtin; refine wpList_append_own _ rfl _ _ 42 rfl w5.heap.size 5 i0 (.int .u8 0) 1 1 Tryz.underlying42 hi0 hz0 hz1 hz2 rfl (by decide) _ _ _ rfl (HO4.out.alloc _) ⟨wr.heap.size, 0, none⟩ 1 1 [.int .u8 9] rfl rfl (cell_one20 _ _ _) (by intro u hu; simp at hu; subst hu; rfl) (by unfold maxLen; omega) (by omega) (by simp; omega) ?_)
                      intro v9 w9 ho9 hg9 _
                      have h10 := byte_one (YT ++ blk m) 9
                      have hg9' : (wr.alloc (.cells #[.int .u8 9] 5)).grownBy w9 (Value.slice ba4 ZN bc4).ownBlock := hg9
                      have HR5 := hid_intro ((HR4.out.alloc (.cells #[.int .u8 9] 5)).addB (x := [9]) rfl (by rw [HZN.out, ← h10]; exact ho9) hg9')
                      rw [← HBK.out] at HR5
                      clear ho9 hg9 hg9' h10
                      go_wp2
                      go_roundw
                      case rel => exact ⟨m + 1, by omega, by go_num, HR5.out⟩
                      case measure => simp [intOf]; omega
                  · have hme : m = bct pz := by omega
                    have HR6 := hid_intro HR4.out
                    rw [hme, ← NX1.out] at HR6
                    by_cases hz : (m : Int) < pz
                    · have x2 : ¬ (m : Int) < 20 := by unfold bct at hme; omega
                      have x2n : ¬ m < 20 := by omega
                      clear hme hmb hm
                      go_wp2
                      go_roundw
                      case rel => exact ⟨k + 1, by omega, by go_num, by rw [NX2.out]; go_num, HR6.out⟩
                      case measure => simp [intOf]; omega
                    · clear hme hmb hm
                      go_wp2
                      go_roundw
                      case rel => exact ⟨k + 1, by omega, by go_num, by rw [NX2.out]; go_num, HR6.out⟩
                      case measure => simp [intOf]; omega
              · rw [if_neg hpi] at n2
                have NX1 : Hid (ntx l L i ++ ntp (nln i (l.take (k + 1))) = XT) := by show _ = _; rw [n1, nst_same i _ _ hpi]; exact HXT.out
                have NX2 : Hid (N0 + 1 + cE (l.take (k + 1)) i = N1) := by show _ = _; rw [n2, ← HN1.out]; rfl
                have hpe : (pi == (i : Int)) = false := by rw [beq_eq_false_iff_ne]; exact hpi
                clear n1 n2 hpi
                go_wp2
                go_roundw
                case rel => exact ⟨k + 1, by omega, by go_num, by rw [NX2.out], by rw [NX1.out]; exact HR2.out⟩
                case measure => simp [intOf]; omega
            · obtain rfl : k = len := by omega
              have htl : l.take k = l := List.take_of_length_le (by have := HLE.out; omega)
              have HAT : Hid (atl l (i + 1) = atl l i ++ [(N1 : Int)]) := by
                show _ = _
                rw [atl_succ]
                congr 2
                unfold atz
                rw [cP_succ, ← HN1.out, htl, HC0.out, ← HN0.out]
                omega
              have HNN : Hid (i + 1 + cP l (i + 1) = N1) := by show _ = _; rw [cP_succ, ← HN1.out, htl, HC0.out, ← HN0.out]; omega
              obtain ⟨ln, hln⟩ : ∃ ln, L[i]? = some ln := ⟨_, List.getElem?_eq_getElem (by have := HML.out; omega)⟩
              have HNT : Hid (ntx l L (i + 1) = (XT ++ ln) ++ (zEl ++ [10])) := by
                show _ = _
                rw [ntx_succ, ← HXT.out, htl]
                congr 2
                rw [List.getD, hln]
                rfl
              obtain ⟨gl, el, _⟩ := HWS.out i ln hln
              subst el
              have HCL : Hid (∀ W, w5.grownBy W none → W.cell? ⟨gl, i, none⟩ = some (.string (tstr ln))) := fun W hW => by
                obtain ⟨g', e', q⟩ := HWS.out i ln hln
                cases e'
                exact cell_keptS q hW
              have hlnl : ln.length ≤ 60001 := by
                have h3 := flt_take L (i + 1)
                have h4 := HFL.out
                have e : L.take (i + 1) = L.take i ++ [ln] := by rw [List.take_add_one, hln]; rfl
                rw [e, flt_snoc, List.length_append, List.length_append] at h3
                omega
              have hlz := tstr_size ln
              have HOA := hid_intro HR2.out.a
              rw [atl_len] at HOA
              clear htl hln hkl hk
              go_wp2_with (at_builtin; refine wpList_append_own _ rfl _ _ 43 rfl w5.heap.size 3 j0 (.int .i64 0) 1 8 Tryz.underlying43 hj0 jz0 jz1 jz2 rfl (by decide) _ _ _ rfl (HOA.out.alloc _) ⟨wr.heap.size, 0, none⟩ 1 1 [.int .i64 (N1 : Nat)] rfl rfl (cell_one20 _ _ _) (by intro u hu; simp at hu; subst hu; rfl) (by unfold maxLen; omega) (by omega) (by simp; omega) ?_)
              intro v7 w7 ho7 hg7 _
              have HR7 := hid_intro ((HR2.out.alloc (.cells #[.int .i64 (N1 : Nat)] 3)).addA (z := (N1 : Int)) (by rw [atl_len]; exact ho7) hg7)
              rw [← HAT.out] at HR7
              obtain ⟨ya, yc, hv7⟩ := own_shape20 HR7.out.a
              rw [atl_len] at hv7
              subst hv7
              have HO7 := hid_intro HR7.out.b
              rw [HXN.out] at HO7
              have cl7 := HCL.out _ HR7.out.g
              have hs7 := HR7.out.g.size
              clear ho7 hg7 HOA HR2
              go_wp2_with (at_builtin; refine Lib.wpList_append_own_string _ rfl _ _ 42 9 rfl w5.heap.size 5 i0 Tryz.underlying42 Tryz.underlying9 hi0 hz0 hz1 hz2 _ _ _ rfl HO7.out (tstr ln) rfl ?c13 ?c14 ?c15 ?_)
              case c13 => unfold maxLen; omega
              case c14 => omega
              try (case c15 => omega)
              intro v8 w8 ho8 hg8 _
              rw [str_cells, ← Lib.byteCells_append, ← HXN.out] at ho8
              have HR8 := hid_intro (HR7.out.addB rfl ho8 hg8)
              obtain ⟨va, vc, hv8⟩ := own_shape20 HR8.out.b
              subst hv8
              obtain ⟨VN, hVN⟩ : ∃ n, (XT ++ ln).length = n := ⟨_, rfl⟩
              have hV : VN ≤ 500000 := by rw [← hVN, List.length_append, HXN.out]; omega
              have HO8 := hid_intro HR8.out.b
              rw [hVN] at HO8 HR8 ⊢
              have HVN := hid_intro hVN
              have hs8 := HR8.out.g.size
              clear ho8 hg8 HO7 HR7 cl7 hVN hs7
              go_wp2_with (at_builtin; refine Lib.wpList_append_own_string _ rfl _ _ 42 9 rfl w5.heap.size 5 i0 Tryz.underlying42 Tryz.underlying9 hi0 hz0 hz1 hz2 _ _ _ rfl HO8.out (tstr (zEl ++ [10])) rfl ?c6 ?c7 ?c8 ?_)
              case c6 => rw [tstr_size]; unfold maxLen; simp [zEl]; omega
              case c7 => rw [tstr_size]; simp [zEl]; omega
              try (case c8 => omega)
              intro v9 w9 ho9 hg9 _
              rw [str_cells, ← Lib.byteCells_append, tstr_size, ← HVN.out] at ho9
              have HR9 := hid_intro (HR8.out.addB rfl ho9 hg9)
              rw [← HNT.out] at HR9
              clear ho9 hg9 HO8 HR8
              go_wp2
              go_roundw
              case rel => exact ⟨i + 1, by omega, by go_num, by rw [HNN.out], HR9.out⟩
              case measure => simp [intOf]; omega
        · obtain rfl : i = M := by omega
          obtain ⟨hZ, hcase⟩ := HNO.out
          have hcv : Hid (∀ W, wr.grownBy W none → (convert 42 9 (.slice ba (ntx l L i).length bc)).run Tryz.prog W = .ok (.string (tstr (ntx l L i))) W) := fun W hW => conv_ownX (own_keptD HR.out.b hW)
          obtain ⟨C0, hC0⟩ : ∃ C0, cP l i = C0 := ⟨_, rfl⟩
          rw [hC0]
          obtain ⟨N0, hN0⟩ : ∃ N0, i + C0 = N0 := ⟨_, rfl⟩
          rw [hN0]
          have HCA := hid_intro hcase
          have HPB := hid_intro (fun W hW => HPP.out (ntx l L i) W hW (by omega))
          have HACE : Hid (∀ W j, wr.grownBy W none → j < i → ∃ g, aa = some ⟨g, 0, none⟩ ∧ W.cell? ⟨g, j, none⟩ = some (.int .i64 ((atz l j : Nat) : Int))) := fun W j hW hj => by
            have ho := own_keptD HR.out.a hW
            rw [atl_len] at ho
            exact at_cell ho (atl_at l hj)
          obtain ⟨BN, hBN⟩ : ∃ BN, (ntx l L i).length = BN := ⟨_, rfl⟩
          rw [hBN] at hcv ⊢
          generalize tstr (ntx l L i) = sB at *
          clear hcase hC0 hN0 hBN hik hZ
          go_wp2_with fail
          refine (HP.out _ (L5.out.keptN HR.out.g)).mono ?_
          rintro en w9 ⟨hg9, hr9⟩
          rcases hr9 with ⟨n, lq, v, xs, r1, rfl, ho, hol⟩ | ⟨kk, e, r1, r2, rfl⟩
          · obtain ⟨a, c, hv⟩ := own_shape20 ho
            subst hv
            obtain ⟨f1, _, f3⟩ := HFT.out _ _ r1
            have R9 := hid_intro (hol.opsR ho)
            have hB : psc (ntx l L i) = .ok (n, lq) := by
              rcases HCA.out with ⟨s, q1, q2⟩ | ⟨e, q1, _⟩ | ⟨k, e, q1, _⟩
              · rw [r1] at q1; cases q1; exact q2
              · rw [r1] at q1; cases q1
              · rw [r1] at q1; cases q1
            have HSS := hid_intro (fun a b c d W ha hb => sameScript_any n n a b c d lq lq W ha hb f1 (by omega))
            have gA := World.grownBy_alloc w9 (.cells #[.int .i64 n, .slice a lq.length c] 25) none
            have XA := hid_intro (heap_at0S w9 #[.int .i64 n, .slice a lq.length c] 25)
            have GA := hid_intro (grown_trans hg9 gA)
            have RA := hid_intro (R9.out.keptN gA)
            have hcA := hcv.out _ GA.out
            obtain ⟨m, hm⟩ : ∃ m, lq.length = m := ⟨_, rfl⟩
            rw [hm] at gA XA GA RA HSS hcA ⊢
            have HM := hid_intro hm
            clear ho hol gA r1 f1 f3 hg9 R9 hm
            go_upto_region 26 with fail
            generalize w9.alloc (.cells #[.int .i64 n, .slice a m c] 25) = wA at *
            generalize w9.heap.size = KA at *
            go_wp2_with fail
            refine (HPB.out _ (L5.out.keptN (grown_trans HR.out.g GA.out))).mono ?_
            rintro en w10 ⟨hg10, hr10⟩
            rcases hr10 with ⟨n', lq', v', xs', r1', rfl, ho', hol'⟩ | ⟨_, _, r1', _, _⟩
            · rw [hB] at r1'
              cases r1'
              rw [HM.out] at ho'
              obtain ⟨a', c', hv'⟩ := own_shape20 ho'
              subst hv'
              rw [← HM.out] at ho'
              have hop := hol'.opsR ho'
              rw [HM.out] at ho'
              have gB := World.grownBy_alloc w10 (.cells #[.int .i64 n, .slice a' m c'] 25) none
              have GB := hid_intro (grown_trans hg10 gB)
              have RB := hid_intro (hop.keptN gB)
              have RA2 := hid_intro (RA.out.keptN GB.out)
              have XB := heap_keptS XA.out GB.out
              have d0 := cell_heapS (i := 0) XB rfl
              have d1 := cell_heapS (i := 1) XB rfl
              clear ho' hol' gB hg10 XB hop
              go_wp2_with fail
              refine (HSS.out a a' c c' _ RA2.out RB.out).mono ?_
              rintro en w11 ⟨b, rfl, hb, hg11⟩
              have hbt : b = true := hb.2 (by first | exact ⟨rfl, rfl⟩ | trivial | simp)
              subst hbt
              have G11 := hid_intro (grown_trans G5.out (grown_trans HR.out.g (grown_trans GA.out (grown_trans GB.out hg11))))
              clear hb hg11 d0 d1
              go_wp2_with (go_at_call 10; refine (num23_any _ _).mono ?_; rintro en wz ⟨rfl, rfl⟩)
              go_ret
              exact ⟨rfl, G11.out⟩
            · rw [hB] at r1'; cases r1'
          · have HSS : Hid (∀ W, Calls Tryz.prog 9 #[.agg #[.int .i64 0, .slice none 0 0], .agg #[.int .i64 0, .slice none 0 0]] W fun en w' => ∃ b, en = .returned (.bool b) ∧ (b = true ↔ ((0 : Int) = 0 ∧ ([] : List Opq) = [])) ∧ W.grownBy w' none) := fun W => sameScript_any 0 0 none none 0 0 [] [] W (fun i o h => by simp at h) (fun i o h => by simp at h) (fun o h => by cases h) (by decide)
            have gA := World.grownBy_alloc w9 (.cells #[.int .i64 0, .slice none 0 0] 25) none
            have XA := hid_intro (heap_at0S w9 #[.int .i64 0, .slice none 0 0] 25)
            have GA := hid_intro (grown_trans hg9 gA)
            have hcA := hcv.out _ GA.out
            obtain ⟨YY, hB, hYY⟩ : ∃ YY, psc (ntx l L i) = .error (YY, e) ∧ ((kk = 0 ∧ YY = 0) ∨ ∃ k, kk = k + 1 ∧ k < i ∧ YY = atz l k) := by
              rcases HCA.out with ⟨s, q1, q2⟩ | ⟨e, q1, q2⟩ | ⟨k, e, q1, q3, q2⟩
              · rw [r1] at q1; cases q1
              · rw [r1] at q1; cases q1; exact ⟨0, q2, .inl ⟨rfl, rfl⟩⟩
              · rw [r1] at q1; cases q1; exact ⟨_, q2, .inr ⟨k, rfl, q3, rfl⟩⟩
            have HYY := hid_intro hYY
            clear gA r1 r2 hg9 hYY
            go_upto_region 26 with fail
            generalize w9.alloc (.cells #[.int .i64 0, .slice none 0 0] 25) = wA at *
            generalize w9.heap.size = KA at *
            go_wp2_with fail
            refine (HPB.out _ (L5.out.keptN (grown_trans HR.out.g GA.out))).mono ?_
            rintro en w10 ⟨hg10, hr10⟩
            rcases hr10 with ⟨_, _, _, _, r1', _⟩ | ⟨k', e', r1', _, rfl⟩
            · rw [hB] at r1'; cases r1'
            · rw [hB] at r1'
              cases r1'
              have gB := World.grownBy_alloc w10 (.cells #[.int .i64 0, .slice none 0 0] 25) none
              have GB := hid_intro (grown_trans hg10 gB)
              have XB := heap_keptS XA.out GB.out
              have d0 := cell_heapS (i := 0) XB rfl
              have d1 := cell_heapS (i := 1) XB rfl
              clear gB hg10 XB
              go_wp2_with fail
              refine (HSS.out _).mono ?_
              rintro en w11 ⟨b, rfl, hb, hg11⟩
              have hbt : b = true := hb.2 (by first | exact ⟨rfl, rfl⟩ | trivial | simp)
              subst hbt
              have G11 := hid_intro (grown_trans G5.out (grown_trans HR.out.g (grown_trans GA.out (grown_trans GB.out hg11))))
              have GW := hid_intro (grown_trans GA.out (grown_trans GB.out hg11))
              clear hb hg11 d0 d1
              rcases HYY.out with ⟨rfl, rfl⟩ | ⟨k, hkk, hki, hYk⟩
              · go_wp2_with (go_at_call 10; refine (num23_any _ _).mono ?_; rintro en wz ⟨rfl, rfl⟩)
                go_ret
                exact ⟨rfl, G11.out⟩
              · obtain ⟨ga, ea, hcell⟩ := HACE.out _ k GW.out hki
                subst ea
                rw [← hYk] at hcell
                have y0 : ((kk : Int) == 0) = false := by rw [beq_eq_false_iff_ne]; omega
                have y1 : ¬ (i : Int) < (kk : Int) := by omega
                have y1n : ¬ i < kk := by omega
                have y2 : (kk : Int) - 1 = (k : Int) := by omega
                have y3 : IntKind.i64.wrap ((kk : Int) - 1) = (k : Int) := by rw [y2]; exact wrap_small _ (by omega) (by omega)
                have y4 : (k : Int) < (i : Int) := by omega
                have y5 : (0 : Int) ≤ (k : Int) := by omega
                clear hYk hkk hki
                go_wp2_with (go_at_call 10; refine (num23_any _ _).mono ?_; rintro en wz ⟨rfl, rfl⟩)
                go_ret
                exact ⟨rfl, G11.out⟩
    · have t1 : ¬ (60000 : Int) < ((tstr T).size : Int) := by omega
      have t2 : (60 : Int) < (len : Int) := by omega
      have t3 : 60 < len := by omega
      clear hT h1 h2 hlen
      generalize tstr T = sT at *
      go_enter Tryz.func5, Tryz.ntmps5
      go_wp2_with fail
      refine HF.out.mono ?_
      rintro en w1 ⟨rfl, hg1⟩
      have G1 := hid_intro hg1
      clear hg1
      go_wp2
      go_ret
      exact ⟨rfl, G1.out⟩
  · have t1 : (60000 : Int) < ((tstr T).size : Int) := by omega
    clear hT h1 hlen
    generalize tstr T = sT at *
    go_enter Tryz.func5, Tryz.ntmps5
    go_wp2_with fail
    refine HF.out.mono ?_
    rintro en w1 ⟨rfl, hg1⟩
    have G1 := hid_intro hg1
    clear hg1
    go_wp2
    go_ret
    exact ⟨rfl, G1.out⟩
theorem scriptNoise_walkS (s : ByteArray) (l : List (Int × Int)) (ao : Option Addr) (len cap : Nat) (w : World) (hL : Lv w) (hN : FtR w ao l) (hlen : l.length = len) : Calls Tryz.prog 5 #[.string s, .slice ao len cap] w fun en w' => en = .returned (.bool true) ∧ w.grownBy w' none := by
  have h := scriptNoise_walk s.data.toList l ao len cap w hL hN hlen
  rw [tstr_mk] at h
  exact h
end Go.Proofs.YtdoclmmghdaaaaaGreatDoor
