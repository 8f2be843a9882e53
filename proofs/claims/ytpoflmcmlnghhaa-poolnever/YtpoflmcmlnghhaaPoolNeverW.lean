import Derived.Test.YtpoflmcmlnghhaaNvE
import Derived.Test.YtpoflmcmlnghhaaNvF
import Derived.Deep.DeepCutAuto
import Derived.Deep.CutRange
import Derived.Deep.CutBlock
import Derived.Deep.QuietTactic
import Derived.Deep.RegionHeld3
namespace Go.Proofs.Ytpoflmcmlnghhaa
open Go.RowKit Go.Maps

set_option maxHeartbeats 16000000 in
set_option maxRecDepth 100000 in
theorem poolNever_walk (c k : Int) (a : Option Addr) (n cap : Nat) (ts : List Tq) (w : World) (hO : Tul w a ts) (hlen : ts.length = n) :
    Calls Try.prog 5 #[.int .i64 c, .int .i64 k, .slice a n cap] w fun en w' => en = .returned (.bool true) ∧ w.grownBy w' none := by
  have HO := hid_intro hO
  clear hO
  by_cases h1 : c < 2
  · go_enter Try.func5, Try.ntmps5
    go_wp2_with (go_at_call 7; refine (first17_any _).mono ?_; rintro en w1 ⟨rfl, hg1⟩; have HG1 := hid_intro hg1; clear hg1)
    go_ret
    exact ⟨rfl, HG1.out⟩
  by_cases h2 : 2000 < c
  · go_enter Try.func5, Try.ntmps5
    go_wp2_with (go_at_call 7; refine (first17_any _).mono ?_; rintro en w1 ⟨rfl, hg1⟩; have HG1 := hid_intro hg1; clear hg1)
    go_ret
    exact ⟨rfl, HG1.out⟩
  by_cases h3 : k < c
  · go_enter Try.func5, Try.ntmps5
    go_wp2_with (go_at_call 7; refine (first17_any _).mono ?_; rintro en w1 ⟨rfl, hg1⟩; have HG1 := hid_intro hg1; clear hg1)
    go_ret
    exact ⟨rfl, HG1.out⟩
  by_cases h4 : 20000 < k
  · go_enter Try.func5, Try.ntmps5
    go_wp2_with (go_at_call 7; refine (first17_any _).mono ?_; rintro en w1 ⟨rfl, hg1⟩; have HG1 := hid_intro hg1; clear hg1)
    go_ret
    exact ⟨rfl, HG1.out⟩
  have HNO : Hid (newOk c k [] = true) := by
    show _ = _
    simp [newOk, rp]
    omega
  have HBE := hid_intro (Lt.begin c k (by omega) (by omega) (by omega))
  go_enter Try.func5, Try.ntmps5
  go_wp2_with fail
  refine (first17_any _).mono ?_
  rintro en w1 ⟨rfl, hg1⟩
  have HG1 := hid_intro hg1
  clear hg1
  go_wp2_with fail
  refine (new_yes c k none 0 0 [] _ (Nt.zero _ _) rfl (by omega) HNO.out).mono ?_
  rintro en w2 ⟨B, s, q, rfl, hpl, hg2, hbk⟩
  have HN0 := hid_intro (Nm.start (w0 := w) hpl (fun i hi => Nat.le_trans HG1.out.size (hbk i hi)) (grown_trans HG1.out hg2))
  clear hpl hg2 hbk HG1 HNO
  go_upto_block 0 with fail
  have HN : Hid (NmE w (w2.alloc (.cells #[.pointer (some ⟨B, 0, none⟩), .slice none 0 0, .slice none 0 0, .slice none 0 0, .slice none 0 0, .int .i64 0] 42)) w2.heap.size B s q (newP c k []) (fun _ => []) 0) := HN0.out
  clear HN0
  generalize w2.alloc (.cells #[.pointer (some ⟨B, 0, none⟩), .slice none 0 0, .slice none 0 0, .slice none 0 0, .slice none 0 0, .int .i64 0] 42) = W at *
  generalize w2.heap.size = X at *
  go_cut [9] from 47 to 61 (fun _ wx => NmE w wx X B s q (newP c k []) (upd (fun _ => []) 0 (ups 2 (c - 2).toNat)) 0)
  case first =>
    rename_i J K' hJ hM
    refine never0 (by omega) (by omega) HN ?_
    intro _ _ _ _ _ _ _ _ _ _ _ _ _ _ _ _ wx hrl
    refine hM _ _ ?_
    go_meet
    exact hrl
  case rest =>
    have HN1 := hid_intro hcut
    clear hcut HN
    go_upto_block 2 with fail
    go_cut [6, 7, 10] from 62 to 93 (fun _ s7 _ wx => s7 = .bool true ∧ ∃ (p' : Po) (ls' : Fin 4 → List Int) (ver : Int), NmE w wx X B s q p' ls' ver ∧ Lt p' ls' ∧ (ls' 3).length ≤ 500 ∧ p'.k = k)
    case first =>
      rename_i J K' hJ hM
      refine never2 HN1 HBE (by rfl) rfl HO hlen ?_
      intro _ _ _ _ _ _ _ _ _ _ _ _ _ _ _ _ _ _ _ _ _ _ _ _ _ _ _ _ _ _ _ _ _ _ _ wx hrl
      refine hM _ _ ?_
      go_meet
      exact hrl
    case rest =>
      obtain ⟨rfl, p, ls, ver, ⟨F, vs, hm⟩, ht, hl3, hpk⟩ := hcut
      have HM := hid_intro hm
      have HT := hid_intro ht
      have HPK := hid_intro hpk
      have hlens := ht.lens
      have hul := us_len p
      have HL := hid_intro hlens
      clear hm ht hpk HN1 HBE hl3
      have c0 := HM.out.lv.c0
      have hpl : p.l.length ≤ 1000000 := by omega
      clear hlens
      go_wp2_with fail
      refine (usable_any HM.out.pl hpl).mono ?_
      rintro en w3 ⟨v3, rfl, ho3, hg3⟩
      have HM3 := hid_intro (HM.out.keptN hg3)
      have HO3 := hid_intro (Ow.of ho3)
      clear ho3 hg3 c0 HM
      have c0 := HM3.out.lv.c0
      go_wp2_with fail
      refine (free_any HM3.out.pl hpl).mono ?_
      rintro en w4 ⟨v4, rfl, ho4, hg4⟩
      have HM4 := hid_intro (HM3.out.keptN hg4)
      have HO4 := hid_intro (Ow.of ho4)
      have HO34 := hid_intro (HO3.out.keptN hg4)
      clear ho4 hg4 c0 HM3 HO3
      obtain ⟨uo, uc, eu, unt, uc1, uc2⟩ := HO34.out.shape
      obtain ⟨fo, fc, ef, fnt, fc1, fc2⟩ := HO4.out.shape
      obtain ⟨nu, hnu⟩ : ∃ nu, (us p).length = nu := ⟨_, rfl⟩
      obtain ⟨nf, hnf⟩ : ∃ nf, (p.l.map (·.1)).length = nf := ⟨_, rfl⟩
      rw [hnu] at eu
      rw [hnf] at ef
      subst eu ef
      have hnu2 : nu ≤ 1000000 := by omega
      have hnf2 : nf ≤ 1000000 := by rw [← hnf, List.length_map]; exact hpl
      have hnf3 : (ls 1).length = nf := by rw [← hnf, List.length_map]; have := HL.out; omega
      have HUN := hid_intro unt
      have HFN := hid_intro fnt
      have HNU := hid_intro hnu
      have HNF := hid_intro hnf
      clear unt fnt uc1 uc2 fc1 fc2 hul hpl
      obtain ⟨qo, qc, eq1, qnt, qc1, qc2⟩ := (HM4.out.lv.own 1).shape
      have e2 := HM4.out.lv.c2
      rw [eq1, hnf3] at e2
      have HR1 : Hid (∀ V : World, V.heap = w4.heap → Calls Try.prog 16 #[.slice fo nf fc] V fun en w' => en = .returned (.bool true) ∧ Qt V w') := fun V e => by
        have h1 := riseL_any fo nf fc (p.l.map (·.1)) V (HFN.out.heap e) HNF.out (by omega)
        rw [(rz_iff _).2 HT.out.ris.keys] at h1
        exact h1
      have HR2 : Hid (∀ V : World, V.heap = w4.heap → Calls Try.prog 16 #[.slice uo nu uc] V fun en w' => en = .returned (.bool true) ∧ Qt V w') := fun V e => by
        have h1 := riseL_any uo nu uc (us p) V (HUN.out.heap e) HNU.out (by omega)
        rw [(rz_iff _).2 (us_ris HT.out.ris)] at h1
        exact h1
      clear eq1 qnt qc1 qc2 hnu hnf hnf3 HO34 HO4
      go_wp2_with fail
      refine (HR1.out _ rfl).mono ?_
      rintro en w5 ⟨rfl, hq5⟩
      have HQ5 := hid_intro hq5
      clear hq5
      go_wp2_with fail
      refine (HR2.out _ HQ5.out.heap).mono ?_
      rintro en w6 ⟨rfl, hq6⟩
      have HG6 := hid_intro (grown_trans (HQ5.out.grown none) (hq6.grown none))
      have HM6 := hid_intro (HM4.out.keptN HG6.out)
      have HF6 := hid_intro (HFN.out.keptN HG6.out)
      have HU6 := hid_intro (HUN.out.keptN HG6.out)
      clear hq6 HQ5 HG6 HR1 HR2 HFN HUN HM4 e2
      go_upto_block 4 with fail
      go_cut [6, 13, 14, 15] from 122 to 163 (fun _ _ _ _ wx => wx = w6)
      case first =>
        rename_i J K' hJ hM
        refine never4 HM6 HT HF6 HU6 HNF.out HNU.out hnf2 hnu2 ?_
        intro _ _ _ _ _ _ _ _ _ _ _ _ _ _ _ _ _ _ _ _ _ _ _ _ _ _ _ _ _ _ _ _ _ _ _ _ _ _ _ _ _ _ _ _ _ _ wx hrl
        refine hM _ _ ?_
        go_meet
        exact hrl
      case rest =>
        have hw := hcut
        subst hw
        have c0 := HM6.out.lv.c0
        have HCN : Hid (∀ V, wc.grownBy V none → Calls Try.prog 20 #[.pointer (some ⟨B, 0, none⟩)] V fun en w' => en = .returned (.int .i64 p.c) ∧ w' = V) := fun V hg => count_any (HM6.out.pl.keptN hg)
        have HRM : Hid (∀ V, wc.grownBy V none → Calls Try.prog 19 #[.pointer (some ⟨B, 0, none⟩)] V fun en w' => en = .returned (.int .i64 (rm p)) ∧ V.grownBy w' none) := fun V hg => room_any (HM6.out.pl.keptN hg) HT.out.ok
        have hok := HT.out.ok
        have hc2 := hok.c2
        have hck := hok.ck
        have hkk := HPK.out
        have wA : IntKind.i64.wrap ((nu : Int) + k) = (nu : Int) + k := by simp [IntKind.wrap, IntKind.signed, IntKind.bits]; omega
        have wB : IntKind.i64.wrap ((nu : Int) + k - p.c) = rm p := by
          have e : rm p = (nu : Int) + k - p.c := by unfold rm; rw [HNU.out, hkk]
          rw [e]
          simp [IntKind.wrap, IntKind.signed, IntKind.bits]; omega
        clear hok hc2 hck hkk hnf2 hnu2
        generalize rm p = R at *
        go_wp2_with fail
        go_region_held3 (fun w' => w'.cell? ⟨X, 0, none⟩ = some (.pointer (some ⟨B, 0, none⟩))) (first | exact c0 | exact T5.out | go_keep)
          (first
            | (go_at_call 19; refine (HRM.out _ ((Qt.refl wc).drew.grown none)).mono ?_; rintro en w5 ⟨rfl, hg5⟩; have HG5 := hid_intro (grown_trans ((Qt.refl wc).drew.grown none) hg5); have T5 := hid_intro (HG5.out.cell c0 (by simp)); clear hg5)
            | (go_at_call 20; refine (HCN.out _ HG5.out).mono ?_; rintro en w7 ⟨rfl, hw7⟩; rw [hw7]; clear hw7)
            | (go_at_call 20; refine (HCN.out _ ((Qt.refl wc).drew.grown none)).mono ?_; rintro en w7 ⟨rfl, hw7⟩; rw [hw7]; clear hw7))
        all_goals
          go_wp2_with fail
          go_ret
          exact ⟨by simp, grown_trans HM6.out.gr HG5.out⟩
end Go.Proofs.Ytpoflmcmlnghhaa
