import Derived.Test.YtdoclmmghdaaaaaGreatDoorSrO
import Derived.Test.YtdoclmmghdaaaaaGreatDoorSrN
namespace Go.Proofs.YtdoclmmghdaaaaaGreatDoor
open Go.RowKit

/-! The document's words. -/
/-- What is laid aside, and what comes. -/
def wac (acc l : List UInt8) : List (List UInt8) := cns (acc ++ (tok l).1, (tok l).2)
theorem wac_nil (l : List UInt8) : wac [] l = wrds l := rfl
theorem wac_end (acc : List UInt8) : wac acc [] = if acc = [] then [] else [acc] := by
  unfold wac cns tok
  simp
theorem wac_blank (acc l : List UInt8) (c : UInt8) (h : isb c = true) : wac acc (c :: l) = (if acc = [] then [] else [acc]) ++ wac [] l := by
  have e : tok (c :: l) = ([], cns (tok l)) := by rw [tok]; exact if_pos h
  unfold wac
  rw [e]
  unfold cns
  simp only [List.append_nil, List.nil_append]
  by_cases ha : acc = []
  · rw [if_pos ha, if_pos ha]; rfl
  · rw [if_neg ha, if_neg ha]; rfl
theorem wac_more (acc l : List UInt8) (c : UInt8) (h : isb c = false) : wac acc (c :: l) = wac (acc ++ [c]) l := by
  have e : tok (c :: l) = (c :: (tok l).1, (tok l).2) := by rw [tok]; exact if_neg (by rw [h]; simp)
  unfold wac
  rw [e]
  simp
end Go.Proofs.YtdoclmmghdaaaaaGreatDoor

namespace Go.Proofs.YtdoclmmghdaaaaaGreatDoor
open Go.RowKit

theorem cua_step {c : UInt8} {l : List UInt8} (h : c ≠ 35) : cua 35 (c :: l) = c :: cua 35 l := by
  unfold cua
  cases hc : cutC 35 l with
  | none => simp [cutC, h, hc]
  | some p => simp [cutC, h, hc]
theorem cua_stop (l : List UInt8) : cua 35 (35 :: l) = [] := by unfold cua; simp [cutC]
set_option maxHeartbeats 16000000 in
set_option maxRecDepth 100000 in
theorem refWords_any (T : List UInt8) (w : World) (hT : T.length ≤ 2000000) : Calls Tryz.prog 20 #[.string (tstr T)] w fun en w' => ∃ a c, en = .returned (.slice a (wrds (cua 35 T)).length c) ∧ w'.ownsRow w.heap.size 9 1 (.slice a (wrds (cua 35 T)).length c) (wrds (cua 35 T)).length (wv (wrds (cua 35 T))) ∧ w.grownBy w' none := by
  obtain ⟨ip, hip, hp0, hp1, hp2⟩ := info_parts info_strS
  have HZ := hid_intro (tstr_size T)
  have hsz : ((tstr T).size : Int) ≤ 2000000 := by have := HZ.out; omega
  have HEX : Hid (∀ i k, (tstr T).extract i k = tstr ((T.drop i).take (k - i))) := fun i k => ext_mid T i k
  have HAT : Hid (∀ i (h : i < (tstr T).size) (h2 : i < T.length), (tstr T)[i]'h = T[i]'h2) := fun i h h2 => by
    have := getD_data (tstr T) i h
    rw [tstr_data] at this
    rw [← this, List.getD, List.getElem?_eq_getElem h2]
    rfl
  have H0 : Hid (wrds (cua 35 T) = [] ++ wac [] (cua 35 (T.drop 0))) := rfl
  generalize wrds (cua 35 T) = R at *
  generalize hs : tstr T = s at *
  clear hs
  go_enter Tryz.func20, Tryz.ntmps20
  go_wp2
  go_loopw [3, 4, 5, 6] (fun s3 s4 s5 _ wr => ∃ (i N : Nat) (ls : List (List UInt8)) (acc : List UInt8), i ≤ s.size ∧ s4 = .string (tstr acc) ∧ s5 = .int .i64 (i : Nat) ∧ w.grownBy wr none ∧ wr.ownsRow w.heap.size 9 1 s3 N (wv ls) ∧ ls.length = N ∧ N ≤ i ∧ acc.length ≤ i ∧ R = ls ++ wac acc (cua 35 (T.drop i))) (fun _ _ s5 _ _ => s.size + 1 - (intOf s5).toNat)
  case atStart => exact ⟨0, 0, [], [], Nat.zero_le _, rfl, rfl, World.grownBy.refl _ _, ⟨rfl, .inl ⟨rfl, rfl⟩⟩, rfl, Nat.le_refl _, Nat.le_refl _, H0.out⟩
  case round =>
    obtain ⟨i, N, ls, acc, his, rfl, rfl, hg, ho, hN, hNi, hai, hl⟩ := hrel
    have HG := hid_intro hg
    have HO := hid_intro ho
    have HL := hid_intro hl
    have HNN := hid_intro hN
    obtain ⟨pa, pc, hs3⟩ := own_shape20 ho
    subst hs3
    clear hg ho hl hN H0
    have e0 : (i : Int) ≤ (s.size : Int) := by omega
    have e2 : (0 : Int) ≤ (i : Int) := by omega
    by_cases hi : i < s.size
    · have e1 : (i : Int) < (s.size : Int) := by omega
      have e3 : ((i : Int) == (s.size : Int)) = false := by rw [beq_eq_false_iff_ne]; omega
      have hil : i < T.length := by have := HZ.out; omega
      have hat := HAT.out i hi hil
      have hdr : T.drop i = s[i]'hi :: T.drop (i + 1) := by rw [List.drop_eq_getElem_cons hil, hat]
      have hwr : IntKind.i64.wrap ((i : Int) + 1) = (i : Int) + 1 := wrap_small _ (by omega) (by omega)
      by_cases hc : s[i]'hi = 35
      · have c1 : (((s[i]'hi).toNat : Int) == 35) = true := by rw [hc]; rfl
        have HE : Hid (R = ls ++ (if acc = [] then [] else [acc])) := by show _ = _; rw [HL.out, hdr, hc, cua_stop, wac_end]
        clear hat hdr hc HL
        by_cases ha : acc = []
        · have b1 : ((tstr acc).toList == []) = true := by rw [str_nil acc]; simp [ha]
          have HF : Hid (R = ls) := by show _ = _; rw [HE.out, if_pos ha, List.append_nil]
          generalize tstr acc = sa at *
          clear ha
          go_wp2
          go_ret
          refine ⟨pa, pc, ?_, ?_, HG.out⟩
          · rw [HF.out, HNN.out]; rfl
          · rw [HF.out, HNN.out]; exact HO.out
        · have b1 : ((tstr acc).toList == []) = false := by rw [str_nil acc]; simp [ha]
          have HF : Hid (R = ls ++ [acc]) := by show _ = _; rw [HE.out, if_neg ha]
          have HVS := hid_intro (wv_snoc ls acc)
          have hsg := HG.out.size
          generalize tstr acc = sa at *
          clear ha
          go_wp2_with (at_builtin; refine wpList_append_own _ rfl _ _ 40 rfl w.heap.size 9 ip (.string ⟨#[]⟩) 1 16 Tryz.underlying40 hip hp0 hp1 hp2 rfl (by decide) _ N _ rfl (HO.out.alloc _) ⟨wr.heap.size, 0, none⟩ 1 1 [.string sa] rfl rfl (cell_one20 _ _ _) (by intro u hu; simp at hu; subst hu; rfl) (by unfold maxLen; omega) (by omega) (by simp; omega) ?_)
          intro v8 w8 ho8 hg8 _
          obtain ⟨qa, qc, hv8⟩ := own_shape20 ho8
          subst hv8
          have O8 := hid_intro ho8
          have G8 := hid_intro (grown_app20 HG.out HO.out (Nat.le_refl _) hg8)
          clear ho8 hg8
          have HL8 : Hid ((ls ++ [acc]).length = N + 1) := by show _ = _; rw [List.length_append, HNN.out]; rfl
          go_wp2
          go_ret
          refine ⟨qa, qc, ?_, ?_, G8.out⟩
          · rw [HF.out, HL8.out]; rfl
          · rw [HF.out, HL8.out, HVS.out]; exact O8.out
      · have c1 : (((s[i]'hi).toNat : Int) == 35) = false := by
          rw [beq_eq_false_iff_ne]; intro h; apply hc; apply UInt8.toNat_inj.1
          have : (s[i]'hi).toNat = 35 := by omega
          rw [this]; rfl
        have HS : Hid (R = ls ++ wac acc (s[i]'hi :: cua 35 (T.drop (i + 1)))) := by show _ = _; rw [HL.out, hdr, cua_step hc]
        have ne : ∀ z : UInt8, s[i]'hi ≠ z → (((s[i]'hi).toNat : Int) == (z.toNat : Int)) = false := fun z hz => by
          rw [beq_eq_false_iff_ne]; intro h; apply hz; apply UInt8.toNat_inj.1; omega
        by_cases hb : isb (s[i]'hi) = true
        · have HB : Hid (R = (ls ++ (if acc = [] then [] else [acc])) ++ wac [] (cua 35 (T.drop (i + 1)))) := by show _ = _; rw [HS.out, wac_blank _ _ _ hb, List.append_assoc]
          have hcc : s[i]'hi = 32 ∨ (s[i]'hi ≠ 32 ∧ s[i]'hi = 9) := by
            unfold isb at hb
            simp only [Bool.or_eq_true, beq_iff_eq] at hb
            by_cases q : s[i]'hi = 32
            · exact .inl q
            · exact .inr ⟨q, by rcases hb with h | h; exact absurd h q; exact h⟩
          have hd : (((s[i]'hi).toNat : Int) == 32) = true ∨ ((((s[i]'hi).toNat : Int) == 32) = false ∧ (((s[i]'hi).toNat : Int) == 9) = true) := by
            rcases hcc with q | ⟨q, q2⟩
            · left; rw [q]; rfl
            · right; exact ⟨ne 32 q, by rw [q2]; rfl⟩
          clear hat hdr hc HL HS ne hb hcc
          rcases hd with d1 | ⟨d1, d2⟩
          all_goals
            by_cases ha : acc = []
            · have b1 : ((tstr acc).toList == []) = true := by rw [str_nil acc]; simp [ha]
              have HF : Hid (R = ls ++ wac [] (cua 35 (T.drop (i + 1)))) := by show _ = _; rw [HB.out, if_pos ha, List.append_nil]
              generalize tstr acc = sa at *
              clear ha HB
              go_wp2
              go_roundw
              case rel => exact ⟨i + 1, N, ls, [], by omega, rfl, by go_num, HG.out, HO.out, HNN.out, by omega, by simp, HF.out⟩
              case measure => simp [intOf]; omega
            · have b1 : ((tstr acc).toList == []) = false := by rw [str_nil acc]; simp [ha]
              have HF : Hid (R = (ls ++ [acc]) ++ wac [] (cua 35 (T.drop (i + 1)))) := by show _ = _; rw [HB.out, if_neg ha]
              have HVS := hid_intro (wv_snoc ls acc)
              have hsg := HG.out.size
              generalize tstr acc = sa at *
              clear ha HB
              go_wp2_with (at_builtin; refine wpList_append_own _ rfl _ _ 40 rfl w.heap.size 9 ip (.string ⟨#[]⟩) 1 16 Tryz.underlying40 hip hp0 hp1 hp2 rfl (by decide) _ N _ rfl (HO.out.alloc _) ⟨wr.heap.size, 0, none⟩ 1 1 [.string sa] rfl rfl (cell_one20 _ _ _) (by intro u hu; simp at hu; subst hu; rfl) (by unfold maxLen; omega) (by omega) (by simp; omega) ?_)
              intro v8 w8 ho8 hg8 _
              obtain ⟨qa, qc, hv8⟩ := own_shape20 ho8
              subst hv8
              have O8 := hid_intro ho8
              have G8 := hid_intro (grown_app20 HG.out HO.out (Nat.le_refl _) hg8)
              clear ho8 hg8
              go_wp2
              go_roundw
              case rel => exact ⟨i + 1, N + 1, ls ++ [acc], [], by omega, rfl, by go_num, G8.out, by rw [HVS.out]; exact O8.out, by rw [List.length_append, HNN.out]; rfl, by omega, by simp, HF.out⟩
              case measure => simp [intOf]; omega
        · have hb2 : isb (s[i]'hi) = false := by simpa using hb
          have q1 : s[i]'hi ≠ 32 := fun e => by rw [e] at hb2; revert hb2; decide
          have q2 : s[i]'hi ≠ 9 := fun e => by rw [e] at hb2; revert hb2; decide
          have d1 : (((s[i]'hi).toNat : Int) == 32) = false := ne 32 q1
          have d2 : (((s[i]'hi).toNat : Int) == 9) = false := ne 9 q2
          have HM : Hid (R = ls ++ wac (acc ++ [s[i]'hi]) (cua 35 (T.drop (i + 1)))) := by show _ = _; rw [HS.out, wac_more _ _ _ hb2]
          have hex := HEX.out i (i + 1)
          rw [hdr, show i + 1 - i = 1 by omega, List.take_succ_cons, List.take_zero] at hex
          have HCT : Hid (tstr acc ++ s.extract i (i + 1) = tstr (acc ++ [s[i]'hi])) := by show _ = _; rw [hex, tstr_app]
          have hz1 : (s.extract i (i + 1)).size = 1 := by rw [hex]; rfl
          have hza := tstr_size acc
          have hlm : ¬ 9223372036854775807 < (tstr acc).size + 1 := by omega
          have hct := HCT.out
          have f1 : (i : Int) + 1 ≤ (s.size : Int) := by omega
          have f2 : (i : Int) ≤ (i : Int) + 1 := by omega
          have f3 : (0 : Int) ≤ (i : Int) + 1 := by omega
          have f4 : ((i : Int) + 1).toNat = i + 1 := by omega
          have HAC : Hid ((acc ++ [s[i]'hi]).length ≤ i + 1) := by show _ ≤ _; simp; omega
          clear hat hdr hc HL HS ne hb hb2 q1 q2 hex hza HCT
          generalize acc ++ [s[i]'hi] = acc2 at *
          obtain ⟨sb, hsb⟩ : ∃ x, x = tstr acc2 := ⟨_, rfl⟩
          rw [← hsb] at hct
          have HSB := hid_intro hsb
          clear hsb
          generalize tstr acc = sa at *
          go_wp2
          go_roundw
          case rel => exact ⟨i + 1, N, ls, acc2, by omega, by rw [HSB.out], by go_num, HG.out, HO.out, HNN.out, by omega, HAC.out, HM.out⟩
          case measure => simp [intOf]; omega
    · obtain rfl : i = s.size := by omega
      have e3 : ((s.size : Int) == (s.size : Int)) = true := by simp
      have HE : Hid (R = ls ++ (if acc = [] then [] else [acc])) := by
        show _ = _
        rw [HL.out, List.drop_of_length_le (by have := HZ.out; omega), show cua 35 ([] : List UInt8) = [] from rfl, wac_end]
      clear HL
      by_cases ha : acc = []
      · have b1 : ((tstr acc).toList == []) = true := by rw [str_nil acc]; simp [ha]
        have HF : Hid (R = ls) := by show _ = _; rw [HE.out, if_pos ha, List.append_nil]
        generalize tstr acc = sa at *
        clear ha
        go_wp2
        go_ret
        refine ⟨pa, pc, ?_, ?_, HG.out⟩
        · rw [HF.out, HNN.out]; rfl
        · rw [HF.out, HNN.out]; exact HO.out
      · have b1 : ((tstr acc).toList == []) = false := by rw [str_nil acc]; simp [ha]
        have HF : Hid (R = ls ++ [acc]) := by show _ = _; rw [HE.out, if_neg ha]
        have HVS := hid_intro (wv_snoc ls acc)
        have hsg := HG.out.size
        generalize tstr acc = sa at *
        clear ha
        go_wp2_with (at_builtin; refine wpList_append_own _ rfl _ _ 40 rfl w.heap.size 9 ip (.string ⟨#[]⟩) 1 16 Tryz.underlying40 hip hp0 hp1 hp2 rfl (by decide) _ N _ rfl (HO.out.alloc _) ⟨wr.heap.size, 0, none⟩ 1 1 [.string sa] rfl rfl (cell_one20 _ _ _) (by intro u hu; simp at hu; subst hu; rfl) (by unfold maxLen; omega) (by omega) (by simp; omega) ?_)
        intro v8 w8 ho8 hg8 _
        obtain ⟨qa, qc, hv8⟩ := own_shape20 ho8
        subst hv8
        have O8 := hid_intro ho8
        have G8 := hid_intro (grown_app20 HG.out HO.out (Nat.le_refl _) hg8)
        clear ho8 hg8
        have HL8 : Hid ((ls ++ [acc]).length = N + 1) := by show _ = _; rw [List.length_append, HNN.out]; rfl
        go_wp2
        go_ret
        refine ⟨qa, qc, ?_, ?_, G8.out⟩
        · rw [HF.out, HL8.out]; rfl
        · rw [HF.out, HL8.out, HVS.out]; exact O8.out
end Go.Proofs.YtdoclmmghdaaaaaGreatDoor

namespace Go.Proofs.YtdoclmmghdaaaaaGreatDoor
open Go.RowKit

/-! A number has one word: pure. -/
theorem nb_some {t : List UInt8} {n : Nat} (h : nb t = some n) : t ≠ [] ∧ (t.head? = some 48 → t = [48]) ∧ (∀ c ∈ t, dig c = true) ∧ val 0 t = n ∧ n ≤ 2147483647 := by
  unfold nb at h
  split at h
  · rename_i hh
    obtain ⟨h1, h2, h3, h4⟩ := hh
    simp only [Option.some.injEq] at h
    exact ⟨h1, h2, fun c hc => List.all_eq_true.1 h3 c hc, h, by omega⟩
  · cases h
theorem val_ge : ∀ (t : List UInt8) (a : Nat), a ≤ val a t
  | [], a => Nat.le_refl _
  | c :: t, a => by
    have := val_ge t (10 * a + (c.toNat - 48))
    show a ≤ val (10 * a + (c.toNat - 48)) t
    omega
theorem dig_rng {c : UInt8} (h : dig c = true) : 48 ≤ c.toNat ∧ c.toNat ≤ 57 := by unfold dig at h; exact of_decide_eq_true h
theorem parse_val : ∀ (t : List UInt8) (a : Nat), (∀ c ∈ t, dig c = true) → val a t ≤ 2147483647 → Lib.parseUint10 a t = .ok (val a t)
  | [], a, _, _ => rfl
  | c :: t, a, hd, hv => by
    have hc := dig_rng (hd c List.mem_cons_self)
    have hg := val_ge t (10 * a + (c.toNat - 48))
    have hv2 : val (10 * a + (c.toNat - 48)) t ≤ 2147483647 := hv
    have ih := parse_val t (10 * a + (c.toNat - 48)) (fun x hx => hd x (List.mem_cons_of_mem _ hx)) hv2
    rw [Lib.parseUint10, if_pos hc, if_neg (by omega), if_neg (by omega), Nat.mul_comm a 10, ih]
    rfl
theorem mag_dec {n : Nat} (h : n ≤ 2147483647) : Lib.parseMag (Lib.decDigits n) = .ok n := by
  obtain ⟨h1, _, h3, h4, _⟩ := nb_some (nb_dec h)
  unfold Lib.parseMag
  rw [if_neg h1, parse_val _ 0 h3 (by omega), h4]
theorem atoi_itoa {n : Int} (h : smn n = true) : Lib.atoiAll (Lib.itoa n) = .ok n := by
  obtain ⟨h0, h1⟩ := smn_le h
  unfold Lib.itoa
  split
  · have hm := mag_dec (n := n.natAbs) (by omega)
    unfold Lib.atoiAll
    simp only
    rw [if_pos (by decide), hm]
    simp only
    rw [if_neg (by simp), if_neg (by omega)]
    simp
    omega
  · have hm := mag_dec (n := n.toNat) (by omega)
    obtain ⟨k1, _, k3, _, _⟩ := nb_some (nb_dec (n := n.toNat) (by omega))
    cases hd : Lib.decDigits n.toNat with
    | nil => exact absurd hd k1
    | cons c r =>
      rw [hd] at hm k3
      have hc := dig_rng (k3 c List.mem_cons_self)
      unfold Lib.atoiAll
      simp only
      rw [if_neg (by omega), hm]
      simp only
      rw [if_neg (by omega), if_neg (by omega), if_neg (by omega)]
      congr 1
      omega
theorem nmb_iff (T : List UInt8) (n : Int) : nmb T = some n ↔ Lib.itoa n = T ∧ smn n = true := by
  constructor
  · intro h
    unfold nmb at h
    split at h
    · split at h
      · rename_i hh; cases h; exact ⟨hh.2, hh.1⟩
      · cases h
    · cases h
  · rintro ⟨rfl, hs⟩
    unfold nmb
    rw [atoi_itoa hs]
    exact if_pos ⟨hs, rfl⟩
/-- The document's number. -/
def rnum (T : List UInt8) : Option Int := match T with
  | c :: r => if c = 45 ∧ r ≠ [] then (if r.head? = some 48 then none else (nb r).map fun n => -(n : Int)) else (nb T).map fun n => (n : Int)
  | [] => none
theorem dec_head {n : Nat} (h : n ≤ 2147483647) (h0 : n ≠ 0) : (Lib.decDigits n).head? ≠ some 48 := by
  intro e
  obtain ⟨_, k2, _, k4, _⟩ := nb_some (nb_dec h)
  rw [k2 e] at k4
  exact h0 (by rw [← k4]; rfl)
theorem rnum_iff (T : List UInt8) (n : Int) : rnum T = some n ↔ Lib.itoa n = T ∧ smn n = true := by
  constructor
  · intro h
    cases T with
    | nil => cases h
    | cons c r =>
      unfold rnum at h
      simp only at h
      split at h
      · rename_i hc
        obtain ⟨rfl, hr⟩ := hc
        split at h
        · cases h
        · rename_i h48
          cases hb : nb r with
          | none => rw [hb] at h; cases h
          | some m =>
            rw [hb] at h
            have h' : some (-(m : Int)) = some n := h
            cases h'
            obtain ⟨d1, d2⟩ := dec_nb hb
            have hm : m ≠ 0 := fun e => by
              subst e
              apply h48
              rw [← d1, dec_small (by omega)]
              rfl
            refine ⟨?_, by unfold smn; simp; omega⟩
            unfold Lib.itoa
            rw [if_pos (by omega), show (-(m : Int)).natAbs = m by omega, d1]
      · cases hb : nb (c :: r) with
        | none => rw [hb] at h; cases h
        | some m =>
          rw [hb] at h
          have h' : some (m : Int) = some n := h
          cases h'
          obtain ⟨d1, d2⟩ := dec_nb hb
          refine ⟨?_, by unfold smn; simp; omega⟩
          unfold Lib.itoa
          rw [if_neg (by omega), Int.toNat_natCast, d1]
  · rintro ⟨rfl, hs⟩
    obtain ⟨h0, h1⟩ := smn_le hs
    unfold Lib.itoa
    split
    · rename_i hn
      have hk := nb_dec (n := n.natAbs) (by omega)
      obtain ⟨k1, _⟩ := nb_some hk
      unfold rnum
      simp only
      rw [if_pos (by first | exact ⟨rfl, k1⟩ | exact ⟨trivial, k1⟩), if_neg (dec_head (by omega) (by omega)), hk]
      show some (-(n.natAbs : Int)) = some n
      congr 1
      omega
    · have hk := nb_dec (n := n.toNat) (by omega)
      obtain ⟨k1, _, k3, _⟩ := nb_some hk
      cases hd : Lib.decDigits n.toNat with
      | nil => exact absurd hd k1
      | cons c r =>
        rw [hd] at hk k3
        have hc := dig_rng (k3 c List.mem_cons_self)
        unfold rnum
        simp only
        rw [if_neg (by rintro ⟨rfl, _⟩; simp at hc), hk]
        show some (n.toNat : Int) = some n
        congr 1
        omega
/-- The two are one. -/
theorem nmb_rnum (T : List UInt8) : nmb T = rnum T := by
  cases h : nmb T with
  | some n => exact ((rnum_iff T n).2 ((nmb_iff T n).1 h)).symm
  | none =>
    cases h2 : rnum T with
    | none => rfl
    | some n => rw [(nmb_iff T n).2 ((rnum_iff T n).1 h2)] at h; cases h
end Go.Proofs.YtdoclmmghdaaaaaGreatDoor

namespace Go.Proofs.YtdoclmmghdaaaaaGreatDoor
open Go.RowKit

/-- What the document's number answers. -/
def NumP (T : List UInt8) (en : Ending) : Prop := ∃ z b, en = .returned (.tuple #[.int .i64 z, .bool b]) ∧ (∀ n, nmb T = some n → z = n ∧ b = true) ∧ (nmb T = none → b = false)
theorem NumP.no {T : List UInt8} (h : nmb T = none) (z : Int) : NumP T (.returned (.tuple #[.int .i64 z, .bool false])) := ⟨z, false, rfl, fun n e => by (rw [h] at e; cases e), fun _ => rfl⟩
theorem NumP.yes {T : List UInt8} {n z : Int} (h : nmb T = some n) (hz : z = n) : NumP T (.returned (.tuple #[.int .i64 z, .bool true])) := ⟨z, true, rfl, fun m e => by (rw [h] at e; cases e; exact ⟨hz, rfl⟩), fun e => by (rw [h] at e; cases e)⟩
theorem wrap_neg (n : Int) (h0 : -9223372036854775808 ≤ n) (h1 : n ≤ 0) : IntKind.i64.wrap n = n := by
  unfold IntKind.wrap
  simp [IntKind.bits, IntKind.signed]
  omega
theorem nb_longS {T : List UInt8} (h : 10 < T.length) : nb T = none := by
  cases hn : nb T with
  | none => rfl
  | some n =>
    obtain ⟨h1, h2⟩ := dec_nb hn
    have := dec_len 9 n (by omega)
    rw [h1] at this
    omega
theorem nb_zeroS {T : List UInt8} (h : 1 < T.length) (h0 : T.head? = some 48) : nb T = none := by
  unfold nb
  rw [if_neg]
  rintro ⟨_, h2, _⟩
  have := h2 h0
  rw [this] at h
  simp at h
theorem val_ltS {T : List UInt8} (hd : T.all dig = true) : val 0 T < 10 ^ T.length := by
  have : ∀ (T : List UInt8) (n : Nat), T.all dig = true → val n T < (n + 1) * 10 ^ T.length := by
    intro T
    induction T with
    | nil => intro n _; simp [val]
    | cons c t ih =>
      intro n h
      rw [List.all_cons, Bool.and_eq_true] at h
      have h1 : 48 ≤ c.toNat ∧ c.toNat ≤ 57 := by simpa [dig] using h.1
      have h2 := ih (10 * n + (c.toNat - 48)) h.2
      have e : val n (c :: t) = val (10 * n + (c.toNat - 48)) t := rfl
      rw [e, List.length_cons, Nat.pow_succ]
      have h3 : (10 * n + (c.toNat - 48) + 1) * 10 ^ t.length ≤ ((n + 1) * 10) * 10 ^ t.length := Nat.mul_le_mul_right _ (by omega)
      have h4 : ((n + 1) * 10) * 10 ^ t.length = (n + 1) * (10 ^ t.length * 10) := by rw [Nat.mul_assoc, Nat.mul_comm 10]
      omega
  have := this T 0 hd
  omega
theorem nb_head {X : List UInt8} {c : UInt8} {r : List UInt8} (h : X = c :: r) (hz : ¬ (1 < X.length ∧ c = 48)) : X.head? = some 48 → X = [48] := fun e => by
  subst h
  simp only [List.head?_cons, Option.some.injEq] at e
  subst e
  cases r with
  | nil => rfl
  | cons a b => exact absurd ⟨by simp, rfl⟩ hz
/-- The first byte. -/
theorem head_get {s : ByteArray} {c : UInt8} {r : List UInt8} (h : s.data.toList = c :: r) : ∃ hp : 0 < s.size, s[0]'hp = c := by
  have hl := size_data s
  have hp : 0 < s.size := by rw [h] at hl; simp at hl; omega
  refine ⟨hp, ?_⟩
  have := getD_data s 0 hp
  rw [h] at this
  simpa using this.symm
set_option maxHeartbeats 8000000 in
set_option maxRecDepth 100000 in
theorem refNumber23 (T : List UInt8) (w : World) (hTl : T.length ≤ 140737488355328) : Calls Tryz.prog 37 #[.string (tstr T)] w fun en w' => NumP T en ∧ w' = w := by
  have HNR := hid_intro (nmb_rnum T)
  by_cases hA : ∃ c R, T = 45 :: c :: R
  · obtain ⟨c, R, hT⟩ := hA
    obtain ⟨X, hX⟩ : ∃ X, X = c :: R := ⟨_, rfl⟩
    have HTX : Hid (T = 45 :: X) := by show _ = _; rw [hX]; exact hT
    have hXne : X ≠ [] := by rw [hX]; simp
    have HNO0 : Hid (X.head? = some 48 → nmb T = none) := fun h => by rw [HNR.out, HTX.out]; unfold rnum; simp only; rw [if_pos (by first | exact ⟨rfl, hXne⟩ | exact ⟨trivial, hXne⟩), if_pos h]
    have HNO : Hid (nb X = none → nmb T = none) := fun h => by rw [HNR.out, HTX.out]; unfold rnum; simp only; rw [if_pos (by first | exact ⟨rfl, hXne⟩ | exact ⟨trivial, hXne⟩)]; split; rfl; rw [h]; rfl
    have HYE0 : Hid (X.head? ≠ some 48 → ∀ n, nb X = some n → nmb T = some ((-1 : Int) * (n : Int))) := fun h48 n h => by rw [HNR.out, HTX.out]; unfold rnum; simp only; rw [if_pos (by first | exact ⟨rfl, hXne⟩ | exact ⟨trivial, hXne⟩), if_neg h48, h]; simp
    have HNE : Hid (X ≠ []) := hXne
    obtain ⟨s, hS⟩ : ∃ s, (tstr T).extract 1 (tstr T).size = s := ⟨_, rfl⟩
    have hsX : s = tstr X := by
      rw [← hS, ext_mid T 1 (tstr T).size, tstr_size, HTX.out]
      congr 1
      rw [List.drop_succ_cons, List.drop_zero, List.length_cons, Nat.add_sub_cancel, List.take_length]
    have hsd : s.data.toList = X := by rw [hsX, tstr_data]
    have hl := size_data s
    have hgd := getD_data s
    rw [hsd] at hl hgd
    have HTL := hid_intro hl
    have HGD := hid_intro hgd
    obtain ⟨hp, hs0⟩ := head_get (s := s) (by rw [hsd]; exact hX)
    obtain ⟨hpT, hT0⟩ := head_get (s := tstr T) (c := 45) (r := X) (by rw [tstr_data]; exact HTX.out)
    have hsz : (tstr T).size = s.size + 1 := by rw [tstr_size, HTX.out, List.length_cons, hl]
    have q1 : (1 : Int) < ((tstr T).size : Int) := by omega
    have q2 : ((((tstr T)[0]'hpT).toNat : Int) == 45) = true := by rw [hT0]; rfl
    have q3 : (0 : Int) < ((tstr T).size : Int) := by omega
    have q4 : (1 : Int) ≤ ((tstr T).size : Int) := by omega
    have gp : (0 : Int) < (s.size : Int) := by omega
    have k4 : (((s[0]'hp).toNat : Int) == 48) = decide (c = 48) := by
      rw [hs0, Bool.eq_iff_iff]
      simp
      constructor
      · intro h; have : c.toNat = 48 := by omega
        exact UInt8.toNat_inj.1 (by rw [this]; rfl)
      · intro h; rw [h]; rfl
    have g0 : ((s.size : Int) == 0) = false := by rw [beq_eq_false_iff_ne]; omega
    have hsz2 : s.size ≤ 140737488355328 := by rw [tstr_size] at hsz; omega
    clear hl hgd hT hsd hT0 hsz hs0 hXne hsX
    generalize tstr T = sT at *
    by_cases h48 : c = 48
    · have HR : Hid (nmb T = none) := HNO0.out (by rw [hX, h48]; rfl)
      rw [decide_eq_true h48] at k4
      clear h48 hX
      go_enter Tryz.func37, Tryz.ntmps37
      go_wp2
      go_ret2
      exact ⟨NumP.no HR.out _, rfl⟩
    · rw [decide_eq_false h48] at k4
      have HYE := hid_intro (HYE0.out (by rw [hX]; simp [h48]))
      have HH48 : Hid (X.head? = some 48 → X = [48]) := nb_head hX (fun h => h48 h.2)
      clear h48 hX
      by_cases h10 : 10 < s.size
      · have g1 : (10 : Int) < (s.size : Int) := by omega
        have HR : Hid (nmb T = none) := HNO.out (nb_longS (by have := HTL.out; omega))
        go_enter Tryz.func37, Tryz.ntmps37
        go_wp2
        go_ret2
        exact ⟨NumP.no HR.out _, rfl⟩
      · have g1 : ¬ (10 : Int) < (s.size : Int) := by omega
        by_cases h1 : 1 < s.size
        · have g2 : (1 : Int) < (s.size : Int) := by omega
          go_enter Tryz.func37, Tryz.ntmps37
          go_wp2
          go_loopw [5, 6] (fun sn si wr => ∃ i : Nat, i ≤ s.size ∧ si = .int .i64 (i : Nat) ∧ sn = .int .i64 (val 0 (X.take i) : Nat) ∧ (X.take i).all dig = true ∧ wr = w) (fun _ si _ => s.size - (intOf si).toNat)
          case atStart => exact ⟨0, Nat.zero_le _, rfl, rfl, rfl, rfl⟩
          case round =>
            obtain ⟨i, hi', rfl, rfl, hall, hwr⟩ := hrel
            subst hwr
            have HAL := hid_intro hall
            have hv1 : val 0 (X.take i) < 10 ^ 10 := Nat.lt_of_lt_of_le (val_ltS hall) (Nat.pow_le_pow_right (by omega) (by rw [List.length_take]; have := HTL.out; omega))
            clear hall
            by_cases hlt : i < s.size
            · have HTK := hid_intro (take_snocU (T := X) (i := i) (by have := HTL.out; omega))
              have hgp := HGD.out i hlt
              rw [hgp] at HTK
              have gi1 : (i : Int) < (s.size : Int) := by omega
              have gi3 : (0 : Int) ≤ (i : Int) := by omega
              cases hd : dig (s[i]'hlt) with
              | false =>
                have HR : Hid (nmb T = none) := HNO.out (nb_no_dig (T := X) (i := i) (by have := HTL.out; omega) (by rw [hgp]; exact hd))
                have hdg : ¬ (48 ≤ (s[i]'hlt).toNat ∧ (s[i]'hlt).toNat ≤ 57) := by simpa [dig] using hd
                clear hd hgp
                generalize hc : (s[i]'hlt).toNat = cn at *
                by_cases hc1 : cn < 48
                · have e1 : (cn : Int) < 48 := by omega
                  go_wp2
                  go_ret2
                  exact ⟨NumP.no HR.out _, rfl⟩
                · have e1 : ¬ (cn : Int) < 48 := by omega
                  have e2 : (57 : Int) < (cn : Int) := by omega
                  go_wp2
                  go_ret2
                  exact ⟨NumP.no HR.out _, rfl⟩
              | true =>
                have hdg : 48 ≤ (s[i]'hlt).toNat ∧ (s[i]'hlt).toNat ≤ 57 := by simpa [dig] using hd
                have HV : Hid (val 0 (X.take (i + 1)) = 10 * val 0 (X.take i) + ((s[i]'hlt).toNat - 48)) := by show _ = _; rw [HTK.out, val_snoc]
                have HAL2 : Hid ((X.take (i + 1)).all dig = true) := by
                  show _ = _
                  rw [HTK.out, List.all_append, HAL.out]
                  simp [hd]
                clear hd hgp HTK
                generalize hc : (s[i]'hlt).toNat = cn at *
                generalize hvv : val 0 (X.take i) = vn at *
                have e1 : ¬ (cn : Int) < 48 := by omega
                have e2 : ¬ (57 : Int) < (cn : Int) := by omega
                have e3 : IntKind.u8.wrap ((cn : Int) - 48) = (cn : Int) - 48 := by rw [IntKind.wrap_u8]; omega
                have e4 : IntKind.i64.wrap ((cn : Int) - 48) = (cn : Int) - 48 := wrap_small _ (by omega) (by omega)
                have e5 : IntKind.i64.wrap (10 * (vn : Int)) = 10 * (vn : Int) := wrap_small _ (by omega) (by omega)
                have e6 : IntKind.i64.wrap (10 * (vn : Int) + ((cn : Int) - 48)) = 10 * (vn : Int) + ((cn : Int) - 48) := wrap_small _ (by omega) (by omega)
                go_wp2
                go_roundw
                case rel => exact ⟨i + 1, by omega, by go_num, by rw [HV.out]; congr 1; omega, HAL2.out, trivial⟩
                case measure => simp [intOf]; omega
            · obtain rfl : i = s.size := by omega
              have e : X.take s.size = X := by rw [← HTL.out, List.take_length]
              rw [e] at HAL hv1
              rw [e]
              clear e
              obtain ⟨vn, hvn⟩ : ∃ vn, val 0 X = vn := ⟨_, rfl⟩
              rw [hvn] at hv1 ⊢
              have HVN := hid_intro hvn
              clear hvn
              have hv2 : (vn : Int) ≤ 9999999999 := by omega
              have hv3 : (0 : Int) ≤ (vn : Int) := by omega
              have m1 : IntKind.i64.wrap ((-1 : Int) * (vn : Int)) = (-1 : Int) * (vn : Int) := by first | exact wrap_small _ (by omega) (by omega) | exact wrap_neg _ (by omega) (by omega)
              have m2 : IntKind.i64.wrap (vn : Int) = (vn : Int) := wrap_small _ (by omega) (by omega)
              have m3 : IntKind.i64.wrap (-(vn : Int)) = -(vn : Int) := wrap_neg _ (by omega) (by omega)
              clear hv2 hv3
              by_cases hbig : 2147483647 < vn
              · have HR : Hid (nmb T = none) := HNO.out (nb_great (i := X.length) (by rw [List.take_length, HVN.out]; exact hbig))
                have e1 : ¬ (vn : Int) ≤ 2147483647 := by omega
                have e2 : decide ((vn : Int) ≤ 2147483647) = false := decide_eq_false e1
                have e3 : decide (vn ≤ 2147483647) = false := decide_eq_false (by omega)
                go_wp2
                go_ret2
                exact ⟨NumP.no HR.out _, rfl⟩
              · have HR : Hid (nmb T = some ((-1 : Int) * (vn : Int))) := HYE.out vn (by rw [nb_yes HNE.out HH48.out HAL.out (by rw [HVN.out]; omega), HVN.out])
                have e1 : (vn : Int) ≤ 2147483647 := by omega
                have e2 : decide ((vn : Int) ≤ 2147483647) = true := decide_eq_true e1
                have e3 : decide (vn ≤ 2147483647) = true := decide_eq_true (by omega)
                go_wp2
                go_ret2
                exact ⟨NumP.yes HR.out (by omega), rfl⟩
        · have g2 : ¬ (1 : Int) < (s.size : Int) := by omega
          go_enter Tryz.func37, Tryz.ntmps37
          go_wp2
          go_loopw [5, 6] (fun sn si wr => ∃ i : Nat, i ≤ s.size ∧ si = .int .i64 (i : Nat) ∧ sn = .int .i64 (val 0 (X.take i) : Nat) ∧ (X.take i).all dig = true ∧ wr = w) (fun _ si _ => s.size - (intOf si).toNat)
          case atStart => exact ⟨0, Nat.zero_le _, rfl, rfl, rfl, rfl⟩
          case round =>
            obtain ⟨i, hi', rfl, rfl, hall, hwr⟩ := hrel
            subst hwr
            have HAL := hid_intro hall
            have hv1 : val 0 (X.take i) < 10 ^ 10 := Nat.lt_of_lt_of_le (val_ltS hall) (Nat.pow_le_pow_right (by omega) (by rw [List.length_take]; have := HTL.out; omega))
            clear hall
            by_cases hlt : i < s.size
            · have HTK := hid_intro (take_snocU (T := X) (i := i) (by have := HTL.out; omega))
              have hgp := HGD.out i hlt
              rw [hgp] at HTK
              have gi1 : (i : Int) < (s.size : Int) := by omega
              have gi3 : (0 : Int) ≤ (i : Int) := by omega
              cases hd : dig (s[i]'hlt) with
              | false =>
                have HR : Hid (nmb T = none) := HNO.out (nb_no_dig (T := X) (i := i) (by have := HTL.out; omega) (by rw [hgp]; exact hd))
                have hdg : ¬ (48 ≤ (s[i]'hlt).toNat ∧ (s[i]'hlt).toNat ≤ 57) := by simpa [dig] using hd
                clear hd hgp
                generalize hc : (s[i]'hlt).toNat = cn at *
                by_cases hc1 : cn < 48
                · have e1 : (cn : Int) < 48 := by omega
                  go_wp2
                  go_ret2
                  exact ⟨NumP.no HR.out _, rfl⟩
                · have e1 : ¬ (cn : Int) < 48 := by omega
                  have e2 : (57 : Int) < (cn : Int) := by omega
                  go_wp2
                  go_ret2
                  exact ⟨NumP.no HR.out _, rfl⟩
              | true =>
                have hdg : 48 ≤ (s[i]'hlt).toNat ∧ (s[i]'hlt).toNat ≤ 57 := by simpa [dig] using hd
                have HV : Hid (val 0 (X.take (i + 1)) = 10 * val 0 (X.take i) + ((s[i]'hlt).toNat - 48)) := by show _ = _; rw [HTK.out, val_snoc]
                have HAL2 : Hid ((X.take (i + 1)).all dig = true) := by
                  show _ = _
                  rw [HTK.out, List.all_append, HAL.out]
                  simp [hd]
                clear hd hgp HTK
                generalize hc : (s[i]'hlt).toNat = cn at *
                generalize hvv : val 0 (X.take i) = vn at *
                have e1 : ¬ (cn : Int) < 48 := by omega
                have e2 : ¬ (57 : Int) < (cn : Int) := by omega
                have e3 : IntKind.u8.wrap ((cn : Int) - 48) = (cn : Int) - 48 := by rw [IntKind.wrap_u8]; omega
                have e4 : IntKind.i64.wrap ((cn : Int) - 48) = (cn : Int) - 48 := wrap_small _ (by omega) (by omega)
                have e5 : IntKind.i64.wrap (10 * (vn : Int)) = 10 * (vn : Int) := wrap_small _ (by omega) (by omega)
                have e6 : IntKind.i64.wrap (10 * (vn : Int) + ((cn : Int) - 48)) = 10 * (vn : Int) + ((cn : Int) - 48) := wrap_small _ (by omega) (by omega)
                go_wp2
                go_roundw
                case rel => exact ⟨i + 1, by omega, by go_num, by rw [HV.out]; congr 1; omega, HAL2.out, trivial⟩
                case measure => simp [intOf]; omega
            · obtain rfl : i = s.size := by omega
              have e : X.take s.size = X := by rw [← HTL.out, List.take_length]
              rw [e] at HAL hv1
              rw [e]
              clear e
              obtain ⟨vn, hvn⟩ : ∃ vn, val 0 X = vn := ⟨_, rfl⟩
              rw [hvn] at hv1 ⊢
              have HVN := hid_intro hvn
              clear hvn
              have hv2 : (vn : Int) ≤ 9999999999 := by omega
              have hv3 : (0 : Int) ≤ (vn : Int) := by omega
              have m1 : IntKind.i64.wrap ((-1 : Int) * (vn : Int)) = (-1 : Int) * (vn : Int) := by first | exact wrap_small _ (by omega) (by omega) | exact wrap_neg _ (by omega) (by omega)
              have m2 : IntKind.i64.wrap (vn : Int) = (vn : Int) := wrap_small _ (by omega) (by omega)
              have m3 : IntKind.i64.wrap (-(vn : Int)) = -(vn : Int) := wrap_neg _ (by omega) (by omega)
              clear hv2 hv3
              by_cases hbig : 2147483647 < vn
              · have HR : Hid (nmb T = none) := HNO.out (nb_great (i := X.length) (by rw [List.take_length, HVN.out]; exact hbig))
                have e1 : ¬ (vn : Int) ≤ 2147483647 := by omega
                have e2 : decide ((vn : Int) ≤ 2147483647) = false := decide_eq_false e1
                have e3 : decide (vn ≤ 2147483647) = false := decide_eq_false (by omega)
                go_wp2
                go_ret2
                exact ⟨NumP.no HR.out _, rfl⟩
              · have HR : Hid (nmb T = some ((-1 : Int) * (vn : Int))) := HYE.out vn (by rw [nb_yes HNE.out HH48.out HAL.out (by rw [HVN.out]; omega), HVN.out])
                have e1 : (vn : Int) ≤ 2147483647 := by omega
                have e2 : decide ((vn : Int) ≤ 2147483647) = true := decide_eq_true e1
                have e3 : decide (vn ≤ 2147483647) = true := decide_eq_true (by omega)
                go_wp2
                go_ret2
                exact ⟨NumP.yes HR.out (by omega), rfl⟩
  · obtain ⟨X, hX⟩ : ∃ X, X = T := ⟨_, rfl⟩
    have HNO : Hid (nb X = none → nmb T = none) := fun h => by
      rw [HNR.out]
      rw [hX] at h
      unfold rnum
      split
      · rename_i c R
        rw [if_neg (fun h => hA (by obtain ⟨rfl, h2⟩ := h; cases R with | nil => exact absurd rfl h2 | cons a b => exact ⟨a, b, rfl⟩)), h]; rfl
      · rfl
    have HYE : Hid (∀ n, nb X = some n → nmb T = some ((1 : Int) * (n : Int))) := fun n h => by
      rw [HNR.out]
      rw [hX] at h
      unfold rnum
      split
      · rename_i c R
        rw [if_neg (fun h => hA (by obtain ⟨rfl, h2⟩ := h; cases R with | nil => exact absurd rfl h2 | cons a b => exact ⟨a, b, rfl⟩)), h]; simp
      · cases h
    obtain ⟨s, hS⟩ : ∃ s, tstr T = s := ⟨_, rfl⟩
    have hsd : s.data.toList = X := by rw [← hS, tstr_data, hX]
    have hl := size_data s
    have hgd := getD_data s
    rw [hsd] at hl hgd
    have HTL := hid_intro hl
    have HGD := hid_intro hgd
    have hsz2 : s.size ≤ 140737488355328 := by rw [← hl, hX]; exact hTl
    rw [hS]
    clear hS
    by_cases h0 : s.size = 0
    · have g0 : ((s.size : Int) == 0) = true := by rw [h0]; rfl
      have g2 : ¬ (1 : Int) < (s.size : Int) := by omega
      have HR : Hid (nmb T = none) := HNO.out (by have : X = [] := List.length_eq_zero_iff.1 (by omega); rw [this]; rfl)
      clear h0 hA hX hl hgd hsd
      go_enter Tryz.func37, Tryz.ntmps37
      go_wp2
      go_ret2
      exact ⟨NumP.no HR.out _, rfl⟩
    · have g0 : ((s.size : Int) == 0) = false := by rw [beq_eq_false_iff_ne]; omega
      obtain ⟨c, R, hXc⟩ : ∃ c R, X = c :: R := by
        cases hh : X with
        | nil => rw [hh] at hl; simp at hl; omega
        | cons a b => exact ⟨a, b, rfl⟩
      have HNE : Hid (X ≠ []) := by show _ ≠ _; rw [hXc]; simp
      obtain ⟨hp, hs0⟩ := head_get (s := s) (by rw [hsd]; exact hXc)
      have gp : (0 : Int) < (s.size : Int) := by omega
      by_cases h1 : 1 < s.size
      · have g2 : (1 : Int) < (s.size : Int) := by omega
        have hc45 : c ≠ 45 := fun e => hA (by
          subst e
          cases R with
          | nil => rw [hXc] at hl; simp at hl; omega
          | cons a b => exact ⟨a, b, by rw [← hX, hXc]⟩)
        have k5 : (((s[0]'hp).toNat : Int) == 45) = false := by
          rw [hs0, beq_eq_false_iff_ne]
          intro h
          exact hc45 (UInt8.toNat_inj.1 (by have : c.toNat = 45 := by omega
                                            rw [this]; rfl))
        have k4 : (((s[0]'hp).toNat : Int) == 48) = decide (c = 48) := by
          rw [hs0, Bool.eq_iff_iff]
          simp
          constructor
          · intro h; have : c.toNat = 48 := by omega
            exact UInt8.toNat_inj.1 (by rw [this]; rfl)
          · intro h; rw [h]; rfl
        have HXC := hid_intro hXc
        clear hA hX hl hgd hsd hs0 hc45 hXc
        by_cases h10 : 10 < s.size
        · have g1 : (10 : Int) < (s.size : Int) := by omega
          have HR : Hid (nmb T = none) := HNO.out (nb_longS (by have := HTL.out; omega))
          clear k4
          go_enter Tryz.func37, Tryz.ntmps37
          go_wp2
          go_ret2
          exact ⟨NumP.no HR.out _, rfl⟩
        · have g1 : ¬ (10 : Int) < (s.size : Int) := by omega
          by_cases h48 : c = 48
          · have HR : Hid (nmb T = none) := HNO.out (nb_zeroS (by have := HTL.out; omega) (by rw [HXC.out, h48]; rfl))
            rw [decide_eq_true h48] at k4
            clear h48
            go_enter Tryz.func37, Tryz.ntmps37
            go_wp2
            go_ret2
            exact ⟨NumP.no HR.out _, rfl⟩
          · rw [decide_eq_false h48] at k4
            have HH48 : Hid (X.head? = some 48 → X = [48]) := nb_head HXC.out (fun h => h48 h.2)
            clear h48
            go_enter Tryz.func37, Tryz.ntmps37
            go_wp2
            go_loopw [5, 6] (fun sn si wr => ∃ i : Nat, i ≤ s.size ∧ si = .int .i64 (i : Nat) ∧ sn = .int .i64 (val 0 (X.take i) : Nat) ∧ (X.take i).all dig = true ∧ wr = w) (fun _ si _ => s.size - (intOf si).toNat)
            case atStart => exact ⟨0, Nat.zero_le _, rfl, rfl, rfl, rfl⟩
            case round =>
              obtain ⟨i, hi', rfl, rfl, hall, hwr⟩ := hrel
              subst hwr
              have HAL := hid_intro hall
              have hv1 : val 0 (X.take i) < 10 ^ 10 := Nat.lt_of_lt_of_le (val_ltS hall) (Nat.pow_le_pow_right (by omega) (by rw [List.length_take]; have := HTL.out; omega))
              clear hall
              by_cases hlt : i < s.size
              · have HTK := hid_intro (take_snocU (T := X) (i := i) (by have := HTL.out; omega))
                have hgp := HGD.out i hlt
                rw [hgp] at HTK
                have gi1 : (i : Int) < (s.size : Int) := by omega
                have gi3 : (0 : Int) ≤ (i : Int) := by omega
                cases hd : dig (s[i]'hlt) with
                | false =>
                  have HR : Hid (nmb T = none) := HNO.out (nb_no_dig (T := X) (i := i) (by have := HTL.out; omega) (by rw [hgp]; exact hd))
                  have hdg : ¬ (48 ≤ (s[i]'hlt).toNat ∧ (s[i]'hlt).toNat ≤ 57) := by simpa [dig] using hd
                  clear hd hgp
                  generalize hc : (s[i]'hlt).toNat = cn at *
                  by_cases hc1 : cn < 48
                  · have e1 : (cn : Int) < 48 := by omega
                    go_wp2
                    go_ret2
                    exact ⟨NumP.no HR.out _, rfl⟩
                  · have e1 : ¬ (cn : Int) < 48 := by omega
                    have e2 : (57 : Int) < (cn : Int) := by omega
                    go_wp2
                    go_ret2
                    exact ⟨NumP.no HR.out _, rfl⟩
                | true =>
                  have hdg : 48 ≤ (s[i]'hlt).toNat ∧ (s[i]'hlt).toNat ≤ 57 := by simpa [dig] using hd
                  have HV : Hid (val 0 (X.take (i + 1)) = 10 * val 0 (X.take i) + ((s[i]'hlt).toNat - 48)) := by show _ = _; rw [HTK.out, val_snoc]
                  have HAL2 : Hid ((X.take (i + 1)).all dig = true) := by
                    show _ = _
                    rw [HTK.out, List.all_append, HAL.out]
                    simp [hd]
                  clear hd hgp HTK
                  generalize hc : (s[i]'hlt).toNat = cn at *
                  generalize hvv : val 0 (X.take i) = vn at *
                  have e1 : ¬ (cn : Int) < 48 := by omega
                  have e2 : ¬ (57 : Int) < (cn : Int) := by omega
                  have e3 : IntKind.u8.wrap ((cn : Int) - 48) = (cn : Int) - 48 := by rw [IntKind.wrap_u8]; omega
                  have e4 : IntKind.i64.wrap ((cn : Int) - 48) = (cn : Int) - 48 := wrap_small _ (by omega) (by omega)
                  have e5 : IntKind.i64.wrap (10 * (vn : Int)) = 10 * (vn : Int) := wrap_small _ (by omega) (by omega)
                  have e6 : IntKind.i64.wrap (10 * (vn : Int) + ((cn : Int) - 48)) = 10 * (vn : Int) + ((cn : Int) - 48) := wrap_small _ (by omega) (by omega)
                  go_wp2
                  go_roundw
                  case rel => exact ⟨i + 1, by omega, by go_num, by rw [HV.out]; congr 1; omega, HAL2.out, trivial⟩
                  case measure => simp [intOf]; omega
              · obtain rfl : i = s.size := by omega
                have e : X.take s.size = X := by rw [← HTL.out, List.take_length]
                rw [e] at HAL hv1
                rw [e]
                clear e
                obtain ⟨vn, hvn⟩ : ∃ vn, val 0 X = vn := ⟨_, rfl⟩
                rw [hvn] at hv1 ⊢
                have HVN := hid_intro hvn
                clear hvn
                have hv2 : (vn : Int) ≤ 9999999999 := by omega
                have hv3 : (0 : Int) ≤ (vn : Int) := by omega
                have m1 : IntKind.i64.wrap ((1 : Int) * (vn : Int)) = (1 : Int) * (vn : Int) := by first | exact wrap_small _ (by omega) (by omega) | exact wrap_neg _ (by omega) (by omega)
                have m2 : IntKind.i64.wrap (vn : Int) = (vn : Int) := wrap_small _ (by omega) (by omega)
                have m3 : IntKind.i64.wrap (-(vn : Int)) = -(vn : Int) := wrap_neg _ (by omega) (by omega)
                clear hv2 hv3
                by_cases hbig : 2147483647 < vn
                · have HR : Hid (nmb T = none) := HNO.out (nb_great (i := X.length) (by rw [List.take_length, HVN.out]; exact hbig))
                  have e1 : ¬ (vn : Int) ≤ 2147483647 := by omega
                  have e2 : decide ((vn : Int) ≤ 2147483647) = false := decide_eq_false e1
                  have e3 : decide (vn ≤ 2147483647) = false := decide_eq_false (by omega)
                  go_wp2
                  go_ret2
                  exact ⟨NumP.no HR.out _, rfl⟩
                · have HR : Hid (nmb T = some ((1 : Int) * (vn : Int))) := HYE.out vn (by rw [nb_yes HNE.out HH48.out HAL.out (by rw [HVN.out]; omega), HVN.out])
                  have e1 : (vn : Int) ≤ 2147483647 := by omega
                  have e2 : decide ((vn : Int) ≤ 2147483647) = true := decide_eq_true e1
                  have e3 : decide (vn ≤ 2147483647) = true := decide_eq_true (by omega)
                  go_wp2
                  go_ret2
                  exact ⟨NumP.yes HR.out (by omega), rfl⟩
      · have g2 : ¬ (1 : Int) < (s.size : Int) := by omega
        have g1 : ¬ (10 : Int) < (s.size : Int) := by omega
        have HH48 : Hid (X.head? = some 48 → X = [48]) := nb_head hXc (fun h => h1 (by omega))
        clear hA hX hl hgd hsd hs0 hXc
        go_enter Tryz.func37, Tryz.ntmps37
        go_wp2
        go_loopw [5, 6] (fun sn si wr => ∃ i : Nat, i ≤ s.size ∧ si = .int .i64 (i : Nat) ∧ sn = .int .i64 (val 0 (X.take i) : Nat) ∧ (X.take i).all dig = true ∧ wr = w) (fun _ si _ => s.size - (intOf si).toNat)
        case atStart => exact ⟨0, Nat.zero_le _, rfl, rfl, rfl, rfl⟩
        case round =>
          obtain ⟨i, hi', rfl, rfl, hall, hwr⟩ := hrel
          subst hwr
          have HAL := hid_intro hall
          have hv1 : val 0 (X.take i) < 10 ^ 10 := Nat.lt_of_lt_of_le (val_ltS hall) (Nat.pow_le_pow_right (by omega) (by rw [List.length_take]; have := HTL.out; omega))
          clear hall
          by_cases hlt : i < s.size
          · have HTK := hid_intro (take_snocU (T := X) (i := i) (by have := HTL.out; omega))
            have hgp := HGD.out i hlt
            rw [hgp] at HTK
            have gi1 : (i : Int) < (s.size : Int) := by omega
            have gi3 : (0 : Int) ≤ (i : Int) := by omega
            cases hd : dig (s[i]'hlt) with
            | false =>
              have HR : Hid (nmb T = none) := HNO.out (nb_no_dig (T := X) (i := i) (by have := HTL.out; omega) (by rw [hgp]; exact hd))
              have hdg : ¬ (48 ≤ (s[i]'hlt).toNat ∧ (s[i]'hlt).toNat ≤ 57) := by simpa [dig] using hd
              clear hd hgp
              generalize hc : (s[i]'hlt).toNat = cn at *
              by_cases hc1 : cn < 48
              · have e1 : (cn : Int) < 48 := by omega
                go_wp2
                go_ret2
                exact ⟨NumP.no HR.out _, rfl⟩
              · have e1 : ¬ (cn : Int) < 48 := by omega
                have e2 : (57 : Int) < (cn : Int) := by omega
                go_wp2
                go_ret2
                exact ⟨NumP.no HR.out _, rfl⟩
            | true =>
              have hdg : 48 ≤ (s[i]'hlt).toNat ∧ (s[i]'hlt).toNat ≤ 57 := by simpa [dig] using hd
              have HV : Hid (val 0 (X.take (i + 1)) = 10 * val 0 (X.take i) + ((s[i]'hlt).toNat - 48)) := by show _ = _; rw [HTK.out, val_snoc]
              have HAL2 : Hid ((X.take (i + 1)).all dig = true) := by
                show _ = _
                rw [HTK.out, List.all_append, HAL.out]
                simp [hd]
              clear hd hgp HTK
              generalize hc : (s[i]'hlt).toNat = cn at *
              generalize hvv : val 0 (X.take i) = vn at *
              have e1 : ¬ (cn : Int) < 48 := by omega
              have e2 : ¬ (57 : Int) < (cn : Int) := by omega
              have e3 : IntKind.u8.wrap ((cn : Int) - 48) = (cn : Int) - 48 := by rw [IntKind.wrap_u8]; omega
              have e4 : IntKind.i64.wrap ((cn : Int) - 48) = (cn : Int) - 48 := wrap_small _ (by omega) (by omega)
              have e5 : IntKind.i64.wrap (10 * (vn : Int)) = 10 * (vn : Int) := wrap_small _ (by omega) (by omega)
              have e6 : IntKind.i64.wrap (10 * (vn : Int) + ((cn : Int) - 48)) = 10 * (vn : Int) + ((cn : Int) - 48) := wrap_small _ (by omega) (by omega)
              go_wp2
              go_roundw
              case rel => exact ⟨i + 1, by omega, by go_num, by rw [HV.out]; congr 1; omega, HAL2.out, trivial⟩
              case measure => simp [intOf]; omega
          · obtain rfl : i = s.size := by omega
            have e : X.take s.size = X := by rw [← HTL.out, List.take_length]
            rw [e] at HAL hv1
            rw [e]
            clear e
            obtain ⟨vn, hvn⟩ : ∃ vn, val 0 X = vn := ⟨_, rfl⟩
            rw [hvn] at hv1 ⊢
            have HVN := hid_intro hvn
            clear hvn
            have hv2 : (vn : Int) ≤ 9999999999 := by omega
            have hv3 : (0 : Int) ≤ (vn : Int) := by omega
            have m1 : IntKind.i64.wrap ((1 : Int) * (vn : Int)) = (1 : Int) * (vn : Int) := by first | exact wrap_small _ (by omega) (by omega) | exact wrap_neg _ (by omega) (by omega)
            have m2 : IntKind.i64.wrap (vn : Int) = (vn : Int) := wrap_small _ (by omega) (by omega)
            have m3 : IntKind.i64.wrap (-(vn : Int)) = -(vn : Int) := wrap_neg _ (by omega) (by omega)
            clear hv2 hv3
            by_cases hbig : 2147483647 < vn
            · have HR : Hid (nmb T = none) := HNO.out (nb_great (i := X.length) (by rw [List.take_length, HVN.out]; exact hbig))
              have e1 : ¬ (vn : Int) ≤ 2147483647 := by omega
              have e2 : decide ((vn : Int) ≤ 2147483647) = false := decide_eq_false e1
              have e3 : decide (vn ≤ 2147483647) = false := decide_eq_false (by omega)
              go_wp2
              go_ret2
              exact ⟨NumP.no HR.out _, rfl⟩
            · have HR : Hid (nmb T = some ((1 : Int) * (vn : Int))) := HYE.out vn (by rw [nb_yes HNE.out HH48.out HAL.out (by rw [HVN.out]; omega), HVN.out])
              have e1 : (vn : Int) ≤ 2147483647 := by omega
              have e2 : decide ((vn : Int) ≤ 2147483647) = true := decide_eq_true e1
              have e3 : decide (vn ≤ 2147483647) = true := decide_eq_true (by omega)
              go_wp2
              go_ret2
              exact ⟨NumP.yes HR.out (by omega), rfl⟩
end Go.Proofs.YtdoclmmghdaaaaaGreatDoor

namespace Go.Proofs.YtdoclmmghdaaaaaGreatDoor
open Go.RowKit

def fld22 : List (List UInt8) := (stT.drop 1).map (·.2)
theorem fld22_len : fld22.length = 22 := rfl
set_option maxHeartbeats 4000000 in
set_option maxRecDepth 100000 in
theorem refFields23_any (k : Nat) (h0 : 1 ≤ k) (h1 : k ≤ 22) (w : World) : Calls Tryz.prog 40 #[.int .i64 (k : Nat)] w fun en w' => en = .returned (.string (tstr (fds (k : Nat)))) ∧ w.grownBy w' none := by
  have HW : Hid (∀ i : Nat, i < 22 → fds ((i : Int) + 1) = fld22.getD i []) := fun i hi => by
    have : ∀ i : Fin 22, fds ((i.1 : Int) + 1) = fld22.getD i.1 [] := by decide
    exact this ⟨i, hi⟩
  have HC : Hid (∀ (W : World) (i : Nat), i < 22 → (W.alloc (.cells (fld22.map fun T => Value.string (tstr T)).toArray 9)).cell? ⟨W.heap.size, i, none⟩ = some (.string (tstr (fld22.getD i [])))) := fun W i hi => by
    apply cell_heapS (heap_at0S W _ _)
    have hl : i < fld22.length := by rw [fld22_len]; exact hi
    simp [List.getD, List.getElem?_eq_getElem hl]
  have G1 := hid_intro (World.grownBy_alloc w (.cells (fld22.map fun T => Value.string (tstr T)).toArray 9) none)
  obtain ⟨i, hki⟩ : ∃ i : Nat, k = i + 1 := ⟨k - 1, by omega⟩
  have hi : i < 22 := by omega
  have hke : (k : Int) = (i : Int) + 1 := by omega
  rw [hke, HW.out i hi]
  have c0 := HC.out w i hi
  have hiz : (i : Int) < 22 := by omega
  have hiz0 : (0 : Int) ≤ (i : Int) := by omega
  have hsub : (i : Int) + 1 - 1 = (i : Int) := by omega
  have hww : IntKind.i64.wrap ((i : Int) + 1 - 1) = (i : Int) := by rw [hsub]; exact wrap_small _ (by omega) (by omega)
  clear HW HC hki hke h0 h1
  go_enter Tryz.func40, Tryz.ntmps40
  have heq : (fld22.map fun T => Value.string (tstr T)).toArray = #[.string ⟨#[]⟩, .string ⟨#[65]⟩, .string ⟨#[75, 86]⟩, .string ⟨#[75]⟩, .string ⟨#[75]⟩, .string ⟨#[75, 72, 65]⟩, .string ⟨#[]⟩, .string ⟨#[]⟩, .string ⟨#[]⟩, .string ⟨#[65, 75]⟩, .string ⟨#[65, 75, 72, 66]⟩, .string ⟨#[65, 66]⟩, .string ⟨#[65, 75]⟩, .string ⟨#[65]⟩, .string ⟨#[65]⟩, .string ⟨#[70]⟩, .string ⟨#[65, 66, 67]⟩, .string ⟨#[]⟩, .string ⟨#[65, 66]⟩, .string ⟨#[]⟩, .string ⟨#[]⟩, .string ⟨#[65]⟩] := rfl
  rw [heq] at c0 G1
  clear heq
  go_wp2
  go_ret
  exact ⟨rfl, G1.out⟩
/-- nmE by what the document's number says. -/
theorem nme_some {T : List UInt8} {n : Int} (h : nmb T = some n) : nmE T = .ok n := by unfold nmE; rw [h]
theorem nme_none {T : List UInt8} (h : nmb T = none) : nmE T = .error 232 := by unfold nmE; rw [h]
theorem num_split {T : List UInt8} {en : Ending} (h : NumP T en) : (∃ n, nmE T = .ok n ∧ en = .returned (.tuple #[.int .i64 n, .bool true])) ∨ (nmE T = .error 232 ∧ ∃ z, en = .returned (.tuple #[.int .i64 z, .bool false])) := by
  obtain ⟨z, b, rfl, h1, h2⟩ := h
  cases hn : nmb T with
  | some n =>
    obtain ⟨rfl, rfl⟩ := h1 n hn
    exact .inl ⟨z, nme_some hn, rfl⟩
  | none =>
    obtain rfl := h2 hn
    exact .inr ⟨nme_none hn, z, rfl⟩
set_option maxHeartbeats 4000000 in
set_option maxRecDepth 100000 in
theorem refFate23 (T : List UInt8) (w : World) (hne : T ≠ []) (hT : T.length ≤ 2000000000) : Calls Tryz.prog 39 #[.string (tstr T)] w fun en w' => FtP w (fte T) en w' := by
  have htl := tstr_toList T
  have G1 := hid_intro (World.grownBy_alloc w (.cells #[.int .i64 0, .int .i64 0] 51) none)
  have x1 := heap_at0S w #[.int .i64 0, .int .i64 0] 51
  have X1 := hid_intro x1
  by_cases h1 : T = [108]
  · subst h1
    have : tstr [108] = ⟨#[108]⟩ := rfl
    rw [this]
    clear htl this
    go_enter Tryz.func39, Tryz.ntmps39
    go_wp2
    refine bodyPost_ret (results_fate rfl _ _ w.heap.size _ _ rfl X1.out) rfl ?_
    exact ⟨G1.out, .inl ⟨0, 0, rfl, rfl⟩⟩
  · by_cases h2 : T = [107]
    · subst h2
      have : tstr [107] = ⟨#[107]⟩ := rfl
      rw [this]
      have d0 := cell_heapS (i := 0) x1 rfl
      have d1 := cell_heapS (i := 1) x1 rfl
      have z0 := frozen_of_row _ w.heap.size 0 _ _ x1
      have z1 := frozen_of_row _ w.heap.size 1 _ _ x1
      clear htl this x1
      go_enter Tryz.func39, Tryz.ntmps39
      go_wp2
      refine bodyPost_ret (results_fate rfl _ _ w.heap.size _ _ rfl (heap_at0S _ _ _)) rfl ?_
      exact ⟨World.grownBy_alloc _ _ _, .inl ⟨1, 0, rfl, rfl⟩⟩
    · have n1 : ((tstr T).toList == [108]) = false := by rw [htl, beq_eq_false_iff_ne]; exact h1
      have n2 : ((tstr T).toList == [107]) = false := by rw [htl, beq_eq_false_iff_ne]; exact h2
      have HF : Hid (fte T = if Lib.hasPrefix T [116] = true then (nmE (T.drop 1)).map fun n => (2, n) else .error 231) := by show _ = _; unfold fte; rw [if_neg h1, if_neg h2]
      obtain ⟨c, R, hc⟩ : ∃ c R, T = c :: R := by cases T with | nil => exact absurd rfl hne | cons a b => exact ⟨a, b, rfl⟩
      obtain ⟨hp, hs0⟩ := head_get (s := tstr T) (c := c) (r := R) (by rw [tstr_data]; exact hc)
      have gp : (0 : Int) < ((tstr T).size : Int) := by omega
      have gq : (1 : Int) ≤ ((tstr T).size : Int) := by omega
      have hpr : Lib.hasPrefix T [116] = true ↔ c = 116 := by rw [hc]; simp [Lib.hasPrefix]; exact ⟨Eq.symm, Eq.symm⟩
      have k4 : (((tstr T)[0]'hp).toNat == 116) = decide (c = 116) := by
        rw [hs0, Bool.eq_iff_iff]
        simp
        constructor
        · intro h; exact UInt8.toNat_inj.1 (by rw [h]; rfl)
        · intro h; rw [h]; rfl
      have k5 : ((((tstr T)[0]'hp).toNat : Int) == 116) = decide (c = 116) := by
        rw [← k4, Bool.eq_iff_iff]
        simp
        omega
      clear htl h1 h2 hs0 hne
      by_cases h116 : c = 116
      · rw [decide_eq_true h116] at k4 k5
        rw [if_pos (hpr.2 h116)] at HF
        have HN := hid_intro (fun W => refNumber23 (T.drop 1) W (by rw [List.length_drop]; omega))
        have hS : (tstr T).extract 1 (tstr T).size = tstr (T.drop 1) := by
          rw [ext_mid T 1 (tstr T).size, tstr_size]
          congr 1
          rw [← List.length_drop, List.take_length]
        clear hpr hc hT x1 h116 k4
        obtain ⟨D, hD⟩ : ∃ D, T.drop 1 = D := ⟨_, rfl⟩
        rw [hD] at HF HN hS
        clear hD
        generalize tstr D = sd at *
        generalize fte T = FT at *
        generalize tstr T = s at *
        go_enter Tryz.func39, Tryz.ntmps39
        go_wp2_with fail
        refine (HN.out _).mono ?_
        rintro en w3 ⟨hn, hw3⟩
        rw [hw3]
        clear hw3
        have d0 := cell_heapS (i := 0) X1.out rfl
        have d1 := cell_heapS (i := 1) X1.out rfl
        have z0 := frozen_of_row _ w.heap.size 0 _ _ X1.out
        have z1 := frozen_of_row _ w.heap.size 1 _ _ X1.out
        rcases num_split hn with ⟨n, e1, rfl⟩ | ⟨e1, z, rfl⟩
        · rw [e1] at HF
          clear hn e1
          go_wp2
          refine bodyPost_ret (results_fate rfl _ _ w.heap.size _ _ rfl (by first | exact (box2_put X1.out (.int .i64 2) (.int .i64 n)).1 | exact heap_at0S _ _ _)) rfl ?_
          exact ⟨by first | exact World.grownBy_alloc _ _ _ | exact grown_new G1.out (box2_put X1.out (.int .i64 2) (.int .i64 n)).2 (Nat.le_refl _), .inl ⟨2, n, HF.out, rfl⟩⟩
        · rw [e1] at HF
          clear hn e1
          go_wp2
          refine bodyPost_ret (results_fate rfl _ _ w.heap.size _ _ rfl (by first | exact X1.out | exact (box2_put X1.out (.int .i64 0) (.int .i64 0)).1)) rfl ?_
          exact ⟨by first | exact G1.out | exact grown_new G1.out (box2_put X1.out (.int .i64 0) (.int .i64 0)).2 (Nat.le_refl _), .inr ⟨232, HF.out, by decide, rfl⟩⟩
      · rw [decide_eq_false h116] at k4 k5
        rw [if_neg (fun h => h116 (hpr.1 h))] at HF
        clear hpr hc hT x1 h116 k4
        generalize fte T = FT at *
        generalize tstr T = s at *
        go_enter Tryz.func39, Tryz.ntmps39
        go_wp2
        refine bodyPost_ret (results_fate rfl _ _ w.heap.size _ _ rfl X1.out) rfl ?_
        exact ⟨G1.out, .inr ⟨231, HF.out, by decide, rfl⟩⟩
/-- What the document's head answers. -/
def HdP (r : Except Int Int) (en : Ending) : Prop := (∃ n, r = .ok n ∧ en = .returned (.tuple #[.int .i64 n, .int .i64 0])) ∨ ∃ e, r = .error e ∧ e ≠ 0 ∧ en = .returned (.tuple #[.int .i64 0, .int .i64 e])
set_option maxHeartbeats 4000000 in
set_option maxRecDepth 100000 in
theorem refHead23 (T0 : List UInt8) (lw : List (List UInt8)) (g m c : Nat) (w : World) (hW : Wsl w g 0 (T0 :: lw)) (hn : lw.length = m) (hn2 : m ≤ 2000000) (hT : ∀ T ∈ T0 :: lw, T.length ≤ 2000000000) :
    Calls Tryz.prog 21 #[.slice (some ⟨g, 0, none⟩) (m + 1) c] w fun en w' => HdP (tkf (T0 :: lw)) en ∧ w' = w := by
  have c0 : w.cell? ⟨g, 0, none⟩ = some (.string (tstr T0)) := hW 0 T0 rfl
  have htl := tstr_toList T0
  have hst : tkf (T0 :: lw) = if T0 ≠ ttw then .error 230 else if m + 1 ≠ 2 then .error 233 else nmE ((T0 :: lw).getD 1 []) := by
    unfold tkf
    rw [List.length_cons, hn]
    rfl
  have HS := hid_intro hst
  clear hst
  generalize tkf (T0 :: lw) = Rz at *
  by_cases h0 : T0 = ttw
  · by_cases h2 : m = 1
    · subst h2
      obtain ⟨T1, rfl⟩ : ∃ T1, lw = [T1] := by
        cases lw with
        | nil => simp at hn
        | cons x y => cases y with
          | nil => exact ⟨x, rfl⟩
          | cons _ _ => simp at hn
      have c1 : w.cell? ⟨g, 1, none⟩ = some (.string (tstr T1)) := hW 1 T1 rfl
      have HS2 : Hid (Rz = nmE T1) := by show _ = _; rw [HS.out, if_neg (by simp [h0]), if_neg (by simp)]; rfl
      have HN := hid_intro (fun W => refNumber23 T1 W (by have := hT T1 (by simp); omega))
      have b0 : ((tstr T0).toList == [99, 111, 112, 112, 105, 99, 101]) = true := by rw [htl, h0]; rfl
      clear hW hn hT HS htl h0
      generalize tstr T0 = s0 at *
      generalize tstr T1 = s1 at *
      go_enter Tryz.func21, Tryz.ntmps21
      go_wp2_with fail
      refine (HN.out _).mono ?_
      rintro en w3 ⟨hn3, hw3⟩
      rw [hw3]
      clear hw3
      rcases num_split hn3 with ⟨n, e1, rfl⟩ | ⟨e1, z, rfl⟩
      · rw [e1] at HS2
        clear hn3 e1
        go_wp2
        go_ret2
        exact ⟨.inl ⟨n, HS2.out, rfl⟩, rfl⟩
      · rw [e1] at HS2
        clear hn3 e1
        go_wp2
        go_ret2
        exact ⟨.inr ⟨232, HS2.out, by decide, rfl⟩, rfl⟩
    · have HS2 : Hid (Rz = .error 233) := by show _ = _; rw [HS.out, if_neg (by simp [h0]), if_pos (by omega)]
      have b0 : ((tstr T0).toList == [99, 111, 112, 112, 105, 99, 101]) = true := by rw [htl, h0]; rfl
      have b1 : (((m : Int) + 1) == 2) = false := by rw [beq_eq_false_iff_ne]; omega
      clear hW hn hT HS htl h0
      generalize tstr T0 = s0 at *
      go_enter Tryz.func21, Tryz.ntmps21
      go_wp2
      go_ret2
      exact ⟨.inr ⟨233, HS2.out, by decide, rfl⟩, rfl⟩
  · have HS2 : Hid (Rz = .error 230) := by show _ = _; rw [HS.out, if_pos h0]
    have b0 : ((tstr T0).toList == [99, 111, 112, 112, 105, 99, 101]) = false := by rw [htl, beq_eq_false_iff_ne]; exact h0
    clear hW hn hT HS htl h0
    generalize tstr T0 = s0 at *
    go_enter Tryz.func21, Tryz.ntmps21
    go_wp2
    go_ret2
    exact ⟨.inr ⟨230, HS2.out, by decide, rfl⟩, rfl⟩
end Go.Proofs.YtdoclmmghdaaaaaGreatDoor
