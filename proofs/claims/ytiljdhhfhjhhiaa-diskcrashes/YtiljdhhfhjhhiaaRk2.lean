import Derived.Test.YtiljdhhfhjhhiaaRk1
import Derived.Maps.AppendAt
namespace Go.Proofs.Ytiljdhhfhjhhiaa
open Go.RowKit Go.MuLone

theorem rarm_b {w : World} {B : Nat} {F : Nat → Prop} {d : Dd} (hk : Rk w B F d) (k : Int) : Calls Try.prog 38 #[.pointer (some ⟨B, 0, none⟩), .int .i64 k] w fun e w' => e = .returned (.int .i64 (d.abs.arm k)) ∧ Rk w' B F (d.armed k) ∧ w.grownBy w' (some B) := by
  have c3 := hk.bx.c3
  have c4 := hk.bx.c4
  have f4 := hk.bx.fz 4
  have HK := hid_intro hk
  clear hk
  unfold Dd.armed Ds.arm
  by_cases h1 : k < 0
  · rw [if_pos h1, if_pos h1]
    go_enter Try.func38, Try.ntmps38
    go_wp2
    go_ret
    exact ⟨rfl, HK.out, World.grownBy.refl _ _⟩
  · rw [if_neg h1, if_neg h1]
    by_cases h2 : d.off = true
    · rw [if_pos h2, show d.abs.off = true from h2, if_pos rfl]
      rw [h2] at c3
      go_enter Try.func38, Try.ntmps38
      go_wp2
      go_ret
      exact ⟨rfl, HK.out, World.grownBy.refl _ _⟩
    · have h3 : d.off = false := by simpa using h2
      rw [if_neg h2, show d.abs.off = false from h3, if_neg (by simp)]
      rw [h3] at c3
      obtain ⟨n, rfl⟩ : ∃ n : Nat, k = n := ⟨k.toNat, by omega⟩
      go_enter Try.func38, Try.ntmps38
      go_wp2
      go_ret
      have gs := grown_cell w B 4 (.int .i64 (n : Int))
      refine ⟨rfl, ⟨HK.out.bx.set 4 _ _ ?_, (HK.out.dm.box HK.out.bx gs).scal rfl rfl rfl rfl (Nat.le_refl _), HK.out.fb, HK.out.cap, HK.out.le⟩, gs⟩
      unfold rcell
      simp [h3]

theorem dat_of {l : List (Nat × Nat × List Int)} {i k : Nat} {p : Nat × Nat × List Int} (h : l[k]? = some p) (hp : p.1 = i) (hn : ∀ j q, k < j → l[j]? = some q → ¬ q.1 = i) : dat l i = some p := by
  have hk := (List.getElem?_eq_some_iff.1 h).1
  have e : l = l.take k ++ p :: l.drop (k + 1) := by
    rw [← (List.getElem?_eq_some_iff.1 h).2, ← List.drop_eq_getElem_cons hk, List.take_append_drop]
  unfold dat
  rw [e, List.reverse_append, List.reverse_cons, List.append_assoc, List.find?_append]
  have hf : (l.drop (k + 1)).reverse.find? (fun q => q.1 == i) = none := by
    rw [List.find?_eq_none]
    intro q hq hqi
    obtain ⟨j, hj⟩ := List.mem_iff_getElem?.1 (List.mem_reverse.1 hq)
    rw [List.getElem?_drop] at hj
    exact hn (k + 1 + j) q (by omega) hj (by simpa using hqi)
  rw [hf]
  simp [hp]
theorem dat_no {l : List (Nat × Nat × List Int)} {i : Nat} (hn : ∀ (j : Nat) (q : Nat × Nat × List Int), l[j]? = some q → ¬ q.1 = i) : dat l i = none := by
  unfold dat
  rw [List.find?_eq_none]
  intro q hq hqi
  obtain ⟨j, hj⟩ := List.mem_iff_getElem?.1 (List.mem_reverse.1 hq)
  exact hn j q hj (by simpa using hqi)

set_option maxHeartbeats 2000000 in
theorem rread_no {w : World} {B : Nat} {F : Nat → Prop} {d : Dd} (hk : Rk w B F d) (hd : d.done < 1099511627776) (i : Int) (hi : i < 0 ∨ (pgs d.bl.length d.pl : Int) ≤ i) : Calls Try.prog 34 #[.pointer (some ⟨B, 0, none⟩), .int .i64 i] w fun e w' => e = .returned (.tuple #[.slice none 0 0, .int .i64 121]) ∧ w' = w := by
  by_cases h0 : i < 0
  · go_enter Try.func34, Try.ntmps34
    go_wp2
    go_ret2
    exact ⟨rfl, rfl⟩
  · have h1 : (pgs d.bl.length d.pl : Int) ≤ i := by omega
    go_enter Try.func34, Try.ntmps34
    go_wp2_with fail
    refine (rpages_b hk hd).mono ?_
    rintro e w1 ⟨rfl, rfl⟩
    go_wp2
    go_ret2
    exact ⟨rfl, rfl⟩
set_option maxHeartbeats 2000000 in
theorem rread_off {w : World} {B : Nat} {F : Nat → Prop} {d : Dd} (hk : Rk w B F d) (hd : d.done < 1099511627776) (i : Nat) (hi : i < pgs d.bl.length d.pl) (ho : d.off = true) : Calls Try.prog 34 #[.pointer (some ⟨B, 0, none⟩), .int .i64 i] w fun e w' => e = .returned (.tuple #[.slice none 0 0, .int .i64 123]) ∧ w' = w := by
  have h1 : (i : Int) < (pgs d.bl.length d.pl : Int) := by omega
  have c3 := hk.bx.c3
  rw [ho] at c3
  go_enter Try.func34, Try.ntmps34
  go_wp2_with fail
  refine (rpages_b hk hd).mono ?_
  rintro e w1 ⟨rfl, rfl⟩
  go_wp2
  go_ret2
  exact ⟨rfl, rfl⟩

theorem Rk.read12 {w : World} {B : Nat} {F : Nat → Prop} {d : Dd} (h : Rk w B F d) : Rk (w.setCell ⟨B, 6, none⟩ (.int .i64 ((d.reads : Int) + 1))) B F { d with reads := d.reads + 1 } :=
  ⟨h.bx.set 6 _ _ (by unfold rcell; simp), (h.dm.box h.bx (grown_cell w B 6 _)).scal rfl rfl rfl rfl (Nat.le_refl _), h.fb, h.cap, h.le⟩

set_option maxHeartbeats 4000000 in
set_option maxRecDepth 4000 in
theorem rread_ok {w : World} {B : Nat} {F : Nat → Prop} {d : Dd} (hk : Rk w B F d) (hd : d.done < 1099511627776) (i : Nat) (hi : i < pgs d.bl.length d.pl) (ho : d.off = false) (hr : d.reads < 4611686018427387904) (hgap : d.bl.length ≤ i → ∃ p ∈ d.pl, p.1 = i) :
    Calls Try.prog 34 #[.pointer (some ⟨B, 0, none⟩), .int .i64 i] w fun e w' => ∃ g, e = .returned (.tuple #[.slice (some ⟨g, 0, none⟩) 4096 4096, .int .i64 0]) ∧ Rw w' g (d.abs.page i) ∧ w.heap.size ≤ g ∧ Rk w' B F { d with reads := d.reads + 1 } ∧ w.grownBy w' (some B) := by
  have h1 : (i : Int) < (pgs d.bl.length d.pl : Int) := by omega
  have hpl : d.pl.length < 1099511627776 := Nat.lt_of_le_of_lt hk.dm.pc hd
  have hic : i < 524288 := by have := hk.le; have := hk.cap; omega
  have c3 := hk.bx.c3
  rw [ho] at c3
  have c6 := hk.bx.c6
  have f6 := hk.bx.fz 6
  have gs := grown_cell w B 6 (.int .i64 ((d.reads : Int) + 1))
  have K5 := hid_intro hk.read12
  have c2 := K5.out.bx.c2
  have c1 := K5.out.bx.c1
  obtain ⟨al, cl, evL⟩ := owns_slice K5.out.dm.lr
  obtain ⟨ap, cp, evP⟩ := owns_slice K5.out.dm.pr
  simp only at c1 c2 evL evP
  rw [evL] at c1
  rw [evP] at c2
  have G5 := hid_intro gs
  have EL := hid_intro evL
  have EP := hid_intro evP
  have HG := hid_intro hgap
  have fin : ∀ W : World, (w.setCell ⟨B, 6, none⟩ (.int .i64 ((d.reads : Int) + 1))).grownBy W none → Rk W B F { d with reads := d.reads + 1 } ∧ w.grownBy W (some B) := fun W hW => ⟨K5.out.keptN hW, grown_trans gs (grown_any hW)⟩
  have FIN := hid_intro fin
  clear evL evP gs fin hgap
  go_enter Try.func34, Try.ntmps34
  go_wp2_with fail
  refine (rpages_b hk hd).mono ?_
  rintro e w1 ⟨rfl, rfl⟩
  clear hk
  go_wp2_with fail
  generalize w1.setCell ⟨B, 6, none⟩ (.int .i64 ((d.reads : Int) + 1)) = w5 at *
  have s5 := G5.out.size
  go_loopw [6] (fun si wr => ∃ (k : Nat) (z : Int), k ≤ d.pl.length ∧ z = (k : Int) - 1 ∧ si = .int .i64 z ∧ (∀ (j : Nat) (q : Nat × Nat × List Int), k ≤ j → d.pl[j]? = some q → ¬ q.1 = i) ∧ wr = w5) (fun si _ => (intOf si + 1).toNat)
  case atStart => exact ⟨d.pl.length, _, Nat.le_refl _, rfl, rfl, fun j q hj hq => by have := (List.getElem?_eq_some_iff.1 hq).1; omega, rfl⟩
  case round =>
    obtain ⟨k, z, hkl, hz, rfl, hno, rfl⟩ := hrel
    by_cases hk0 : 0 < k
    · obtain ⟨k', rfl⟩ : ∃ k', k = k' + 1 := ⟨k - 1, by omega⟩
      obtain rfl : z = (k' : Int) := by omega
      have hlt' : (k' : Int) < (d.pl.length : Int) := by omega
      have hp : d.pl[k']? = some d.pl[k'] := List.getElem?_eq_getElem (by omega)
      revert hp
      generalize d.pl[k'] = p
      intro hp
      obtain ⟨g, cap, hv, q0, q1⟩ := K5.out.pend k' p hp
      simp only at hv q0 q1
      have hv2 := EP.out
      rw [hv] at hv2
      simp only [Value.slice.injEq] at hv2
      obtain ⟨rfl, _, rfl⟩ := hv2
      have hpn := (K5.out.dm.pp p (List.mem_of_getElem? hp)).2
      have PB := hid_intro (K5.out.dm.pp p (List.mem_of_getElem? hp)).1
      have HNO := hid_intro hno
      have HP := hid_intro hp
      clear hno hp hz hv
      by_cases he : p.1 = i
      · have he' : (p.1 : Int) = (i : Int) := by omega
        go_wp2_with fail
        refine (refBytes_any _ _ _ p.2.2 _ PB.out.byt (by omega)).mono ?_
        rintro en w6 ⟨rfl, ho6, hg6, hs6⟩
        have R6 := hid_intro (Rw.of_owns ho6)
        have F6 := hid_intro (FIN.out w6 hg6)
        clear ho6 hg6
        go_wp2
        go_ret2
        have hdat := dat_of HP.out he (fun j q hj hq => HNO.out j q hj hq)
        refine ⟨_, rfl, ?_, s5, ?_⟩
        · rw [abs_page_some hdat]; exact R6.out
        · exact F6.out
      · have he' : ¬ (p.1 : Int) = (i : Int) := by omega
        go_wp2
        go_roundw
        case rel =>
          refine ⟨k', (k' : Int) - 1, by omega, rfl, by go_num, fun j q hj hq => ?_, by first | rfl | trivial⟩
          by_cases ej : j = k'
          · subst ej
            rw [HP.out] at hq
            rw [← Option.some.inj hq]; exact he
          · exact HNO.out j q (by omega) hq
        case measure => simp [intOf]
    · obtain rfl : k = 0 := by omega
      obtain rfl : z = -1 := by omega
      have hdat := dat_no (fun j q hq => hno j q (Nat.zero_le _) hq)
      have HD := hid_intro hdat
      have hib : i < d.bl.length := by
        by_cases hb : d.bl.length ≤ i
        · obtain ⟨p, hp, e⟩ := HG.out hb
          obtain ⟨j, hj⟩ := List.mem_iff_getElem?.1 hp
          exact absurd e (hno j p (Nat.zero_le _) hj)
        · omega
      have hib' : (i : Int) < (d.bl.length : Int) := by omega
      have hx : d.bl[i]? = some d.bl[i] := List.getElem?_eq_getElem hib
      revert hx
      generalize d.bl[i] = x
      intro hx
      obtain ⟨g, cap, hv, q0⟩ := K5.out.last i x hx
      simp only at hv q0
      have hv2 := EL.out
      rw [hv] at hv2
      simp only [Value.slice.injEq] at hv2
      obtain ⟨rfl, _, rfl⟩ := hv2
      have PB := hid_intro (K5.out.dm.bp x (List.mem_of_getElem? hx))
      have HX := hid_intro hx
      clear hno hx hz hv hdat
      go_wp2_with fail
      refine (refBytes_any _ _ _ x.2 _ PB.out.byt (by omega)).mono ?_
      rintro en w6 ⟨rfl, ho6, hg6, hs6⟩
      have R6 := hid_intro (Rw.of_owns ho6)
      clear ho6
      have G6 := hid_intro hg6
      clear hg6
      go_wp2
      go_ret2
      refine ⟨_, rfl, ?_, s5, ?_⟩
      · rw [abs_page_none HD.out HX.out]; exact R6.out
      · exact FIN.out w6 G6.out

set_option maxHeartbeats 4000000 in
set_option maxRecDepth 4000 in
theorem rdurable_b {w : World} {B : Nat} {F : Nat → Prop} {d : Dd} (hk : Rk w B F d) : Calls Try.prog 43 #[.pointer (some ⟨B, 0, none⟩)] w fun e w' => ∃ ao c, e = .returned (.slice ao (4096 * d.bl.length) c) ∧ Byt w' ao (4096 * d.bl.length) c (cat d.bl) ∧ w.grownBy w' none := by
  obtain ⟨i0, hi, hz0, hz1, hz2⟩ := info_parts info_u8
  have hbl : d.bl.length < 524288 := by have := hk.le; have := hk.cap; have := pgs_le d.bl.length d.pl; omega
  have c1 := hk.bx.c1
  obtain ⟨al, cl, evL⟩ := owns_slice hk.dm.lr
  rw [evL] at c1
  have HK := hid_intro hk
  have EL := hid_intro evL
  clear hk evL
  go_enter Try.func43, Try.ntmps43
  go_wp2_with fail
  go_loopw [3, 4] (fun sv si wr => ∃ k L : Nat, k ≤ d.bl.length ∧ L = 4096 * k ∧ si = .int .i64 (k : Int) ∧ wr.ownsRow w.heap.size 5 1 sv L ((cat (d.bl.take k)).map (Value.int .u8)) ∧ w.grownBy wr none) (fun _ si _ => d.bl.length - (intOf si).toNat)
  case atStart => exact ⟨0, 0, Nat.zero_le _, rfl, rfl, ⟨rfl, .inl ⟨rfl, rfl⟩⟩, World.grownBy.refl _ _⟩
  case round =>
    obtain ⟨k, L, hkl, hL, rfl, hown, hg⟩ := hrel
    have c1r := hg.cell c1 (by simp)
    obtain ⟨av, cv, ev⟩ : ∃ ao cap, u3 = .slice ao L cap := owns_slice hown
    subst ev
    by_cases hlt : k < d.bl.length
    · have hlt' : (k : Int) < (d.bl.length : Int) := by omega
      have KR := hid_intro (HK.out.keptN hg)
      have hx : d.bl[k]? = some d.bl[k] := List.getElem?_eq_getElem hlt
      revert hx
      generalize d.bl[k] = x
      intro hx
      obtain ⟨g, cap, hv, q0⟩ := KR.out.last k x hx
      have hv2 := EL.out
      rw [hv] at hv2
      simp only [Value.slice.injEq] at hv2
      obtain ⟨rfl, _, rfl⟩ := hv2
      have PB := hid_intro (KR.out.dm.bp x (List.mem_of_getElem? hx))
      have hxl := PB.out.len
      have HX := hid_intro hx
      have HO := hid_intro hown
      have HG := hid_intro hg
      have HL := hid_intro hL
      have hL2 : L + 4096 ≤ 4096 * 524288 := by omega
      have HC : Hid (∀ j u, (x.2.map (Value.int .u8))[j]? = some u → wr.cell? ((⟨x.1, 0, none⟩ : Addr).add j) = some u) := PB.out.byt.cells _ rfl
      have HO1 : Hid (∀ u ∈ x.2.map (Value.int .u8), u.oneCell' = true) := ints_oneCell _ _
      have HM1 : Hid (L + 4096 ≤ maxLen) := by show _ ≤ _; unfold maxLen; omega
      have HM2 : Hid ((L + 4096) * 1 ≤ 140737488355328) := Nat.le_trans (Nat.le_of_eq (Nat.mul_one _)) (Nat.le_trans hL2 (by decide))
      have HLn : Hid ((x.2.map (Value.int .u8)).length = 4096 * 1) := by show _ = _; rw [List.length_map, hxl, Nat.mul_one]
      clear hx hown hg hv hL
      go_wp2_with (at_builtin; refine wpList_append_own_at _ rfl _ _ 22 rfl w.heap.size 5 i0 (.int .u8 0) 1 1 Try.underlying22 hi hz0 hz1 hz2 rfl (by decide) _ L _ rfl HO.out ⟨x.1, 0, none⟩ 4096 4096 (x.2.map (Value.int .u8)) rfl HLn.out HC.out HO1.out HM1.out HM2.out HG.out.size ?_)
      intro v4 w4 ho4 hg4 _ _
      have O4 := hid_intro ho4
      have G4 : Hid (w.grownBy w4 none) := by
        refine ⟨hg4.os.trans HG.out.os, hg4.tape.trans HG.out.tape, hg4.output.trans HG.out.output, Nat.le_trans HG.out.size hg4.size, fun q hq hn => (hg4.block q (Nat.lt_of_lt_of_le hq HG.out.size) (fun e => ?_)).trans (HG.out.block q hq hn)⟩
        have := (HO.out.lt q e.symm).1
        omega
      clear ho4 hg4
      go_wp2
      go_roundw
      case rel =>
        refine ⟨k + 1, L + 4096, by omega, by have := HL.out; omega, by go_num, ?_, G4.out⟩
        rw [List.take_add_one, HX.out, Option.toList_some, cat_snoc, List.map_append]
        exact O4.out
      case measure => simp [intOf]; omega
    · obtain rfl : k = d.bl.length := by omega
      rw [List.take_length] at hown
      have HO := hid_intro hown
      have HG := hid_intro hg
      have HL := hid_intro hL
      clear hown hg hL
      go_wp2
      go_ret
      obtain rfl := HL.out
      obtain ⟨ao, cap, e1, e2⟩ := owns_any HO.out
      simp only [Value.slice.injEq] at e1
      obtain ⟨rfl, _, rfl⟩ := e1
      exact ⟨_, _, rfl, e2, HG.out⟩
end Go.Proofs.Ytiljdhhfhjhhiaa
