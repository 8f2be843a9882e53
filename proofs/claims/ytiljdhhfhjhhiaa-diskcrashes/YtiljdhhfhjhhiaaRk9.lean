import Derived.Test.YtiljdhhfhjhhiaaRk8
namespace Go.Proofs.Ytiljdhhfhjhhiaa
open Go.RowKit Go.MuLone

def ab12 (p : Nat × Nat × List Int) : Nat × List Int := (p.1, p.2.2)
theorem rotK_ab (i k : Nat) (x : Int) (l pl : List (Nat × Nat × List Int)) (n : Nat) (p : Nat × Nat × List Int) (g : Nat) (h : l[n]? = some p) (hp : p.1 = i) (e : pl.map ab12 = (rotK i k x l n).map ab12) : (pl.set n (i, g, rotZ k x p.2.2)).map ab12 = (rotK i k x l (n + 1)).map ab12 := by
  rw [rotK_succ i k x l n p h, List.map_set, List.map_set, e]
  congr 1
  unfold rotP ab12
  rw [if_pos hp, hp]

theorem Rw.rot {w : World} {g : Nat} {z : List Int} (h : Rw w g z) (k : Nat) (x : Int) : Rw (w.setCell ⟨g, k, none⟩ (.int .u8 (bits .xor .u8 (z.getD k 0) x))) g (rotZ k x z) := h.set k _

set_option maxHeartbeats 8000000 in
set_option maxRecDepth 100000 in
theorem rrot_ok {w : World} {B : Nat} {F : Nat → Prop} {d : Dd} (hk : Rk w B F d) (hdn : d.done < 1099511627776) (i k : Nat) (x : Int) (hi : i < d.bl.length) (hat : k < 4096) (hx : 1 ≤ x ∧ x ≤ 255) : Calls Try.prog 41 #[.pointer (some ⟨B, 0, none⟩), .int .i64 i, .int .i64 k, .int .i64 x] w fun e w' => e = .returned (.int .i64 0) ∧ ∃ bl pl, Rk w' B (Nf F w w') { d with bl := bl, pl := pl } ∧ Kp w w' F ∧ bl.map (·.2) = (d.bl.map (·.2)).set i (rotZ k x ((d.bl.map (·.2)).getD i [])) ∧ pl.map ab12 = (d.pl.map (rotP i k x)).map ab12 := by
  have hpl : d.pl.length < 1099511627776 := Nat.lt_of_le_of_lt hk.dm.pc hdn
  have hic : i < 524288 := by have := hk.le; have := hk.cap; have := pgs_le d.bl.length d.pl; omega
  obtain ⟨hx1, hx2⟩ := hx
  have hi' : (i : Int) < (d.bl.length : Int) := by omega
  have hat' : (k : Int) < 4096 := by omega
  have c1 := hk.bx.c1
  have hxx : d.bl[i]? = some d.bl[i] := List.getElem?_eq_getElem hi
  revert hxx
  generalize d.bl[i] = xx
  intro hxx
  obtain ⟨g0, y⟩ := xx
  obtain ⟨gL, capL, hvL, ci⟩ := hk.last i _ hxx
  rw [hvL] at c1
  obtain ⟨ap, cp, evP⟩ := owns_slice hk.dm.pr
  have PY := hid_intro (hk.dm.bp _ (List.mem_of_getElem? hxx))
  have HK := hid_intro hk
  have HX := hid_intro hxx
  have EL := hid_intro hvL
  have EP := hid_intro evP
  clear hk hxx hvL evP
  go_enter Try.func41, Try.ntmps41
  go_wp2_with fail
  refine (refBytes_any _ _ _ y _ PY.out.byt (by omega)).mono ?_
  rintro en w2 ⟨rfl, ho2, hg2, hs2⟩
  have hr2 := Rw.of_owns ho2
  have hyl : y.length = 4096 := PY.out.len
  obtain ⟨y0, hy0⟩ : ∃ y0, y.getD k 0 = y0 := ⟨_, rfl⟩
  have cb := hr2.cell k (by omega)
  have fb2 := hr2.fz k
  have hr3 := hr2.rot k x
  rw [hy0] at cb hr3
  have g3 : w.grownBy (w2.setCell ⟨w.heap.size, k, none⟩ (.int .u8 (bits .xor .u8 y0 x))) none := grown_new hg2 (grown_cell _ _ _ _) (Nat.le_refl _)
  have c13 := g3.cell c1 (by simp)
  have ci3 := g3.cell ci (by simp)
  have K3 := HK.out.keptN g3
  obtain ⟨curL, hcL⟩ := row_block K3.dm.lr (k := gL) (by rw [EL.out]; rfl)
  have fi3 := frozen_of_row _ gL i _ _ hcL
  have hLB : gL ≠ B := K3.bx.ne hcL (by decide)
  have gs4 := grown_cell (w2.setCell ⟨w.heap.size, k, none⟩ (.int .u8 (bits .xor .u8 y0 x))) gL i (pv w.heap.size)
  have s3 := g3.size
  have s4 : ((w2.setCell ⟨w.heap.size, k, none⟩ (.int .u8 (bits .xor .u8 y0 x))).setCell ⟨gL, i, none⟩ (pv w.heap.size)).heap.size = w2.heap.size := by simp
  have hgl : w.heap.size < w2.heap.size := hs2
  have M4 : Hid (Rm ((w2.setCell ⟨w.heap.size, k, none⟩ (.int .u8 (bits .xor .u8 y0 x))).setCell ⟨gL, i, none⟩ (pv w.heap.size)) (Nf F w ((w2.setCell ⟨w.heap.size, k, none⟩ (.int .u8 (bits .xor .u8 y0 x))).setCell ⟨gL, i, none⟩ (pv w.heap.size))) { d with bl := d.bl.set i (w.heap.size, rotZ k x y) }) :=
    K3.dm.swap (j := i) (cap := capL) EL.out hr3 (by rw [rotZ_len]; exact hyl) (rotZ_bt PY.out.bt ⟨by omega, hx2⟩) (fun q hq => .inl hq) (.inr ⟨Nat.le_refl _, by rw [s4]; exact hgl⟩) (fun q hq => hq.elim (fun e => K3.dm.low q e) (fun e => by have := e.2; rw [s4] at this; simpa using this))
  have B4 : Hid (Rx ((w2.setCell ⟨w.heap.size, k, none⟩ (.int .u8 (bits .xor .u8 y0 x))).setCell ⟨gL, i, none⟩ (pv w.heap.size)) B { d with bl := d.bl.set i (w.heap.size, rotZ k x y) }) := K3.bx.kept gs4 (fun e => hLB (Option.some.inj e).symm)
  have KP4 : Hid (Kp w ((w2.setCell ⟨w.heap.size, k, none⟩ (.int .u8 (bits .xor .u8 y0 x))).setCell ⟨gL, i, none⟩ (pv w.heap.size)) F) := (Kp.of g3 (fun q e => by cases e)).trans (Kp.of (F := F) gs4 (fun q e => by rw [← Option.some.inj e]; exact HK.out.dm.fl gL (by rw [EL.out]; rfl))) (fun q hq => .inl hq)
  clear ho2 hg2 hs2 hr2 hr3 g3 K3 hcL gs4 s3 s4 hgl hLB hy0
  go_wp2_with fail
  go_loopw [10] (fun si wr => ∃ (n : Nat) (pl : List (Nat × Nat × List Int)), n ≤ d.pl.length ∧ si = .int .i64 (n : Int) ∧ pl.length = d.pl.length ∧ (∀ j, n ≤ j → pl[j]? = d.pl[j]?) ∧ pl.map ab12 = (rotK i k x d.pl n).map ab12 ∧ Rx wr B { d with bl := d.bl.set i (w.heap.size, rotZ k x y), pl := pl } ∧ Rm wr (Nf F w wr) { d with bl := d.bl.set i (w.heap.size, rotZ k x y), pl := pl } ∧ Kp w wr F) (fun si _ => d.pl.length - (intOf si).toNat)
  case atStart => exact ⟨0, d.pl, Nat.zero_le _, rfl, rfl, fun _ _ => rfl, by rw [rotK_zero], B4.out, M4.out, KP4.out⟩
  case round =>
    obtain ⟨n, pl, hnl, rfl, hpll, hsame, hab, hb, hm, hkp⟩ := hrel
    have c2 := hb.c2
    simp only at c2
    rw [EP.out] at c2
    by_cases hlt : n < d.pl.length
    · have hlt' : (n : Int) < (d.pl.length : Int) := by omega
      have hp : d.pl[n]? = some d.pl[n] := List.getElem?_eq_getElem hlt
      revert hp
      generalize d.pl[n] = p
      intro hp
      obtain ⟨no, h, z⟩ := p
      have hpn : pl[n]? = some (no, h, z) := (hsame n (Nat.le_refl _)).trans hp
      have own := hm.pr
      simp only at own
      obtain ⟨gP, capP, curP, hv, _, hgP, _⟩ := own.2.resolve_left (fun e => by have := e.2; omega)
      rw [EP.out, hpll] at hv
      simp only [Value.slice.injEq] at hv
      obtain ⟨rfl, _, rfl⟩ := hv
      rw [EP.out] at own
      have own' : wr.ownsRow 0 90 2 (.slice (some ⟨gP, 0, none⟩) d.pl.length cp) pl.length (wcells pl) := own
      rw [hpll] at own'
      have q0 : wr.cell? ⟨gP, n * 2, none⟩ = some (.int .i64 no) := by
        rw [own'.cellAt (n * 2) (by omega), Nat.mul_comm]; exact (wcells_at _ _ _ hpn).1
      have q1 : wr.cell? ⟨gP, n * 2 + 1, none⟩ = some (.slice (some ⟨h, 0, none⟩) 4096 4096) := by
        rw [own'.cellAt (n * 2 + 1) (by omega), Nat.mul_comm]; exact (wcells_at _ _ _ hpn).2
      have hno : no < 524288 := (hm.pp _ (List.mem_of_getElem? hpn)).2
      have PZ := hid_intro (hm.pp _ (List.mem_of_getElem? hpn)).1
      have HM := hid_intro hm
      have HB := hid_intro hb
      have HKP := hid_intro hkp
      have HAB := hid_intro hab
      have HS := hid_intro hsame
      have HP := hid_intro hp
      clear hm hb hkp hab hsame hp hpn own own' hgP
      by_cases hio : no = i
      · subst hio
        go_wp2_with fail
        refine (refBytes_any _ _ _ z _ PZ.out.byt (by omega)).mono ?_
        rintro en w5 ⟨rfl, ho5, hg5, hs5⟩
        have hr5 := Rw.of_owns ho5
        have hzl : z.length = 4096 := PZ.out.len
        obtain ⟨z0, hz0⟩ : ∃ z0, z.getD k 0 = z0 := ⟨_, rfl⟩
        have cz := hr5.cell k (by omega)
        have fz5 := hr5.fz k
        have hr6 := hr5.rot k x
        rw [hz0] at cz hr6
        have g6 : wr.grownBy (w5.setCell ⟨wr.heap.size, k, none⟩ (.int .u8 (bits .xor .u8 z0 x))) none := grown_new hg5 (grown_cell _ _ _ _) (Nat.le_refl _)
        have c26 := g6.cell c2 (by simp)
        have q06 := g6.cell q0 (by simp)
        have q16 := g6.cell q1 (by simp)
        have m6 := HM.out.keptN g6
        have b6 := HB.out.kept g6 (by simp)
        have hcP : ∃ cur, (w5.setCell ⟨wr.heap.size, k, none⟩ (.int .u8 (bits .xor .u8 z0 x))).heap[gP]? = some (.cells cur 90 (0, 0)) := row_block m6.pr (k := gP) (by show d.vP.ownBlock = _; rw [EP.out]; rfl)
        obtain ⟨curP6, hcP⟩ := hcP
        have fp0 := frozen_of_row _ gP (n * 2) _ _ hcP
        have fp1 := frozen_of_row _ gP (n * 2 + 1) _ _ hcP
        have hPB : gP ≠ B := b6.ne hcP (by decide)
        have gs7 : (w5.setCell ⟨wr.heap.size, k, none⟩ (.int .u8 (bits .xor .u8 z0 x))).grownBy (((w5.setCell ⟨wr.heap.size, k, none⟩ (.int .u8 (bits .xor .u8 z0 x))).setCell ⟨gP, n * 2, none⟩ (.int .i64 no)).setCell ⟨gP, n * 2 + 1, none⟩ (pv wr.heap.size)) (some gP) := grown_trans (grown_cell _ _ _ _) (grown_cell _ _ _ _)
        have s7 : (((w5.setCell ⟨wr.heap.size, k, none⟩ (.int .u8 (bits .xor .u8 z0 x))).setCell ⟨gP, n * 2, none⟩ (.int .i64 no)).setCell ⟨gP, n * 2 + 1, none⟩ (pv wr.heap.size)).heap.size = w5.heap.size := by simp
        have s6 := g6.size
        have s0 := HKP.out.size
        have hgl : wr.heap.size < w5.heap.size := hs5
        have M7 := hid_intro (m6.swapP (G := Nf F w (((w5.setCell ⟨wr.heap.size, k, none⟩ (.int .u8 (bits .xor .u8 z0 x))).setCell ⟨gP, n * 2, none⟩ (.int .i64 no)).setCell ⟨gP, n * 2 + 1, none⟩ (pv wr.heap.size))) (k := n) (i := no) (cap := cp) (by show d.vP = _; rw [EP.out]; show _ = Value.slice _ pl.length _; rw [hpll]) hr6 (by rw [rotZ_len]; exact hzl) (rotZ_bt PZ.out.bt ⟨by omega, hx2⟩) hno (fun q hq => hq.imp id (fun e => ⟨e.1, by rw [s7]; have := e.2; omega⟩)) (.inr ⟨s0, by rw [s7]; exact hgl⟩) (fun q hq => hq.elim (fun e => m6.low q (.inl e)) (fun e => by have := e.2; rw [s7] at this; simpa using this)))
        have B7 := hid_intro (b6.kept gs7 (fun e => hPB (Option.some.inj e).symm))
        have KP7 := hid_intro ((HKP.out.trans (Kp.of (F := F) g6 (fun q e => by cases e)) (fun q hq => .inl hq)).trans (Kp.of (F := F) gs7 (fun q e => by rw [← Option.some.inj e]; exact HK.out.dm.fp gP (by rw [EP.out]; rfl))) (fun q hq => .inl hq))
        clear ho5 hg5 hs5 hr5 hr6 g6 m6 b6 hcP gs7 s7 s6 hgl hPB hz0
        go_wp2
        go_roundw
        case rel =>
          refine ⟨n + 1, pl.set n (no, wr.heap.size, rotZ k x z), by omega, by go_num, by rw [List.length_set]; exact hpll, fun j hj => ?_, rotK_ab no k x d.pl pl n (no, h, z) wr.heap.size HP.out rfl HAB.out, B7.out, M7.out, KP7.out⟩
          rw [List.getElem?_set, if_neg (by omega)]
          exact HS.out j (by omega)
        case measure => simp [intOf]; omega
      · have hio' : ¬ (no : Int) = (i : Int) := by omega
        go_wp2
        go_roundw
        case rel => exact ⟨n + 1, pl, by omega, by go_num, hpll, fun j hj => HS.out j (by omega), by rw [rotK_noop i k x d.pl n _ HP.out hio]; exact HAB.out, HB.out, HM.out, HKP.out⟩
        case measure => simp [intOf]; omega
    · obtain rfl : n = d.pl.length := by omega
      rw [rotK_all] at hab
      have HM := hid_intro hm
      have HB := hid_intro hb
      have HKP := hid_intro hkp
      have HAB := hid_intro hab
      clear hm hb hkp hab hsame
      go_wp2
      go_ret
      refine ⟨rfl, _, pl, ⟨HB.out, HM.out, .inl HK.out.fb, HK.out.cap, ?_⟩, HKP.out, ?_, HAB.out⟩
      · show pgs (d.bl.set i (w.heap.size, rotZ k x y)).length pl ≤ d.cap
        have e1 : ∀ (l : List (Nat × Nat × List Int)) (a : Nat), pgs a l = (l.map ab12).foldl (fun n q => max n (q.1 + 1)) a := fun l a => by unfold pgs ab12; rw [List.foldl_map]
        rw [List.length_set, e1, HAB.out, ← e1]
        have e2 : pgs d.bl.length (d.pl.map (rotP i k x)) = pgs d.bl.length d.pl := by
          unfold pgs
          rw [List.foldl_map]
          congr 1
          funext a p
          have := rotP_same i k x p
          simp only [Prod.mk.injEq] at this
          rw [this.1]
        rw [e2]
        exact HK.out.le
      · rw [List.map_set, List.getD, List.getElem?_map, HX.out]
        rfl
end Go.Proofs.Ytiljdhhfhjhhiaa
