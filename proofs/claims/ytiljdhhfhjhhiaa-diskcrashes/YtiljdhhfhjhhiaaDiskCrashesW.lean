import Derived.Test.YtiljdhhfhjhhiaaDc2
import Derived.Test.YtiljdhhfhjhhiaaDc6
import Derived.Test.YtiljdhhfhjhhiaaDc7
import Derived.Test.YtiljdhhfhjhhiaaDc8
import Derived.Deep.DeepCutAuto
import Derived.Deep.CutRange
import Derived.Deep.CutBlock
import Derived.Deep.QuietTactic
namespace Go.Proofs.Ytiljdhhfhjhhiaa
open Go.RowKit Go.MuLone

theorem crash_L12 (f : Nat × Int → Nat × List Int) : ∀ (ds : List (Nat × Int)) (fs : List (Int × Int)) (L : List (List Int)), ((ds.map f).zip fs).foldl (fun L q => fateQ L q.1 q.2) L = (ds.zip fs).foldl (fun L q => fateQ L (f q.1) q.2) L
  | [], fs, L => by simp
  | d :: ds, [], L => by simp
  | d :: ds, x :: fs, L => by
    rw [List.map_cons, List.zip_cons_cons, List.zip_cons_cons, List.foldl_cons, List.foldl_cons]
    exact crash_L12 f ds fs _
theorem owns_byt12 {w : World} {base n c : Nat} {ao : Option Addr} {zs : List Int} (h : w.ownsRow base 5 1 (.slice ao n c) n (zs.map (Value.int .u8))) : Byt w ao n c zs := by
  rcases h.2 with ⟨e, e0⟩ | ⟨g, cap, cur, hv, _⟩
  · injection e with e1 e2 e3
    subst e1 e2 e3
    have : zs = [] := List.length_eq_zero_iff.1 (by have := h.1; simpa using this)
    subst this
    exact Byt.empty w
  · injection hv with e1 e2 e3
    subst e1
    exact Byt.of_owns h
theorem cw_crash {w0 w w1 : World} {B g fn : Nat} {vb vd : Value} {bl : List (Nat × List Int)} {ds : List (Nat × Int)} {s : Ds} (h : Cw w0 w B vb bl vd ds s) (hg : w.grownBy w1 none) (fs : List (Int × Int)) (hF : Fl w1 (some ⟨g, 0, none⟩) fs) (hfl : fs.length = fn) (hfn : fn ≤ 9223372036854775807) (hg0 : w.heap.size ≤ g) (hd : s.done < 1099511627776) :
    Calls Try.prog 28 #[.pointer (some ⟨B, 0, none⟩), .slice (some ⟨g, 0, none⟩) fn fn] w1 fun e w' => e = .returned (.tuple #[]) ∧ Cw w0 w' B vb bl vd ds (s.crash fs) := by
  obtain ⟨F, h1, h2, h3, h4⟩ := h.dw
  have h1' := h1.keptN hg
  refine (dz_crash h1' (some ⟨g, 0, none⟩) fn fn fs hF hfl (Nat.le_refl _) hfn (fun b off e x => ?_) hd).mono ?_
  · have e1 : g = b := by injection e with e; injection e
    subst e1
    have := h1.low _ x
    omega
  · rintro e w' ⟨rfl, hz, hk⟩
    obtain ⟨a1, a2⟩ := Dw.step h2 (grown_trans h3 hg) (fun k e => Nat.lt_of_lt_of_le (h4 k e) hg.size) hz hk (fun k e => e)
    exact ⟨rfl, (h.keptN hg).st a1 a2⟩

set_option maxHeartbeats 16000000 in
set_option maxRecDepth 8000 in
theorem crashes_walk (ao : Option Addr) (n cap : Nat) (lst : List Int) (bo : Option Addr) (m bcap : Nat) (fo : Option Addr) (fn fc : Nat) (fs : List (Int × Int)) (w : World) (hb : Byt w ao n cap lst) (hbt : Bt lst) (hp : Pus w bo m) (hF : Fl w fo fs) (hfl : fs.length = fn) (hfn : fn ≤ 8796093021952) :
    Calls Try.prog 6 #[.slice ao n cap, .slice bo m bcap, .slice fo fn fc] w fun e w' => e = .returned (.bool true) ∧ w.grownBy w' none := by
  go_enter Try.func6, Try.ntmps6
  go_wp2_with fail
  refine (first12_any w).mono ?_
  rintro e w1 ⟨rfl, hg1⟩
  have G1 := hid_intro hg1
  clear hg1
  go_wp2_with fail
  refine (dw_new w _ 60 G1.out (by omega) (by omega)).mono ?_
  rintro e w2 ⟨B, rfl, hz2⟩
  have L2 : Hid (Cw w w2 B (.slice none 0 0) [] (.slice none 0 0) [] ⟨60, 0, false, 0, 0, [], []⟩) := ⟨hz2.sub (fun k h => by rcases h with h | h | h <;> simp [Value.ownBlock] at h), ⟨rfl, .inl ⟨rfl, rfl⟩⟩, (fun x hx => by cases hx), by simp, ⟨rfl, .inl ⟨rfl, rfl⟩⟩⟩
  clear hz2 G1
  go_upto_block 0 with fail
  go_cut [9] (fun s9 wx => ∃ bl s, Cw w wx B s9 bl (.slice none 0 0) [] s ∧ bl.map (·.2) = (lst.take 20).map fp ∧ s.view = (lst.take 20).map fp ∧ Cs s 20)
  case first =>
    rename_i J K' hJ hM
    refine crash0 hb hbt rfl ⟨rfl, rfl, rfl, Nat.le_refl _, Nat.le_refl _⟩ L2 ?_
    intro _ _ _ _ _ _ _ _ _ _ _ _ _ _ _ _ _ _ _ _ _ _ _ _ _ _ _ _ _ _ _ _ _ _ _ wx hrl
    refine hM _ _ ?_
    go_meet
    exact hrl
  case rest =>
    obtain ⟨bl, s, hC, hbl, hvw, hs⟩ := hcut
    obtain ⟨ov, oc, ev⟩ : ∃ ao cap, u9 = .slice ao bl.length cap := owns_slice2 hC.ob
    subst ev
    have hbv : bl.map (·.2) = s.view := by rw [hbl, hvw]
    have hL20 : bl.length ≤ 20 := by have := congrArg List.length hbl; simp at this; omega
    have hpg : s.sync.pages = bl.length := by
      have e : s.sync.pages = s.view.length := rfl
      rw [e, ← hbv, List.length_map]
    have HC := hid_intro hC
    have HBV := hid_intro hbv
    clear hC hbl hvw hbv L2
    go_wp2_with fail
    refine (dw_sync HC.out.dw hs.off (by rw [hs.left]; decide) (by have := hs.done; omega) (by rw [hs.left]; omega)).mono ?_
    rintro e w3 ⟨rfl, hd3, hs3⟩
    have Q3 : Hid (Cq w w3 B (.slice ov bl.length oc) bl (.slice none 0 0) [] s.sync s.view 0) := ⟨HC.out.st hd3 hs3, rfl, rfl, (fun d hd => by cases hd), hs.sync, by rw [hpg]; omega, Nat.le_refl _⟩
    have HPG := hid_intro hpg
    clear hd3 hs3 HC hpg
    go_upto_block 2 with fail
    go_cut [16] (fun s16 wx => ∃ ds sE, Cq w wx B (.slice ov bl.length oc) bl s16 ds sE s.view 20)
    case first =>
      rename_i J K' hJ hM
      refine crash2 HPG.out hp Q3.out ?_
      intro _ _ _ _ _ _ _ _ _ _ _ _ _ _ _ _ _ _ _ _ _ _ _ _ _ _ _ _ _ _ _ _ _ _ _ _ _ _ _ _ _ _ _ _ _ _ _ _ _ _ _ _ _ _ _ _ _ _ _ _ _ _ _ _ wx hrl
      refine hM _ _ ?_
      go_meet
      exact hrl
    case rest =>
      obtain ⟨ds, sE, hq⟩ := hcut
      obtain ⟨dv, dc, ev⟩ : ∃ ao cap, u16 = .slice ao ds.length cap := owns_slice2 hq.cw.od
      subst ev
      have HQ := hid_intro hq
      have FW := hid_intro (hF.keptN hq.cw.dw.grown)
      clear hq Q3
      go_wp2_with fail
      refine (refFates_any fo fn fc fs _ FW.out hfl hfn).mono ?_
      rintro e w5 ⟨rfl, ho5, hg5⟩
      have O5 := hid_intro (Fl.of_owns ho5 hfl)
      have G5 := hid_intro hg5
      clear ho5 hg5
      go_wp2_with fail
      refine (cw_crash HQ.out.cw G5.out fs O5.out hfl (by omega) (Nat.le_refl _) (by have := HQ.out.cs.done; omega)).mono ?_
      rintro e w6 ⟨rfl, hC6⟩
      have C6 := hid_intro hC6
      have hX1 : (sE.crash fs).L = (ds.zip fs).foldl (fun L q => fateQ L (q.1.1, fp q.1.2) q.2) (bl.map (·.2)) := by
        show (sE.Q.zip fs).foldl (fun L q => fateQ L q.1 q.2) sE.L = _
        rw [HQ.out.sq, HQ.out.sl, HBV.out]
        exact crash_L12 _ ds fs _
      have hX2 := HQ.out.cs.crash fs
      have HX1 := hid_intro hX1
      clear hC6 O5 G5 FW hX1
      go_upto_block 4 with fail
      go_cut [9] (fun s9 wx => ∃ bl', Cw w wx B s9 bl' (.slice dv ds.length dc) ds (sE.crash fs) ∧ bl'.map (·.2) = (ds.zip fs).foldl (fun L q => fateQ L (q.1.1, fp q.1.2) q.2) (bl.map (·.2)) ∧ bl'.length ≤ 60)
      case first =>
        rename_i J K' hJ hM
        refine crash4 hF hfl (fun d hd => (HQ.out.dd d hd).1) HQ.out.dl (by omega) C6.out ?_
        intro _ _ _ _ _ _ _ _ _ _ _ _ _ _ _ _ _ _ _ _ _ _ _ _ _ _ _ _ _ _ _ _ _ _ _ _ _ _ _ _ _ _ _ _ _ _ _ _ _ _ _ _ _ _ _ _ _ _ _ _ _ _ _ _ _ _ _ _ _ _ _ wx hrl
        refine hM _ _ ?_
        go_meet
        exact hrl
      case rest =>
        obtain ⟨bl', hC', hmap, hl60⟩ := hcut
        obtain ⟨wd, hwd⟩ : ∃ wd, wd = wc := ⟨_, rfl⟩
        subst hwd
        obtain ⟨ov', oc', ev⟩ : ∃ ao cap, u9 = .slice ao bl'.length cap := owns_slice2 hC'.ob
        subst ev
        have hX3 : (sE.crash fs).L = bl'.map (·.2) := by rw [HX1.out, hmap]
        have hX4 : (sE.crash fs).Q = [] := rfl
        have HC' := hid_intro hC'
        clear hC' hmap C6 HQ HX1
        obtain ⟨F, z1, f2, gr, f4⟩ := HC'.out.dw
        have ZL := hid_intro (And.intro z1 f2)
        have ZG := hid_intro gr
        have LN := hid_intro z1.lens.1
        rw [hX3] at LN
        clear z1 f2 gr f4
        obtain ⟨X, hXd⟩ : ∃ X, X = bl'.map (·.2) := ⟨_, rfl⟩
        have hXL : X.length = bl'.length := by rw [hXd, List.length_map]
        rw [← hXd] at hX3 LN
        have h1 : Rs (sE.crash fs) X 1000 := ⟨hX3, hX4, rfl, by have := hX2.reads; omega, by have := hX2.done; omega⟩
        have H1 := hid_intro h1
        have HXD := hid_intro hXd
        have HXL := hid_intro hXL
        clear h1 hX3 hX4 hX2 hXd hXL
        go_upto_block 10 with fail
        go_cut [22] (fun s22 wx => wd.grownBy wx none ∧ wx.ownsRow wd.heap.size 5 1 s22 (4096 * bl'.length) (((bl'.map (·.2)).flatten).map (Value.int .u8)))
        case first =>
          rename_i J K' hJ hM
          refine crash10 hl60 HC'.out ?_
          intro _ _ _ _ _ _ _ _ _ _ _ _ _ _ wx hrl
          refine hM _ _ ?_
          go_meet
          exact hrl
        case rest =>
          obtain ⟨hgA, hoA⟩ := hcut
          obtain ⟨va, ca, ev⟩ : ∃ ao cap, u22 = .slice ao (4096 * bl'.length) cap := owns_slice2 hoA
          subst ev
          have ZA := hid_intro (ZL.out.1.keptN hgA)
          have GA := hid_intro hgA
          have OA := hid_intro hoA
          clear hgA hoA HC'
          go_wp2_with fail
          refine (dz_durable ZA.out).mono ?_
          rintro e w8 ⟨g8, L8, C8, rfl, hl8, ho8, hz8, hk8⟩
          rw [H1.out.l] at hl8 ho8
          subst hl8
          have hOw := (Ow.of_owns ho8).1
          have hC8 : 4096 * X.length ≤ C8 ∧ C8 ≤ 9223372036854775807 := by have h5 := hOw.le; have h6 := hOw.max; have h7 := ho8.1; rw [List.length_map] at h7; omega
          have B8 := hid_intro (Byt.of_owns ho8)
          have BA := hid_intro (owns_byt12 (owns_same OA.out (fun q e => hk8.block q (OA.out.lt q e).2 (fun x => by have h5 := ZL.out.1.low q x; have h6 := (OA.out.lt q e).1; omega))))
          rw [← HXD.out] at BA
          have Z8 := hid_intro hz8
          have G8 := hid_intro (Kp.new (grown_trans ZG.out GA.out) hk8 (fun k e => (ZL.out.2 k e).1))
          have hbX : Bt X.flatten := fun y hy => by
            obtain ⟨l, hl, hyl⟩ := List.mem_flatten.1 hy
            exact (LN.out l hl).2 y hyl
          clear ho8 hz8 hk8 hOw
          go_wp2_with fail
          refine (same_yes _ _ _ _ _ _ X.flatten X.flatten w8 B8.out BA.out rfl).mono ?_
          rintro e w9 ⟨rfl, hw9⟩
          rw [hw9]
          clear hw9
          clear w9
          go_wp2_with fail
          refine (image_ok 60 X.length (some ⟨g8, 0, none⟩) (4096 * X.length) C8 X.flatten w8 B8.out hbX rfl hC8 (by omega) (by omega) (by rw [HXL.out]; omega)).mono ?_
          rintro e w9 ⟨B2, rfl, hg9, hz9⟩
          rw [pgs_flat12 X (fun y hy => (LN.out y hy).1)] at hz9
          have T9 : Hid (Tz w w9 B F B2 (fun k => w8.heap.size ≤ k ∧ k < w9.heap.size) (sE.crash fs) ⟨60, 0, false, 0, 0, X, []⟩) := ⟨Z8.out.keptN hg9, hz9, fun k e => ⟨(ZL.out.2 k e).1, fun e' => by have h5 := Z8.out.low k e; have h6 := e'.1; omega⟩, fun k e => Nat.le_trans G8.out.size e.1, grown_trans G8.out hg9⟩
          have H2 : Hid (Rs ⟨60, 0, false, 0, 0, X, []⟩ X 1000) := ⟨rfl, rfl, rfl, Nat.zero_le _, by show 0 < 1099511627776; omega⟩
          clear hg9 hz9
          go_upto_region 52 with fail
          go_cut [257] (fun s257 wx => s257 = .bool false ∧ Tz w wx B F B2 (fun k => w8.heap.size ≤ k ∧ k < w9.heap.size) (sE.crash fs) ⟨60, 0, false, 0, 0, X, []⟩)
          case first =>
            rename_i J K' hJ hM
            refine crash52 H1.out H2.out HXL.out T9.out ?_
            intro _ _ _ _ _ _ _ _ _ _ _ _ _ _ _ _ _ _ _ _ _ _ _ _ _ _ _ _ _ _ _ wx hrl
            refine hM _ _ ?_
            go_meet
            exact hrl
          case rest =>
            obtain ⟨rfl, hT⟩ := hcut
            have HT := hid_intro hT
            clear hT
            go_upto_block 12 with fail
            go_cut [28] (fun _ wx => w.grownBy wx none)
            case first =>
              rename_i J K' hJ hM
              refine crash12 H1.out H2.out HXL.out (by have := HXL.out; omega) HT.out ?_
              intro _ _ _ _ _ _ _ _ _ _ _ _ _ _ _ _ _ _ _ _ _ _ _ _ _ _ _ _ _ _ _ _ _ _ _ _ _ wx hrl
              refine hM _ _ ?_
              go_meet
              exact hrl
            case rest =>
              have FIN := hid_intro hcut
              clear hcut
              go_wp2
              go_ret
              exact ⟨rfl, FIN.out⟩
end Go.Proofs.Ytiljdhhfhjhhiaa
