import Derived.Test.YtlfhonlifgpnhaaLeafR5
import Derived.Test.YtlfhonlifgpnhaaLeafR6
import Derived.Test.YtlfhonlifgpnhaaGrpI
import Derived.Deep.CutBlock
namespace Go.Proofs.Ytlfhonlifgpnhaa
open Go.RowKit

/-- Bytes in a block of bytes that is not R. -/
structure Kq (w : World) (R : Nat) (ao : Option Addr) (n c : Nat) (zs : List Int) : Prop where
  b : Byt w ao n c zs
  c : n ≤ c ∧ c ≤ 9223372036854775807
  u : ∀ ad, ao = some ad → 0 < n → ad.block ≠ R ∧ U8 w ad.block
theorem Kq.kept {w w' : World} {R : Nat} {ao : Option Addr} {n c : Nat} {zs : List Int} {row : Option Nat} (h : Kq w R ao n c zs) (hg : w.grownBy w' row) (hne : ∀ b, b ≠ R → U8 w b → some b ≠ row) : Kq w' R ao n c zs :=
  ⟨h.b.kept hg (fun ad e hn => hne _ (h.u ad e hn).1 (h.u ad e hn).2), h.c, fun ad e hn => ⟨(h.u ad e hn).1, (h.u ad e hn).2.kept hg (hne _ (h.u ad e hn).1 (h.u ad e hn).2)⟩⟩
theorem Kq.zero (w : World) (R : Nat) (ao : Option Addr) : Kq w R ao 0 0 [] := ⟨Byt.zero _ _, ⟨Nat.le_refl _, by omega⟩, fun _ _ h => by omega⟩
theorem Kq.of_owns {w : World} {R base n : Nat} {v : Value} {zs : List Int} (h : w.ownsRow base 5 1 v n (zs.map (Value.int .u8))) (hR : R < base) : ∃ ao c, v = .slice ao n c ∧ Kq w R ao n c zs := by
  obtain ⟨ao, c, rfl, hb⟩ := owns_any h
  refine ⟨ao, c, rfl, hb, ?_, fun ad e hn => ?_⟩
  · rcases h.2 with ⟨e, rfl⟩ | ⟨g, cap, cur, hv, _, _, hc, hm, _⟩
    · injection e with _ _ e3
      subst e3
      exact ⟨Nat.le_refl _, by omega⟩
    · injection hv with _ _ e3
      subst e3
      exact ⟨hc, by unfold maxLen at hm; omega⟩
  · rcases h.2 with ⟨e2, rfl⟩ | ⟨g, cap, cur, hv, hbg, hgg, _⟩
    · omega
    · injection hv with x1
      rw [e] at x1
      obtain rfl := Option.some.inj x1
      exact ⟨by show g ≠ R; omega, ⟨cur, hgg⟩⟩

/-- All that the reference's reading of an item holds on to, first half. -/
structure Fi (w w' : World) (R G U : Nat) (po : Option Addr) (pn pc : Nat) (zs P : List Int) (st : Nat × Int) : Prop where
  rd : Rr w' R G zs st.1 st.2
  u : Bx w' U (.slice none 0 0) (.slice none 0 0) (.int .i64 0) (.int .i64 0)
  pb : Byt w' po pn pc P
  gr : w.grownBy w' (some R)
  hU : U ≠ R ∧ U ≠ G ∧ w.heap.size ≤ U
  hp : ∀ ad, po = some ad → 0 < pn → ad.block ≠ R
theorem Fi.call {w w' w'' : World} {R G U : Nat} {po : Option Addr} {pn pc : Nat} {zs P : List Int} {st st' : Nat × Int} (h : Fi w w' R G U po pn pc zs P st) (hr : Rr w'' R G zs st'.1 st'.2) (hg : w'.grownBy w'' (some R)) : Fi w w'' R G U po pn pc zs P st' :=
  ⟨hr, h.u.kept hg (fun e => h.hU.1 (Option.some.inj e)), h.pb.kept hg (fun ad e hn e2 => h.hp ad e hn (Option.some.inj e2)), grown_trans h.gr hg, h.hU, h.hp⟩
theorem Fi.keptN {w w' w'' : World} {R G U : Nat} {po : Option Addr} {pn pc : Nat} {zs P : List Int} {st : Nat × Int} (h : Fi w w' R G U po pn pc zs P st) (hg : w'.grownBy w'' none) : Fi w w'' R G U po pn pc zs P st :=
  h.call (h.rd.kept hg (by simp) (by simp)) (grown_any hg)

/-- Second half: the box and the key. -/
structure Fj (w w' : World) (R G U T : Nat) (zs : List Int) (st : Nat × Int) (ka : Option Addr) (kn kc : Nat) (Ky : List Int) (a b c d : Value) : Prop where
  rd : Rr w' R G zs st.1 st.2
  u : Bx w' U (.slice none 0 0) (.slice none 0 0) (.int .i64 0) (.int .i64 0)
  t : Bx w' T a b c d
  kq : Kq w' R ka kn kc Ky
  gr : w.grownBy w' (some R)
  hT : T ≠ R ∧ T ≠ G ∧ T ≠ U ∧ w.heap.size ≤ T
  hU : U ≠ R ∧ U ≠ G ∧ w.heap.size ≤ U
theorem bx_u8 {w : World} {T : Nat} {a b c d : Value} (h : Bx w T a b c d) : ∀ k, U8 w k → some k ≠ some T := by
  intro k ⟨cur, h1⟩ e
  obtain rfl := Option.some.inj e
  unfold Bx at h
  rw [h1] at h
  simp only [Option.some.injEq, Obj.cells.injEq] at h
  exact absurd h.2.1 (by decide)
theorem Fj.call {w w' w'' : World} {R G U T : Nat} {zs : List Int} {st st' : Nat × Int} {ka : Option Addr} {kn kc : Nat} {Ky : List Int} {a b c d : Value} (h : Fj w w' R G U T zs st ka kn kc Ky a b c d) (hr : Rr w'' R G zs st'.1 st'.2) (hg : w'.grownBy w'' (some R)) : Fj w w'' R G U T zs st' ka kn kc Ky a b c d :=
  ⟨hr, h.u.kept hg (fun e => h.hU.1 (Option.some.inj e)), h.t.kept hg (fun e => h.hT.1 (Option.some.inj e)), h.kq.kept hg (fun _ hb _ e => hb (Option.some.inj e)), grown_trans h.gr hg, h.hT, h.hU⟩
theorem Fj.frame {w w' w'' : World} {R G U T : Nat} {zs : List Int} {st : Nat × Int} {ka : Option Addr} {kn kc : Nat} {Ky : List Int} {a b c d a' b' c' d' : Value} (h : Fj w w' R G U T zs st ka kn kc Ky a b c d) (hg : w'.grownBy w'' (some T)) (ht : Bx w'' T a' b' c' d') : Fj w w'' R G U T zs st ka kn kc Ky a' b' c' d' :=
  ⟨h.rd.kept hg (fun e => h.hT.1 (Option.some.inj e).symm) (fun e => h.hT.2.1 (Option.some.inj e).symm), h.u.kept hg (fun e => h.hT.2.2.1 (Option.some.inj e).symm), ht, h.kq.kept hg (fun b _ hu => bx_u8 h.t b hu), grown_newR h.gr hg h.hT.2.2.2, h.hT, h.hU⟩
theorem Fj.done {w w' : World} {R G U T : Nat} {zs : List Int} {st : Nat × Int} {ka : Option Addr} {kn kc : Nat} {Ky : List Int} {a b c d : Value} (h : Fj w w' R G U T zs st ka kn kc Ky a b c d) :
    Bx ((((w'.setCell ⟨U, 0, none⟩ a).setCell ⟨U, 1, none⟩ b).setCell ⟨U, 2, none⟩ c).setCell ⟨U, 3, none⟩ d) U a b c d ∧ w'.grownBy ((((w'.setCell ⟨U, 0, none⟩ a).setCell ⟨U, 1, none⟩ b).setCell ⟨U, 2, none⟩ c).setCell ⟨U, 3, none⟩ d) (some U) ∧
    Rr ((((w'.setCell ⟨U, 0, none⟩ a).setCell ⟨U, 1, none⟩ b).setCell ⟨U, 2, none⟩ c).setCell ⟨U, 3, none⟩ d) R G zs st.1 st.2 ∧ Kq ((((w'.setCell ⟨U, 0, none⟩ a).setCell ⟨U, 1, none⟩ b).setCell ⟨U, 2, none⟩ c).setCell ⟨U, 3, none⟩ d) R ka kn kc Ky ∧
    w.grownBy ((((w'.setCell ⟨U, 0, none⟩ a).setCell ⟨U, 1, none⟩ b).setCell ⟨U, 2, none⟩ c).setCell ⟨U, 3, none⟩ d) (some R) := by
  have hg := grown_trans (grown_trans (grown_trans (grown_cell w' U 0 a) (grown_cell _ U 1 b)) (grown_cell _ U 2 c)) (grown_cell _ U 3 d)
  exact ⟨(((h.u.set0 a).set1 b).set2 c).set3 d, hg, h.rd.kept hg (fun e => h.hU.1 (Option.some.inj e).symm) (fun e => h.hU.2.1 (Option.some.inj e).symm), h.kq.kept hg (fun b _ hu => bx_u8 h.u b hu), grown_newR h.gr hg h.hU.2.2⟩
theorem rr_four (R G : Nat) (zs : List Int) (s : Nat × Int) (w : World) (h : Rr w R G zs s.1 s.2) (hbt : Bt zs) :
    Calls Try.prog 52 #[.pointer (some ⟨R, 0, none⟩), .int .i64 4] w fun en w' => en = .returned (.int .u64 ((sN zs s 4).1 : Nat)) ∧ Rr w' R G zs (sN zs s 4).2.1 (sN zs s 4).2.2 ∧ w.grownBy w' (some R) := rr_N R G zs s 4 w h hbt (by omega)

set_option maxHeartbeats 4000000 in
set_option maxRecDepth 100000 in
theorem ritem_any (R G : Nat) (zs : List Int) (s : Nat × Int) (po : Option Addr) (pn pc : Nat) (P : List Int) (w : World) (h : Rr w R G zs s.1 s.2) (hbt : Bt zs) (hP : Byt w po pn pc P) (hpb : ∀ ad, po = some ad → 0 < pn → ad.block ≠ R) (hpn : pn ≤ 5000) (hz : zs.length ≤ 5000) :
    Calls Try.prog 55 #[.pointer (some ⟨R, 0, none⟩), .slice po pn pc] w fun en w' => (∃ ao n c bo m d, en = .returned (.agg #[.slice ao n c, .slice bo m d, .int .i64 (rItem zs P s).1.size, .int .i64 (rItem zs P s).1.first]) ∧ Im w' R ao n c bo m d (rItem zs P s).1) ∧ Rr w' R G zs (rItem zs P s).2.1 (rItem zs P s).2.2 ∧ w.grownBy w' (some R) := by
  have HI : Hid (rItem zs P s = sVal zs (rKey zs P s).1 ((sV zs (rKey zs P s).2).1, rChk (sV zs (rKey zs P s).2).2 (sV zs (rKey zs P s).2).1 524289)) := rfl
  have HKY : Hid (rKey zs P s = (P ++ (sB zs (rChk (sV zs s).2 (sV zs s).1 255) (i64 (sV zs s).1)).1, (sB zs (rChk (sV zs s).2 (sV zs s).1 255) (i64 (sV zs s).1)).2)) := rfl
  have hRl := h.lt.1
  have hGl := h.lt.2
  have hPl := hP.len
  have ga := World.grownBy_alloc w (.cells #[.slice none 0 0, .slice none 0 0, .int .i64 0, .int .i64 0] 48) none
  have F1 : Hid (Fi w (w.alloc (.cells #[.slice none 0 0, .slice none 0 0, .int .i64 0, .int .i64 0] 48)) R G w.heap.size po pn pc zs P s) :=
    ⟨h.kept ga (by simp) (by simp), Bx.new w _ _ _ _, hP.keptN ga, grown_any ga, ⟨by omega, by omega, Nat.le_refl _⟩, hpb⟩
  have HV1 := hid_intro (fun (W : World) (hW : Rr W R G zs s.1 s.2) => rr_V R G zs s W hW hbt)
  have hv1 := sV_lt zs s hbt
  have hwr := i64_wrap hv1
  clear ga h hP hpb
  go_enter Try.func55, Try.ntmps55
  go_wp2_with fail
  generalize w.alloc (.cells #[.slice none 0 0, .slice none 0 0, .int .i64 0, .int .i64 0] 48) = w1 at *
  generalize hU : w.heap.size = U at *
  have HU := hid_intro hU
  clear hU
  refine (HV1.out _ F1.out.rd).mono ?_
  rintro en w2 ⟨rfl, hr2, hg2⟩
  have F2 := hid_intro (F1.out.call hr2 hg2)
  clear hr2 hg2 HV1 F1
  generalize (sV zs s).2 = t1 at *
  generalize (sV zs s).1 = sv at *
  generalize i64 sv = sm at *
  go_upto_if 14 with fail
  go_cut [] from 15 to 17 (fun wx => Fi w wx R G U po pn pc zs P (rChk t1 sv 255))
  case first =>
    by_cases hs : 255 < sv
    · have hs' : (255 : Int) < (sv : Int) := by omega
      have e1 : rChk t1 sv 255 = (t1.1, 10) := by unfold rChk; rw [if_pos hs]
      obtain ⟨c0, c1, c2, f1, f2⟩ := F2.out.rd.cells
      obtain ⟨r1, r2⟩ := F2.out.rd.setErr 10
      have F3 : Hid (Fi w (w2.setCell ⟨R, 2, none⟩ (.int .i64 10)) R G U po pn pc zs P (rChk t1 sv 255)) := by rw [e1]; exact F2.out.call (st' := (t1.1, 10)) r1 r2
      clear e1 r1 r2
      go_wp2_with fail
      go_meet
      exact F3.out
    · have hs' : ¬ (255 : Int) < (sv : Int) := by omega
      have e1 : rChk t1 sv 255 = t1 := by unfold rChk; rw [if_neg hs]
      go_wp2_with fail
      go_meet
      rw [e1]
      exact F2.out
  case rest =>
  have F3 := hid_intro hcut
  clear hcut F2
  generalize rChk t1 sv 255 = t2 at *
  have HB3 := hid_intro (fun (W : World) (hW : Rr W R G zs t2.1 t2.2) => rr_B R G zs t2 sm W hW)
  generalize (sB zs t2 sm).2 = t3 at *
  generalize (sB zs t2 sm).1 = X at *
  have HXL := hid_intro HKY.out
  go_wp2_with fail
  refine (HB3.out _ F3.out.rd).mono ?_
  rintro en w4 ⟨⟨ro, rn, rc, rfl, hb4, hrn, hrc, hrz, _⟩, hr4, hg4⟩
  have F4 := hid_intro (F3.out.call hr4 hg4)
  have X4 := hid_intro hb4
  have hxl := hb4.len
  clear hb4 hr4 hg4 HB3 F3
  go_wp2_with fail
  refine (refBytes_any po pn pc P _ F4.out.pb (by omega)).mono ?_
  rintro en w5 ⟨rfl, hown5, hg5, hs5⟩
  have O5 := hid_intro hown5
  have G5 := hid_intro hg5
  have hb0 : R < w4.heap.size := F4.out.rd.lt.1
  clear hown5 hg5
  go_wp2
  go_loopw [7, 8] (fun sk si wr => ∃ i : Nat, i ≤ rn ∧ si = .int .i64 i ∧ wr.ownsRow w4.heap.size 5 1 sk (pn + i) ((P ++ X.take i).map (Value.int .u8)) ∧ w4.grownBy wr none) (fun _ si _ => rn - (intOf si).toNat)
  case atStart => exact ⟨0, Nat.zero_le _, rfl, by rw [List.take_zero, List.append_nil]; exact O5.out, G5.out⟩
  case round =>
    obtain ⟨i, hi, rfl, hown, hg⟩ := hrel
    have HO := hid_intro hown
    have HG := hid_intro hg
    have hsz := hg.size
    clear hown hg O5 G5
    by_cases hlt : i < rn
    · obtain ⟨xb, xo, rfl, _, hxc⟩ := X4.out.at (by omega)
      have cx := HG.out.cell (hxc i hlt) (by simp)
      have hsn := take_snoc (zs := X) (i := i) (by omega)
      clear hxc
      generalize X.getD i 0 = z at *
      have HN : Hid (P ++ X.take (i + 1) = (P ++ X.take i) ++ [z]) := by show _ = _; rw [hsn, List.append_assoc]
      clear hsn
      generalize P ++ X.take i = Z at *
      obtain ⟨pi, hpi⟩ : ∃ pi, pn + i = pi := ⟨_, rfl⟩
      rw [hpi] at HO
      have hpi2 : pi ≤ 20000 := by omega
      have HPI := hid_intro hpi
      clear hpi
      go_wp2_with (at_builtin; refine wpList_append_byt rfl _ _ rfl w4.heap.size _ pi Z rfl (HO.out.alloc _) (some ⟨wr.heap.size, 0, none⟩) 1 1 [z] rfl (Byt.lit wr 5 _ [z] 1 rfl rfl) (by omega) (by simp; omega) ?_)
      intro v' w6 ho6 hg6
      have HG6 := hid_intro (grown_app HG.out HO.out (Nat.le_refl _) hg6)
      have HO6 : Hid (w6.ownsRow w4.heap.size 5 1 v' (pi + 1) ((Z ++ [z]).map (Value.int .u8))) := by have := ho6; simp only [List.map_append, List.map_cons, List.map_nil] at this ⊢; exact this
      clear ho6 hg6 HG HO cx
      go_wp2
      go_roundw
      case rel => exact ⟨i + 1, by omega, by go_num, by rw [HN.out, ← Nat.add_assoc, HPI.out]; exact HO6.out, HG6.out⟩
      case measure => simp [intOf]; omega
    · have hin : i = rn := by omega
      subst hin
      have hXt : X.take i = X := by rw [← hxl, List.take_length]
      rw [hXt] at HO
      clear hXt
      obtain ⟨ka, kc, e9, hkq⟩ := Kq.of_owns HO.out hb0
      subst e9
      have KQ := hid_intro hkq
      have F6 := hid_intro (F4.out.keptN HG.out)
      have hkl := hkq.b.len
      clear hkq HO HG F4
      have HKY2 : Hid (rKey zs P s = (P ++ X, t3)) := HKY.out
      generalize P ++ X = Ky at *
      rw [HKY2.out] at HI
      simp only at HI
      clear HKY HKY2 HXL
      have HV2 := hid_intro (fun (W : World) (hW : Rr W R G zs t3.1 t3.2) => rr_V R G zs t3 W hW hbt)
      have hv2 := sV_lt zs t3 hbt
      generalize (sV zs t3).2 = t4 at *
      generalize (sV zs t3).1 = tv at *
      obtain ⟨kn, hkn⟩ : ∃ kn, pn + i = kn := ⟨_, rfl⟩
      rw [hkn] at KQ ⊢
      clear hkn hkl
      go_wp2_with fail
      refine (HV2.out _ F6.out.rd).mono ?_
      rintro en w7 ⟨rfl, hr7, hg7⟩
      have F7 := hid_intro (F6.out.call hr7 hg7)
      have K7 := hid_intro (KQ.out.kept hg7 (fun b hb _ e => hb (Option.some.inj e)))
      clear hr7 hg7 HV2 F6 KQ
      go_upto_if 40 with fail
      go_cut [] from 41 to 43 (fun wx => Fi w wx R G U po pn pc zs P (rChk t4 tv 524289) ∧ Kq wx R ka kn kc Ky)
      case first =>
        by_cases hs : 524289 < tv
        · have hs' : (524289 : Int) < (tv : Int) := by omega
          have e1 : rChk t4 tv 524289 = (t4.1, 10) := by unfold rChk; rw [if_pos hs]
          obtain ⟨c0, c1, c2, f1, f2⟩ := F7.out.rd.cells
          obtain ⟨r1, r2⟩ := F7.out.rd.setErr 10
          have F8 : Hid (Fi w (w7.setCell ⟨R, 2, none⟩ (.int .i64 10)) R G U po pn pc zs P (rChk t4 tv 524289)) := by rw [e1]; exact F7.out.call (st' := (t4.1, 10)) r1 r2
          have K8 := hid_intro (K7.out.kept r2 (fun b hb _ e => hb (Option.some.inj e)))
          clear e1 r1 r2
          go_wp2_with fail
          go_meet
          exact ⟨F8.out, K8.out⟩
        · have hs' : ¬ (524289 : Int) < (tv : Int) := by omega
          have e1 : rChk t4 tv 524289 = t4 := by unfold rChk; rw [if_neg hs]
          go_wp2_with fail
          go_meet
          rw [e1]
          exact ⟨F7.out, K7.out⟩
      case rest =>
      obtain ⟨hf8, hk8⟩ := hcut
      generalize rChk t4 tv 524289 = t5 at *
      obtain ⟨h2, hh2⟩ : ∃ h2 : Nat, tv / 2 = h2 := ⟨_, rfl⟩
      have HVL : Hid (rItem zs P s = if tv % 2 = 1 then (⟨Ky, [], (h2 : Nat), ((sN zs t5 4).1 : Nat)⟩, (sN zs t5 4).2) else (⟨Ky, (sB zs t5 (h2 : Nat)).1, (h2 : Nat), 0⟩, (sB zs t5 (h2 : Nat)).2)) := by
        show _ = _
        rw [HI.out, ← hh2]
        rfl
      have hdiv : (tv : Int) / 2 = (h2 : Int) := by omega
      have hh3 : h2 ≤ 9223372036854775807 := by omega
      have hnl := sN_lt zs t5 4 hbt
      have HN4 := hid_intro (fun (W : World) (hW : Rr W R G zs t5.1 t5.2) => rr_four R G zs t5 W hW hbt)
      have HB4 := hid_intro (fun (W : World) (hW : Rr W R G zs t5.1 t5.2) => rr_B R G zs t5 (h2 : Nat) W hW)
      have gb := World.grownBy_alloc wc (.cells #[.slice ka kn kc, .slice none 0 0, .int .i64 (h2 : Int), .int .i64 0] 48) none
      have hl8 := hf8.rd.lt
      have hul := hf8.u.lt
      have J9 : Hid (Fj w (wc.alloc (.cells #[.slice ka kn kc, .slice none 0 0, .int .i64 (h2 : Int), .int .i64 0] 48)) R G U wc.heap.size zs t5 ka kn kc Ky (.slice ka kn kc) (.slice none 0 0) (.int .i64 (h2 : Int)) (.int .i64 0)) :=
        ⟨hf8.rd.kept gb (by simp) (by simp), hf8.u.kept gb (by simp), Bx.new wc _ _ _ _, hk8.kept gb (fun _ _ _ => by simp), grown_trans hf8.gr (grown_any gb), ⟨by omega, by omega, by omega, hf8.gr.size⟩, hf8.hU⟩
      clear gb hf8 hk8 F7 K7 hh2 HI hl8 hul
      by_cases hod : tv % 2 = 1
      · have hmod : (tv : Int) % 2 = 1 := by omega
        rw [if_pos hod] at HVL
        go_wp2_with fail
        generalize wc.alloc (.cells #[.slice ka kn kc, .slice none 0 0, .int .i64 (h2 : Int), .int .i64 0] 48) = w9 at *
        generalize wc.heap.size = T at *
        refine (HN4.out _ J9.out.rd).mono ?_
        rintro en w10 ⟨rfl, hr10, hg10⟩
        have J10 := hid_intro (J9.out.call hr10 hg10)
        clear hr10 hg10 J9 HN4 HB4
        generalize (sN zs t5 4).1 = fn at *
        have hfn : fn < 4294967296 := hnl
        have f3 := J10.out.t.frozen 3
        obtain ⟨t0, t1', t2', t3'⟩ := J10.out.t.cells
        have J11 := hid_intro (J10.out.frame (grown_cell w10 T 3 (.int .i64 (fn : Int))) (J10.out.t.set3 _))
        obtain ⟨v0, v1, v2, v3⟩ := J11.out.t.cells
        obtain ⟨y0, y1, y2, y3⟩ := J11.out.u.cells
        have z0 := J11.out.u.frozen 0
        have z1 := J11.out.u.frozen 1
        have z2 := J11.out.u.frozen 2
        have z3 := J11.out.u.frozen 3
        have HD := hid_intro J11.out.done
        go_wp2
        obtain ⟨d1, d2, d3, d4, d5⟩ := HD.out
        refine bodyPost_ret (ret_item rfl _ _ U _ _ _ _ rfl d1) rfl ?_
        rw [HVL.out]
        exact ⟨⟨_, _, _, _, _, _, rfl, ⟨d4.b, d4.c, Byt.zero _ _, ⟨Nat.le_refl _, by omega⟩, d4.u, fun ad e _ => by cases e⟩⟩, d3, d5⟩
      · have hmod : (tv : Int) % 2 = 0 := by omega
        rw [if_neg hod] at HVL
        obtain ⟨x0, x1, x2, x3⟩ := J9.out.t.cells
        go_wp2_with fail
        clear x0 x1 x2 x3
        generalize wc.alloc (.cells #[.slice ka kn kc, .slice none 0 0, .int .i64 (h2 : Int), .int .i64 0] 48) = w9 at *
        generalize wc.heap.size = T at *
        refine (HB4.out _ J9.out.rd).mono ?_
        rintro en w10 ⟨⟨bo, m, d, rfl, hb10, hm10, hmd, hdz, hbu⟩, hr10, hg10⟩
        have V10 : Hid (Kq w10 R bo m d (sB zs t5 (h2 : Nat)).1) := ⟨hb10, ⟨hmd, by omega⟩, fun ad e hn => ⟨by have := (hbu ad e hn).1; have := J9.out.rd.lt.1; omega, (hbu ad e hn).2⟩⟩
        have J10 := hid_intro (J9.out.call hr10 hg10)
        clear hr10 hg10 J9 HN4 HB4 hb10 hbu
        generalize (sB zs t5 (h2 : Nat)).1 = V at *
        have f1 := J10.out.t.frozen 1
        obtain ⟨t0, t1', t2', t3'⟩ := J10.out.t.cells
        have J11 := hid_intro (J10.out.frame (grown_cell w10 T 1 (.slice bo m d)) (J10.out.t.set1 _))
        have V11 := hid_intro (V10.out.kept (grown_cell w10 T 1 (.slice bo m d)) (fun b _ hu => bx_u8 J10.out.t b hu))
        obtain ⟨v0, v1, v2, v3⟩ := J11.out.t.cells
        obtain ⟨y0, y1, y2, y3⟩ := J11.out.u.cells
        have z0 := J11.out.u.frozen 0
        have z1 := J11.out.u.frozen 1
        have z2 := J11.out.u.frozen 2
        have z3 := J11.out.u.frozen 3
        have HD := hid_intro J11.out.done
        go_wp2
        obtain ⟨d1, d2, d3, d4, d5⟩ := HD.out
        have V12 := V11.out.kept d2 (fun b _ hu => bx_u8 J11.out.u b hu)
        refine bodyPost_ret (ret_item rfl _ _ U _ _ _ _ rfl d1) rfl ?_
        rw [HVL.out]
        exact ⟨⟨_, _, _, _, _, _, rfl, ⟨d4.b, d4.c, V12.b, V12.c, d4.u, V12.u⟩⟩, d3, d5⟩
end Go.Proofs.Ytlfhonlifgpnhaa
