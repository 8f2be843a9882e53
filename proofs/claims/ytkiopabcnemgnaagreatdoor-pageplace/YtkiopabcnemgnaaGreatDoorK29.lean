import Derived.Test.YtkiopabcnemgnaaGreatDoorK27
import Derived.Deep.CutBlock
set_option maxRecDepth 100000
set_option maxHeartbeats 4000000
namespace Go.Proofs.YtkiopabcnemgnaaGreatDoor
open Go.RowKit
structure Kq (w : World) (R : Nat) (ao : Option Addr) (n c : Nat) (zs : List Int) : Prop where
 b : Byt w ao n c zs
 c : n ≤ c ∧ c ≤ 9223372036854775807
 u : ∀ ad, ao = some ad → 0 < n → ad.block ≠ R ∧ U8 w ad.block
theorem Kq.kept {w w' : World} {R : Nat} {ao : Option Addr} {n c : Nat} {zs : List Int} {row : Option Nat} (h : Kq w R ao n c zs) (hg : w.grownBy w' row) (hne : ∀ b, b ≠ R → U8 w b → some b ≠ row) : Kq w' R ao n c zs :=
 ⟨h.b.kept hg (fun ad e hn => hne _ (h.u ad e hn).1 (h.u ad e hn).2), h.c, fun ad e hn => ⟨(h.u ad e hn).1, (h.u ad e hn).2.kept hg (hne _ (h.u ad e hn).1 (h.u ad e hn).2)⟩⟩
theorem Kq.of_owns {w : World} {R base n : Nat} {v : Value} {zs : List Int} (h : w.ownsRow base 5 1 v n (zs.map (Value.int .u8))) (hR : R < base) : ∃ ao c, v = .slice ao n c ∧ Kq w R ao n c zs := by
 obtain ⟨ao, c, rfl, hb⟩ := owns_any h;refine ⟨ao, c, rfl, hb, ?_, fun ad e hn => ?_⟩
 ·rcases h.2 with ⟨e, rfl⟩ | ⟨g, cap, cur, hv, _, _, hc, hm, _⟩
  ·injection e with _ _ e3
   subst e3;exact ⟨Nat.le_refl _, by omega⟩
  ·injection hv with _ _ e3
   subst e3;exact ⟨hc, by unfold maxLen at hm; omega⟩
 ·rcases h.2 with ⟨e2, rfl⟩ | ⟨g, cap, cur, hv, hbg, hgg, _⟩
  ·omega
  ·injection hv with x1
   rw [e] at x1;obtain rfl := Option.some.inj x1;exact ⟨by show g ≠ R; omega, ⟨cur, hgg⟩⟩
structure Fi (w w' : World) (R G U : Nat) (po : Option Addr) (pn pc : Nat) (zs P : List Int) (st : Nat × Int) : Prop where
 rd : Rr w' R G zs st.1 st.2
 u : Bx w' U (.slice none 0 0) (.slice none 0 0) (.int .i64 0) (.int .i64 0)
 pb : Byt w' po pn pc P
 gr : w.grownBy w' (some R)
 hU : U ≠ R ∧ U ≠ G ∧ w.heap.size ≤ U
 hp : ∀ ad, po = some ad → 0 < pn → ad.block ≠ R
theorem Fi.call {w w' w'' : World} {R G U : Nat} {po : Option Addr} {pn pc : Nat} {zs P : List Int} {st st' : Nat × Int} (h : Fi w w' R G U po pn pc zs P st) (hr : Rr w'' R G zs st'.1 st'.2) (hg : w'.grownBy w'' (some R)) : Fi w w'' R G U po pn pc zs P st' :=
 ⟨hr, h.u.kept hg (fun e => h.hU.1 (Option.some.inj e)), h.pb.kept hg (fun ad e hn e2 => h.hp ad e hn (Option.some.inj e2)), gQ h.gr hg, h.hU, h.hp⟩
theorem Fi.keptN {w w' w'' : World} {R G U : Nat} {po : Option Addr} {pn pc : Nat} {zs P : List Int} {st : Nat × Int} (h : Fi w w' R G U po pn pc zs P st) (hg : w'.grownBy w'' none) : Fi w w'' R G U po pn pc zs P st :=
 h.call (h.rd.kept hg (by simp) (by simp)) (grown_any hg)
structure Fj (w w' : World) (R G U T : Nat) (zs : List Int) (st : Nat × Int) (ka : Option Addr) (kn kc : Nat) (Ky : List Int) (a b c d : Value) : Prop where
 rd : Rr w' R G zs st.1 st.2
 u : Bx w' U (.slice none 0 0) (.slice none 0 0) (.int .i64 0) (.int .i64 0)
 t : Bx w' T a b c d
 kq : Kq w' R ka kn kc Ky
 gr : w.grownBy w' (some R)
 hT : T ≠ R ∧ T ≠ G ∧ T ≠ U ∧ w.heap.size ≤ T
 hU : U ≠ R ∧ U ≠ G ∧ w.heap.size ≤ U
theorem bx_u8 {w : World} {T : Nat} {a b c d : Value} (h : Bx w T a b c d) : ∀ k, U8 w k → some k ≠ some T := by
 intro k ⟨cur, h1⟩ e;obtain rfl := Option.some.inj e;unfold Bx at h;rw [h1] at h;simp only [Option.some.injEq, Obj.cells.injEq] at h;exact absurd h.2.1 (by decide)
theorem Fj.call {w w' w'' : World} {R G U T : Nat} {zs : List Int} {st st' : Nat × Int} {ka : Option Addr} {kn kc : Nat} {Ky : List Int} {a b c d : Value} (h : Fj w w' R G U T zs st ka kn kc Ky a b c d) (hr : Rr w'' R G zs st'.1 st'.2) (hg : w'.grownBy w'' (some R)) : Fj w w'' R G U T zs st' ka kn kc Ky a b c d :=
 ⟨hr, h.u.kept hg (fun e => h.hU.1 (Option.some.inj e)), h.t.kept hg (fun e => h.hT.1 (Option.some.inj e)), h.kq.kept hg (fun _ hb _ e => hb (Option.some.inj e)), gQ h.gr hg, h.hT, h.hU⟩
theorem Fj.frame {w w' w'' : World} {R G U T : Nat} {zs : List Int} {st : Nat × Int} {ka : Option Addr} {kn kc : Nat} {Ky : List Int} {a b c d a' b' c' d' : Value} (h : Fj w w' R G U T zs st ka kn kc Ky a b c d) (hg : w'.grownBy w'' (some T)) (ht : Bx w'' T a' b' c' d') : Fj w w'' R G U T zs st ka kn kc Ky a' b' c' d' :=
 ⟨h.rd.kept hg (fun e => h.hT.1 (Option.some.inj e).symm) (fun e => h.hT.2.1 (Option.some.inj e).symm), h.u.kept hg (fun e => h.hT.2.2.1 (Option.some.inj e).symm), ht, h.kq.kept hg (fun b _ hu => bx_u8 h.t b hu), grown_newR h.gr hg h.hT.2.2.2, h.hT, h.hU⟩
theorem Fj.done {w w' : World} {R G U T : Nat} {zs : List Int} {st : Nat × Int} {ka : Option Addr} {kn kc : Nat} {Ky : List Int} {a b c d : Value} (h : Fj w w' R G U T zs st ka kn kc Ky a b c d) :
  Bx ((((w'.setCell ⟨U, 0, none⟩ a).setCell ⟨U, 1, none⟩ b).setCell ⟨U, 2, none⟩ c).setCell ⟨U, 3, none⟩ d) U a b c d ∧ w'.grownBy ((((w'.setCell ⟨U, 0, none⟩ a).setCell ⟨U, 1, none⟩ b).setCell ⟨U, 2, none⟩ c).setCell ⟨U, 3, none⟩ d) (some U) ∧
  Rr ((((w'.setCell ⟨U, 0, none⟩ a).setCell ⟨U, 1, none⟩ b).setCell ⟨U, 2, none⟩ c).setCell ⟨U, 3, none⟩ d) R G zs st.1 st.2 ∧ Kq ((((w'.setCell ⟨U, 0, none⟩ a).setCell ⟨U, 1, none⟩ b).setCell ⟨U, 2, none⟩ c).setCell ⟨U, 3, none⟩ d) R ka kn kc Ky ∧
  w.grownBy ((((w'.setCell ⟨U, 0, none⟩ a).setCell ⟨U, 1, none⟩ b).setCell ⟨U, 2, none⟩ c).setCell ⟨U, 3, none⟩ d) (some R) := by
 have hg := gQ (gQ (gQ (grown_cell w' U 0 a) (grown_cell _ U 1 b)) (grown_cell _ U 2 c)) (grown_cell _ U 3 d);exact ⟨(((h.u.set0 a).set1 b).set2 c).set3 d, hg, h.rd.kept hg (fun e => h.hU.1 (Option.some.inj e).symm) (fun e => h.hU.2.1 (Option.some.inj e).symm), h.kq.kept hg (fun b _ hu => bx_u8 h.u b hu), grown_newR h.gr hg h.hU.2.2⟩
theorem rr_four (R G : Nat) (zs : List Int) (s : Nat × Int) (w : World) (h : Rr w R G zs s.1 s.2) (hbt : Bt zs) :
  Calls Tryz.prog 62 #[.pointer (some ⟨R, 0, none⟩), .int .i64 4] w fun en w' => en = .returned (.int .u64 ((sN zs s 4).1 : Nat)) ∧ Rr w' R G zs (sN zs s 4).2.1 (sN zs s 4).2.2 ∧ w.grownBy w' (some R) := rr_N R G zs s 4 w h hbt (by omega)
theorem ritem_any (R G : Nat) (zs : List Int) (s : Nat × Int) (po : Option Addr) (pn pc : Nat) (P : List Int) (w : World) (h : Rr w R G zs s.1 s.2) (hbt : Bt zs) (hP : Byt w po pn pc P) (hpb : ∀ ad, po = some ad → 0 < pn → ad.block ≠ R) (hpn : pn ≤ 5000) (hz : zs.length ≤ 5000) :
  Calls Tryz.prog 65 #[.pointer (some ⟨R, 0, none⟩), .slice po pn pc] w fun en w' => (∃ ao n c bo m d, en = .returned (.agg #[.slice ao n c, .slice bo m d, .int .i64 (rItem zs P s).1.size, .int .i64 (rItem zs P s).1.first]) ∧ Im w' R ao n c bo m d (rItem zs P s).1) ∧ Rr w' R G zs (rItem zs P s).2.1 (rItem zs P s).2.2 ∧ w.grownBy w' (some R) := by
 have HI : Hid (rItem zs P s = sVal zs (rKey zs P s).1 ((sV zs (rKey zs P s).2).1, rChk (sV zs (rKey zs P s).2).2 (sV zs (rKey zs P s).2).1 524289)) := rfl;have HKY : Hid (rKey zs P s = (P ++ (sB zs (rChk (sV zs s).2 (sV zs s).1 255) (i64 (sV zs s).1)).1, (sB zs (rChk (sV zs s).2 (sV zs s).1 255) (i64 (sV zs s).1)).2)) := rfl;have hRl := h.lt.1;have hGl := h.lt.2;have hPl := hP.len;have ga := World.grownBy_alloc w (.cells #[.slice none 0 0, .slice none 0 0, .int .i64 0, .int .i64 0] 62) none
 have F1 : Hid (Fi w (w.alloc (.cells #[.slice none 0 0, .slice none 0 0, .int .i64 0, .int .i64 0] 62)) R G w.heap.size po pn pc zs P s) :=
  ⟨h.kept ga (by simp) (by simp), Bx.new w _ _ _ _, hP.keptN ga, grown_any ga, ⟨by omega, by omega, Nat.le_refl _⟩, hpb⟩
 have HV1 := hJ (fun (W : World) (hW : Rr W R G zs s.1 s.2) => rr_V R G zs s W hW hbt);have hv1 := sV_lt zs s hbt;have hwr := i64_wrap hv1;clear ga h hP hpb;go_enter Tryz.func65, Tryz.ntmps65
 go_wp2_with fail
 generalize w.alloc (.cells #[.slice none 0 0, .slice none 0 0, .int .i64 0, .int .i64 0] 62) = w1 at *;generalize hU : w.heap.size = U at *;have HU := hJ hU;clear hU;refine (HV1.out _ F1.out.rd).mono ?_;rintro en w2 ⟨rfl, hr2, hg2⟩;have F2 := hJ (F1.out.call hr2 hg2);clear hr2 hg2 HV1 F1;generalize (sV zs s).2 = t1 at *;generalize (sV zs s).1 = sv at *;generalize i64 sv = sm at *
 go_upto_if 14 with fail
 go_cut [] from 15 to 17 (fun wx => Fi w wx R G U po pn pc zs P (rChk t1 sv 255))
 case first =>
  by_cases hs : 255 < sv
  ·have hs' : (255 : Int) < (sv : Int) := by omega
   have e1 : rChk t1 sv 255 = (t1.1, 10) := by unfold rChk; rw [if_pos hs]
   obtain ⟨c0, c1, c2, f1, f2⟩ := F2.out.rd.cells;obtain ⟨r1, r2⟩ := F2.out.rd.setErr 10;have F3 : Hid (Fi w (w2.setCell ⟨R, 2, none⟩ (.int .i64 10)) R G U po pn pc zs P (rChk t1 sv 255)) := by rw [e1]; exact F2.out.call (st' := (t1.1, 10)) r1 r2
   clear e1 r1 r2
   go_wp2_with fail
   go_meet;exact F3.out
  ·have hs' : ¬ (255 : Int) < (sv : Int) := by omega
   have e1 : rChk t1 sv 255 = t1 := by unfold rChk; rw [if_neg hs]
   go_wp2_with fail
   go_meet;rw [e1];exact F2.out
 case rest =>
 have F3 := hJ hcut;clear hcut F2;generalize rChk t1 sv 255 = t2 at *;have HB3 := hJ (fun (W : World) (hW : Rr W R G zs t2.1 t2.2) => rr_B R G zs t2 sm W hW);generalize (sB zs t2 sm).2 = t3 at *;generalize (sB zs t2 sm).1 = X at *;have HXL := hJ HKY.out
 go_wp2_with fail
 refine (HB3.out _ F3.out.rd).mono ?_;rintro en w4 ⟨⟨ro, rn, rc, rfl, hb4, hrn, hrc, hrz, _⟩, hr4, hg4⟩;have F4 := hJ (F3.out.call hr4 hg4);have X4 := hJ hb4;have hxl := hb4.len;clear hb4 hr4 hg4 HB3 F3
 go_wp2_with fail
 refine (refBytes_any po pn pc P _ F4.out.pb (by omega)).mono ?_;rintro en w5 ⟨rfl, hown5, hg5, hs5⟩;have O5 := hJ hown5;have G5 := hJ hg5;have hb0 : R < w4.heap.size := F4.out.rd.lt.1;clear hown5 hg5;go_wp2;go_loopw [7, 8] (fun sk si wr => ∃ i : Nat, i ≤ rn ∧ si = .int .i64 i ∧ wr.ownsRow w4.heap.size 5 1 sk (pn + i) ((P ++ X.take i).map (Value.int .u8)) ∧ w4.grownBy wr none) (fun _ si _ => rn - (intOf si).toNat)
 case atStart => exact ⟨0, Nat.zero_le _, rfl, by rw [List.take_zero, List.append_nil]; exact O5.out, G5.out⟩
 case round =>
  obtain ⟨i, hi, rfl, hown, hg⟩ := hrel;have HO := hJ hown;have HG := hJ hg;have hsz := hg.size;clear hown hg O5 G5
  by_cases hlt : i < rn
  ·obtain ⟨xb, xo, rfl, _, hxc⟩ := X4.out.at (by omega)
   have cx := HG.out.cell (hxc i hlt) (by simp);have hsn := take_snoc (zs := X) (i := i) (by omega);clear hxc;generalize X.getD i 0 = z at *;have HN : Hid (P ++ X.take (i + 1) = (P ++ X.take i) ++ [z]) := by show _ = _; rw [hsn, List.append_assoc]
   clear hsn;generalize P ++ X.take i = Z at *;obtain ⟨pi, hpi⟩ : ∃ pi, pn + i = pi := ⟨_, rfl⟩;rw [hpi] at HO;have hpi2 : pi ≤ 20000 := by omega
   have HPI := hJ hpi;clear hpi
   go_wp2_with (at_builtin; refine wpList_append_byt rfl _ _ rfl w4.heap.size _ pi Z rfl (HO.out.alloc _) (some ⟨wr.heap.size, 0, none⟩) 1 1 [z] rfl (Byt.lit wr 5 _ [z] 1 rfl rfl) (by omega) (by simp; omega) ?_)
   intro v' w6 ho6 hg6;have HG6 := hJ (grown_app HG.out HO.out (Nat.le_refl _) hg6);have HO6 : Hid (w6.ownsRow w4.heap.size 5 1 v' (pi + 1) ((Z ++ [z]).map (Value.int .u8))) := by have := ho6; simp only [List.map_append, List.map_cons, List.map_nil] at this ⊢; exact this
   clear ho6 hg6 HG HO cx;go_wp2;go_roundw
   case rel => exact ⟨i + 1, by omega, by go_num, by rw [HN.out, ← Nat.add_assoc, HPI.out]; exact HO6.out, HG6.out⟩
   case measure => simp [intOf]; omega
  ·have hin : i = rn := by omega
   subst hin;have hXt : X.take i = X := by rw [← hxl, List.take_length]
   rw [hXt] at HO;clear hXt;obtain ⟨ka, kc, e9, hkq⟩ := Kq.of_owns HO.out hb0;subst e9;have KQ := hJ hkq;have F6 := hJ (F4.out.keptN HG.out);have hkl := hkq.b.len;clear hkq HO HG F4;have HKY2 : Hid (rKey zs P s = (P ++ X, t3)) := HKY.out;generalize P ++ X = Ky at *;rw [HKY2.out] at HI;simp only at HI;clear HKY HKY2 HXL;have HV2 := hJ (fun (W : World) (hW : Rr W R G zs t3.1 t3.2) => rr_V R G zs t3 W hW hbt);have hv2 := sV_lt zs t3 hbt;generalize (sV zs t3).2 = t4 at *;generalize (sV zs t3).1 = tv at *;obtain ⟨kn, hkn⟩ : ∃ kn, pn + i = kn := ⟨_, rfl⟩;rw [hkn] at KQ ⊢;clear hkn hkl
   go_wp2_with fail
   refine (HV2.out _ F6.out.rd).mono ?_;rintro en w7 ⟨rfl, hr7, hg7⟩;have F7 := hJ (F6.out.call hr7 hg7);have K7 := hJ (KQ.out.kept hg7 (fun b hb _ e => hb (Option.some.inj e)));clear hr7 hg7 HV2 F6 KQ
   go_upto_if 40 with fail
   go_cut [] from 41 to 43 (fun wx => Fi w wx R G U po pn pc zs P (rChk t4 tv 524289) ∧ Kq wx R ka kn kc Ky)
   case first =>
    by_cases hs : 524289 < tv
    ·have hs' : (524289 : Int) < (tv : Int) := by omega
     have e1 : rChk t4 tv 524289 = (t4.1, 10) := by unfold rChk; rw [if_pos hs]
     obtain ⟨c0, c1, c2, f1, f2⟩ := F7.out.rd.cells;obtain ⟨r1, r2⟩ := F7.out.rd.setErr 10;have F8 : Hid (Fi w (w7.setCell ⟨R, 2, none⟩ (.int .i64 10)) R G U po pn pc zs P (rChk t4 tv 524289)) := by rw [e1]; exact F7.out.call (st' := (t4.1, 10)) r1 r2
     have K8 := hJ (K7.out.kept r2 (fun b hb _ e => hb (Option.some.inj e)));clear e1 r1 r2
     go_wp2_with fail
     go_meet;exact ⟨F8.out, K8.out⟩
    ·have hs' : ¬ (524289 : Int) < (tv : Int) := by omega
     have e1 : rChk t4 tv 524289 = t4 := by unfold rChk; rw [if_neg hs]
     go_wp2_with fail
     go_meet;rw [e1];exact ⟨F7.out, K7.out⟩
   case rest =>
   obtain ⟨hf8, hk8⟩ := hcut;generalize rChk t4 tv 524289 = t5 at *;obtain ⟨h2, hh2⟩ : ∃ h2 : Nat, tv / 2 = h2 := ⟨_, rfl⟩
   have HVL : Hid (rItem zs P s = if tv % 2 = 1 then (⟨Ky, [], (h2 : Nat), ((sN zs t5 4).1 : Nat)⟩, (sN zs t5 4).2) else (⟨Ky, (sB zs t5 (h2 : Nat)).1, (h2 : Nat), 0⟩, (sB zs t5 (h2 : Nat)).2)) := by
    show _ = _
    rw [HI.out, ← hh2]
    rfl
   have hdiv : (tv : Int) / 2 = (h2 : Int) := by omega
   have hh3 : h2 ≤ 9223372036854775807 := by omega
   have hnl := sN_lt zs t5 4 hbt;have HN4 := hJ (fun (W : World) (hW : Rr W R G zs t5.1 t5.2) => rr_four R G zs t5 W hW hbt);have HB4 := hJ (fun (W : World) (hW : Rr W R G zs t5.1 t5.2) => rr_B R G zs t5 (h2 : Nat) W hW);have gb := World.grownBy_alloc wc (.cells #[.slice ka kn kc, .slice none 0 0, .int .i64 (h2 : Int), .int .i64 0] 62) none;have hl8 := hf8.rd.lt;have hul := hf8.u.lt
   have J9 : Hid (Fj w (wc.alloc (.cells #[.slice ka kn kc, .slice none 0 0, .int .i64 (h2 : Int), .int .i64 0] 62)) R G U wc.heap.size zs t5 ka kn kc Ky (.slice ka kn kc) (.slice none 0 0) (.int .i64 (h2 : Int)) (.int .i64 0)) :=
    ⟨hf8.rd.kept gb (by simp) (by simp), hf8.u.kept gb (by simp), Bx.new wc _ _ _ _, hk8.kept gb (fun _ _ _ => by simp), gQ hf8.gr (grown_any gb), ⟨by omega, by omega, by omega, hf8.gr.size⟩, hf8.hU⟩
   clear gb hf8 hk8 F7 K7 hh2 HI hl8 hul
   by_cases hod : tv % 2 = 1
   ·have hmod : (tv : Int) % 2 = 1 := by omega
    rw [if_pos hod] at HVL
    go_wp2_with fail
    generalize wc.alloc (.cells #[.slice ka kn kc, .slice none 0 0, .int .i64 (h2 : Int), .int .i64 0] 62) = w9 at *;generalize wc.heap.size = T at *;refine (HN4.out _ J9.out.rd).mono ?_;rintro en w10 ⟨rfl, hr10, hg10⟩;have J10 := hJ (J9.out.call hr10 hg10);clear hr10 hg10 J9 HN4 HB4;generalize (sN zs t5 4).1 = fn at *;have hfn : fn < 4294967296 := hnl;have f3 := J10.out.t.frozen 3;obtain ⟨t0, t1', t2', t3'⟩ := J10.out.t.cells;have J11 := hJ (J10.out.frame (grown_cell w10 T 3 (.int .i64 (fn : Int))) (J10.out.t.set3 _));obtain ⟨v0, v1, v2, v3⟩ := J11.out.t.cells;obtain ⟨y0, y1, y2, y3⟩ := J11.out.u.cells;have z0 := J11.out.u.frozen 0;have z1 := J11.out.u.frozen 1;have z2 := J11.out.u.frozen 2;have z3 := J11.out.u.frozen 3;have HD := hJ J11.out.done;go_wp2;obtain ⟨d1, d2, d3, d4, d5⟩ := HD.out;refine bodyPost_ret (ret_item rfl _ _ U _ _ _ _ rfl d1) rfl ?_;rw [HVL.out];exact ⟨⟨_, _, _, _, _, _, rfl, ⟨d4.b, d4.c, Byt.zero _ _, ⟨Nat.le_refl _, by omega⟩, d4.u, fun ad e _ => by cases e⟩⟩, d3, d5⟩
   ·have hmod : (tv : Int) % 2 = 0 := by omega
    rw [if_neg hod] at HVL;obtain ⟨x0, x1, x2, x3⟩ := J9.out.t.cells
    go_wp2_with fail
    clear x0 x1 x2 x3;generalize wc.alloc (.cells #[.slice ka kn kc, .slice none 0 0, .int .i64 (h2 : Int), .int .i64 0] 62) = w9 at *;generalize wc.heap.size = T at *;refine (HB4.out _ J9.out.rd).mono ?_;rintro en w10 ⟨⟨bo, m, d, rfl, hb10, hm10, hmd, hdz, hbu⟩, hr10, hg10⟩;have V10 : Hid (Kq w10 R bo m d (sB zs t5 (h2 : Nat)).1) := ⟨hb10, ⟨hmd, by omega⟩, fun ad e hn => ⟨by have := (hbu ad e hn).1; have := J9.out.rd.lt.1; omega, (hbu ad e hn).2⟩⟩;have J10 := hJ (J9.out.call hr10 hg10);clear hr10 hg10 J9 HN4 HB4 hb10 hbu;generalize (sB zs t5 (h2 : Nat)).1 = V at *;have f1 := J10.out.t.frozen 1;obtain ⟨t0, t1', t2', t3'⟩ := J10.out.t.cells;have J11 := hJ (J10.out.frame (grown_cell w10 T 1 (.slice bo m d)) (J10.out.t.set1 _));have V11 := hJ (V10.out.kept (grown_cell w10 T 1 (.slice bo m d)) (fun b _ hu => bx_u8 J10.out.t b hu));obtain ⟨v0, v1, v2, v3⟩ := J11.out.t.cells;obtain ⟨y0, y1, y2, y3⟩ := J11.out.u.cells;have z0 := J11.out.u.frozen 0;have z1 := J11.out.u.frozen 1;have z2 := J11.out.u.frozen 2;have z3 := J11.out.u.frozen 3;have HD := hJ J11.out.done;go_wp2;obtain ⟨d1, d2, d3, d4, d5⟩ := HD.out;have V12 := V11.out.kept d2 (fun b _ hu => bx_u8 J11.out.u b hu);refine bodyPost_ret (ret_item rfl _ _ U _ _ _ _ rfl d1) rfl ?_;rw [HVL.out];exact ⟨⟨_, _, _, _, _, _, rfl, ⟨d4.b, d4.c, V12.b, V12.c, d4.u, V12.u⟩⟩, d3, d5⟩
structure Rq (w wr : World) (R G base : Nat) (po : Option Addr) (pn pc : Nat) (zs P : List Int) (i : Nat) (st : Nat × Int) (L : List It) (v : Value) (xs : List Value) : Prop where
 rd : Rr wr R G zs st.1 st.2
 pb : Byt wr po pn pc P
 own : wr.ownsRow base 62 4 v i xs
 iv : Iv wr R xs L
 gr : w.grownBy wr (some R)
 far : R < base ∧ G < base ∧ w.heap.size ≤ base ∧ base ≤ wr.heap.size
 hp : ∀ ad, po = some ad → 0 < pn → ad.block ≠ R ∧ ad.block < base
 len : L.length = i
theorem Rq.call {w wr w' : World} {R G base : Nat} {po : Option Addr} {pn pc : Nat} {zs P : List Int} {i : Nat} {st st' : Nat × Int} {L : List It} {v : Value} {xs : List Value} (h : Rq w wr R G base po pn pc zs P i st L v xs) (hr : Rr w' R G zs st'.1 st'.2) (hg : wr.grownBy w' (some R)) : Rq w w' R G base po pn pc zs P i st' L v xs := by
 have hne : v.ownBlock ≠ some R := fun e => by have := (h.own.lt R e).1; have := h.far.1; omega
 exact ⟨hr, h.pb.kept hg (fun ad e hn e2 => (h.hp ad e hn).1 (Option.some.inj e2)), h.own.kept hg (.inr hne), h.iv.kept hg (fun b hb _ e => hb (Option.some.inj e)), gQ h.gr hg, ⟨h.far.1, h.far.2.1, h.far.2.2.1, Nat.le_trans h.far.2.2.2 hg.size⟩, h.hp, h.len⟩
theorem Rq.keptN {w wr w' : World} {R G base : Nat} {po : Option Addr} {pn pc : Nat} {zs P : List Int} {i : Nat} {st : Nat × Int} {L : List It} {v : Value} {xs : List Value} (h : Rq w wr R G base po pn pc zs P i st L v xs) (hg : wr.grownBy w' none) : Rq w w' R G base po pn pc zs P i st L v xs :=
 h.call (h.rd.kept hg (by simp) (by simp)) (grown_any hg)
theorem Rq.app {w wr w' : World} {R G base : Nat} {po : Option Addr} {pn pc : Nat} {zs P : List Int} {i : Nat} {st : Nat × Int} {L : List It} {v v' : Value} {xs : List Value} {ao : Option Addr} {n c : Nat} {bo : Option Addr} {m d : Nat} {x : It} (h : Rq w wr R G base po pn pc zs P i st L v xs) (hx : Im wr R ao n c bo m d x)
  (ho : w'.ownsRow base 62 4 v' (i + 1) (xs ++ [.slice ao n c, .slice bo m d, .int .i64 x.size, .int .i64 x.first])) (hg : wr.grownBy w' v.ownBlock) : Rq w w' R G base po pn pc zs P (i + 1) st (L ++ [x]) v' (xs ++ [.slice ao n c, .slice bo m d, .int .i64 x.size, .int .i64 x.first]) := by
 have hb : ∀ k, k < base → some k ≠ v.ownBlock := fun k hk e => by have := (h.own.lt k e.symm).1; omega
 have hne : ∀ b, b ≠ R → U8 wr b → some b ≠ v.ownBlock := fun b _ hu => own_item_ne h.own b hu
 have hgr : w.grownBy w' (some R) := ⟨hg.os.trans h.gr.os, hg.tape.trans h.gr.tape, hg.output.trans h.gr.output, Nat.le_trans h.gr.size hg.size, fun k hk h1 => (hg.block k (Nat.lt_of_lt_of_le hk h.gr.size) (hb k (by have := h.far.2.2.1; omega))).trans (h.gr.block k hk h1)⟩;exact ⟨h.rd.kept hg (hb R h.far.1) (hb G h.far.2.1), h.pb.kept hg (fun ad e hn => hb _ (h.hp ad e hn).2), ho, (h.iv.kept hg hne).snoc (hx.kept hg hne) _ _ rfl rfl, hgr, ⟨h.far.1, h.far.2.1, h.far.2.2.1, Nat.le_trans h.far.2.2.2 hg.size⟩, h.hp, by simp [h.len]⟩
theorem rChk_ok {s : Nat × Int} {x m : Nat} (h : (rChk s x m).2 = 0) : rChk s x m = s := by
 unfold rChk at h ⊢
 split at h
 ·simp at h
 ·rename_i h0
  rw [if_neg h0]
theorem rItem_ok {zs P : List Int} {s : Nat × Int} (hb : Bt zs) (h : (rItem zs P s).2.2 = 0) : s.1 + 2 ≤ (rItem zs P s).2.1 ∧ (rItem zs P s).2.1 ≤ max s.1 zs.length := by
 have e2 : rItem zs P s = sVal zs (rKey zs P s).1 ((sV zs (rKey zs P s).2).1, rChk (sV zs (rKey zs P s).2).2 (sV zs (rKey zs P s).2).1 524289) := rfl;rw [e2] at h ⊢;have h1 := sVal_ok (zs := zs) (key := (rKey zs P s).1) (t := ((sV zs (rKey zs P s).2).1, rChk (sV zs (rKey zs P s).2).2 (sV zs (rKey zs P s).2).1 524289)) h;have q1 := rChk_ok h1.1;simp only [q1] at h1 ⊢;have h2 := sV_ok hb h1.1;have e : (rKey zs P s).2 = (sB zs (rChk (sV zs s).2 (sV zs s).1 255) (i64 (sV zs s).1)).2 := rfl;have h3 := sB_ok (zs := zs) (s := rChk (sV zs s).2 (sV zs s).1 255) (m := i64 (sV zs s).1) (by rw [← e]; exact h2.1);have q2 := rChk_ok h3.1;rw [q2] at h3 e;have h4 := sV_ok hb h3.1;rw [e] at h2;rw [e] at h1 ⊢;omega
theorem rItem_ir {zs P : List Int} (s : Nat × Int) (hb : Bt zs) (hP : Bt P) (hl : P.length + zs.length ≤ 10000) : Ir (rItem zs P s).1 := by
 have h1 := sB_bt (zs := zs) (rChk (sV zs s).2 (sV zs s).1 255) (i64 (sV zs s).1) hb;exact sVal_ir (zs := zs) (key := (rKey zs P s).1) ((sV zs (rKey zs P s).2).1, rChk (sV zs (rKey zs P s).2).2 (sV zs (rKey zs P s).2).1 524289) hb (hP.app h1.1) (by show (P ++ _).length ≤ _; rw [List.length_append]; omega) (sV_lt _ _ hb)
theorem rLoop_ir {zs P : List Int} (hb : Bt zs) (hP : Bt P) (hl : P.length + zs.length ≤ 10000) : ∀ (n : Nat) (s : Nat × Int) (acc : List It), (∀ x ∈ acc, Ir x) → ∀ x ∈ (rLoop zs P n s acc).1, Ir x
 | 0, _, _, h, x, hx => h x hx
 | n + 1, s, acc, h, x, hx => by
  rw [rLoop] at hx
  split at hx
  ·refine rLoop_ir hb hP hl n _ _ (fun y hy => ?_) x hx
   rcases List.mem_append.1 hy with hy | hy
   ·exact h y hy
   ·obtain rfl := List.mem_singleton.1 hy
    exact rItem_ir s hb hP hl
  ·exact h x hx
theorem rLoop_err {zs P : List Int} {n : Nat} {s : Nat × Int} {acc : List It} (h : s.2 ≠ 0) : rLoop zs P n s acc = (acc, s) := by
 cases n with
 | zero => rfl
 | succ n => rw [rLoop, if_neg h]
theorem rLoop_len {zs P : List Int} (hb : Bt zs) : ∀ (n : Nat) (s : Nat × Int) (acc : List It), s.1 ≤ zs.length → 2 * acc.length ≤ s.1 → (rLoop zs P n s acc).2.2 = 0 → 2 * (rLoop zs P n s acc).1.length ≤ zs.length
 | 0, s, acc, h1, h2, _ => by rw [rLoop]; simp only; omega
 | n + 1, s, acc, h1, h2, h => by
  by_cases h0 : s.2 = 0
  ·rw [rLoop, if_pos h0] at h ⊢
   by_cases h3 : (rItem zs P s).2.2 = 0
   ·have h4 := rItem_ok hb h3
    exact rLoop_len hb n _ _ (by omega) (by simp; omega) h
   ·rw [rLoop_err h3] at h
    exact absurd h h3
  ·rw [rLoop_err h0] at h
   exact absurd h h0
theorem head_one {zs : List Int} (h : zs.length = 4092) : (sN zs (0, 0) 1).2 = (sB zs (0, 0) 1).2 := by
 unfold sN sB;rw [if_pos rfl, if_pos rfl, if_neg (by simp only; omega), if_neg (by simp only; omega)]
 rfl
theorem Dec.uniq {zs : List Int} {L M : List It} {e f : Int} (h : Dec zs L e) (g : Dec zs M f) : L = M ∧ e = f := by
 rcases h with ⟨rfl, h1, h2⟩ | ⟨rfl, rfl, h1⟩ <;> rcases g with ⟨rfl, g1, g2⟩ | ⟨rfl, rfl, g1⟩
 ·exact ⟨good_one h1 g1, rfl⟩
 ·exact absurd ⟨h1, h2⟩ (g1 L)
 ·exact absurd ⟨g1, g2⟩ (h1 M)
 ·exact ⟨rfl, rfl⟩
theorem rr_one (R G : Nat) (zs : List Int) (s : Nat × Int) (w : World) (h : Rr w R G zs s.1 s.2) (hbt : Bt zs) :
  Calls Tryz.prog 62 #[.pointer (some ⟨R, 0, none⟩), .int .i64 1] w fun en w' => en = .returned (.int .u64 ((sN zs s 1).1 : Nat)) ∧ Rr w' R G zs (sN zs s 1).2.1 (sN zs s 1).2.2 ∧ w.grownBy w' (some R) := rr_N R G zs s 1 w h hbt (by omega)
theorem rr_two (R G : Nat) (zs : List Int) (s : Nat × Int) (w : World) (h : Rr w R G zs s.1 s.2) (hbt : Bt zs) :
  Calls Tryz.prog 62 #[.pointer (some ⟨R, 0, none⟩), .int .i64 2] w fun en w' => en = .returned (.int .u64 ((sN zs s 2).1 : Nat)) ∧ Rr w' R G zs (sN zs s 2).2.1 (sN zs s 2).2.2 ∧ w.grownBy w' (some R) := rr_N R G zs s 2 w h hbt (by omega)
structure DecO (zs : List Int) (w : World) (en : Ending) (w' : World) : Prop where
 out : ∃ a n cap e L, en = .returned (.tuple #[.slice a n cap, .int .i64 e]) ∧ Dec zs L e ∧ Il w' a L ∧ Ib L ∧ L.length = n ∧ Nw w w' 62 a n
 gr : w.grownBy w' none
theorem DecO.bad {zs : List Int} {w w' : World} (h : ∀ M, ¬ (Good zs M ∧ zs.length = 4092)) (hg : w.grownBy w' none) : DecO zs w (.returned (.tuple #[.slice none 0 0, .int .i64 40])) w' :=
 ⟨⟨none, 0, 0, 40, [], rfl, .inr ⟨rfl, rfl, h⟩, Il.zero _ _, (fun x hx => by cases hx), rfl, Nw.zero _ _ _ _⟩, hg⟩
theorem refDecode_body (ao : Option Addr) (c : Nat) (zs : List Int) (w : World) (hb : Byt w ao 4092 c zs) (hbt : Bt zs) :
  Calls Tryz.prog 41 #[.slice ao 4092 c] w fun en w' => DecO zs w en w' := by
 obtain ⟨i0, hi, hz0, hz1, hz2⟩ := info_parts info_item;have hl := hb.len;have HSP : Hid (∀ M, Good zs M → sPre zs ≤ 255) := fun M h => sPre_body h
 have HRB : Hid (∀ M, Good zs M → ∃ p, rRead zs = (M, (p, 0))) := fun M h => rRead_body h
 have HRD : Hid (rRead zs = rLoop zs (sB zs (sV zs (sN zs (sB zs (0, 0) 1).2 2).2).2 (i64 (sV zs (sN zs (sB zs (0, 0) 1).2 2).2).1)).1 (sN zs (sB zs (0, 0) 1).2 2).1 (sB zs (sB zs (sV zs (sN zs (sB zs (0, 0) 1).2 2).2).2 (i64 (sV zs (sN zs (sB zs (0, 0) 1).2 2).2).1)).2 ((2 * (sN zs (sB zs (0, 0) 1).2 2).1 : Nat) : Int)).2 []) := rfl;have HSV : Hid (sPre zs = (sV zs (sN zs (sB zs (0, 0) 1).2 2).2).1) := rfl;have HPS := hJ (sHead_bt hbt);have HPZ : Hid ((sHead zs).2.1 = (sB zs (sV zs (sN zs (sB zs (0, 0) 1).2 2).2).2 (i64 (sV zs (sN zs (sB zs (0, 0) 1).2 2).2).1)).1) := rfl;have HPP := hJ (sHead_pl hbt);have HPQ : Hid ((sHead zs).2.2 = (sB zs (sB zs (sV zs (sN zs (sB zs (0, 0) 1).2 2).2).2 (i64 (sV zs (sN zs (sB zs (0, 0) 1).2 2).2).1)).2 ((2 * (sN zs (sB zs (0, 0) 1).2 2).1 : Nat) : Int)).2) := rfl;rw [HPZ.out] at HPS;rw [HPQ.out] at HPP;clear HPZ HPQ;have H1 := hJ (fun (R : Nat) (W : World) (hW : Rr W R w.heap.size zs 0 0) => rr_one R w.heap.size zs (0, 0) W hW hbt);rw [head_one hl] at H1;generalize (sB zs (0, 0) 1).2 = s1 at *;have H2 := hJ (fun (R : Nat) (W : World) (hW : Rr W R w.heap.size zs s1.1 s1.2) => rr_two R w.heap.size zs s1 W hW hbt);have hnl := sN_lt zs s1 2 hbt;generalize (sN zs s1 2).2 = s2 at *;generalize (sN zs s1 2).1 = N at *;have hN : N < 65536 := hnl;have H3 := hJ (fun (R : Nat) (W : World) (hW : Rr W R w.heap.size zs s2.1 s2.2) => rr_V R w.heap.size zs s2 W hW hbt);have hvl := sV_lt zs s2 hbt;have hwr := i64_wrap hvl;have HSM : Hid (∀ x, x ≤ 255 → i64 x = (x : Int)) := fun x h => i64_small (by omega)
 generalize (sV zs s2).2 = s3 at *;generalize (sV zs s2).1 = pv at *;have H4 := hJ (fun (R : Nat) (W : World) (hW : Rr W R w.heap.size zs s3.1 s3.2) => rr_B R w.heap.size zs s3 (i64 pv) W hW);generalize (sB zs s3 (i64 pv)).2 = s4 at *;generalize (sB zs s3 (i64 pv)).1 = P at *;have H5 := hJ (fun (R : Nat) (W : World) (hW : Rr W R w.heap.size zs s4.1 s4.2) => rr_B R w.heap.size zs s4 ((2 * N : Nat) : Int) W hW);generalize (sB zs s4 ((2 * N : Nat) : Int)).2 = s5 at *;have hcast : ((2 * N : Nat) : Int) = 2 * (N : Int) := by omega
 rw [hcast] at H5;have HIR := hJ (rLoop_ir hbt HPS.out.1 (by have := HPS.out.2; omega) N s5 [] (fun x hx => by cases hx));have HLN := hJ (rLoop_len (P := P) hbt N s5 [] HPP.out (by simp));have hPl := HPS.out.2;rw [← HRD.out] at HIR HLN;have HRD2 := hJ HRD.out.symm;clear HRD hnl hcast;have HB := hJ hb;clear hb;go_enter Tryz.func41, Tryz.ntmps41
 go_wp2_with fail
 refine (refNew_any ao 4092 c zs _ HB.out (by omega)).mono ?_;rintro en w1 ⟨R, rfl, hr1, hg1, hR⟩;have G1 := hJ hg1;have D1 := hJ hr1;have hG0 : w.heap.size ≤ R := by omega
 clear hg1 hr1;generalize hGG : w.heap.size = G at *;have HGG := hJ hGG;clear hGG
 go_wp2_with fail
 refine (H1.out R _ D1.out).mono ?_;rintro en w2 ⟨rfl, hr2, hg2⟩;have D2 := hJ hr2;have G2 := hJ hg2;clear hr2 hg2 H1 D1
 go_wp2_with fail
 refine (H2.out R _ D2.out).mono ?_;rintro en w3 ⟨rfl, hr3, hg3⟩;have D3 := hJ hr3;have G3 := hJ (gQ G2.out hg3);clear hr3 hg3 H2 D2 G2
 go_wp2_with fail
 refine (H3.out R _ D3.out).mono ?_;rintro en w4 ⟨rfl, hr4, hg4⟩;have D4 := hJ hr4;have G4 := hJ (gQ G3.out hg4);clear hr4 hg4 H3 D3 G3;have GW4 : Hid (w.grownBy w4 none) := grown_new G1.out G4.out (by rw [HGG.out]; omega)
 by_cases hp : 255 < pv
 ·have hp' : (255 : Int) < (pv : Int) := by omega
  have HN : Hid (∀ M, ¬ (Good zs M ∧ zs.length = 4092)) := by
   rintro M ⟨h1, _⟩;have := HSP.out M h1;rw [HSV.out] at this;omega
  go_wp2
  go_ret2
  exact DecO.bad HN.out GW4.out
 ·have hp' : ¬ (255 : Int) < (pv : Int) := by omega
  have hpi := HSM.out pv (by omega);rw [hpi] at H4
  go_wp2_with fail
  refine (H4.out R _ D4.out).mono ?_;rintro en w5 ⟨⟨po, pn, pc, rfl, hb5, hpn, hpc, _, hpu⟩, hr5, hg5⟩;have D5 := hJ hr5;have G5 := hJ (gQ G4.out hg5);have B5 := hJ hb5;have HPU : Hid (∀ ad, po = some ad → 0 < pn → ad.block ≠ R ∧ ad.block < w5.heap.size) := fun ad e hn => ⟨by have := (hpu ad e hn).1; have := D4.out.lt.1; omega, hb5.lt e hn⟩
  clear hr5 hg5 H4 D4 G4 hb5 hpu GW4 HSP HSV hwr hpi
  go_wp2_with fail
  refine (H5.out R _ D5.out).mono ?_;rintro en w6 ⟨⟨qo, qn, qc, rfl, _, _, _, _, _⟩, hr6, hg6⟩;have hl6 := hr6.lt;have hs6 := hg6.size
  have HS0 : Hid (Rq w1 w6 R G w6.heap.size po pn pc zs P 0 s5 [] (.slice none 0 0) []) :=
   ⟨hr6, B5.out.kept hg6 (fun ad e hn e2 => (HPU.out ad e hn).1 (Option.some.inj e2)), ⟨rfl, .inl ⟨rfl, rfl⟩⟩, Iv.nil _ _, gQ G5.out hg6, ⟨hl6.1, hl6.2, (gQ G5.out hg6).size, Nat.le_refl _⟩, fun ad e hn => ⟨(HPU.out ad e hn).1, by have := (HPU.out ad e hn).2; omega⟩, rfl⟩
  clear hr6 hg6 H5 D5 B5 G5 hl6 hs6 HPU;generalize w6.heap.size = base at *;go_wp2;go_loopw [8, 9, 10] (fun sl si _ wr => ∃ (i : Nat) (st : Nat × Int) (L : List It) (xs : List Value), i ≤ N ∧ si = .int .i64 i ∧ rLoop zs P (N - i) st L = rRead zs ∧ Rq w1 wr R G base po pn pc zs P i st L sl xs) (fun _ si _ _ => N - (intOf si).toNat)
  case atStart => exact ⟨0, s5, [], [], Nat.zero_le _, rfl, HRD2.out, HS0.out⟩
  case round =>
   rename_i sl si _ wr;obtain ⟨i, st, L, xs, hi', rfl, hsl, hrq⟩ := hrel;have HRQ := hJ hrq;have HSL := hJ hsl;clear hsl hrq HS0 HRD2;obtain ⟨c0, c1, c2, f1, f2⟩ := HRQ.out.rd.cells
   by_cases hlt : i < N
   ·have k1 : (i : Int) < (N : Int) := by omega
    by_cases hst : st.2 = 0
    ·have HIT := hJ (ritem_any R G zs st po pn pc P wr HRQ.out.rd hbt HRQ.out.pb (fun ad e hn => (HRQ.out.hp ad e hn).1) (by omega) (by omega))
     have HSS : Hid (rLoop zs P (N - (i + 1)) (rItem zs P st).2 (L ++ [(rItem zs P st).1]) = rRead zs) := by
      show _ = _
      rw [← HSL.out, show N - i = (N - (i + 1)) + 1 by omega, rLoop, if_pos hst]
     clear HSL;rw [hst] at c2;generalize (rItem zs P st).2 = st' at *;generalize (rItem zs P st).1 = it at *
     go_wp2_with fail
     refine HIT.out.mono ?_;rintro en w7 ⟨⟨ko, kn, kc, vo, vn, vc, rfl, him⟩, hr7, hg7⟩;have M7 := hJ him;have N7 := hJ (HRQ.out.call hr7 hg7);clear him hr7 hg7 HIT HRQ c0 c1 c2 f1 f2;obtain ⟨sz, hsz⟩ : ∃ sz, it.size = sz := ⟨_, rfl⟩;obtain ⟨fs, hfs⟩ : ∃ fs, it.first = fs := ⟨_, rfl⟩
     rw [hsz, hfs];have HSZ := hJ hsz;have HFS := hJ hfs;clear hsz hfs;have ga := World.grownBy_alloc w7 (.cells #[.slice ko kn kc, .slice vo vn vc, .int .i64 sz, .int .i64 fs] 62) none;have N8 := hJ (N7.out.keptN ga);have M8 := hJ (M7.out.kept ga (fun _ _ _ => by simp));have hsz8 : w7.heap.size < (w7.alloc (.cells #[.slice ko kn kc, .slice vo vn vc, .int .i64 sz, .int .i64 fs] 62)).heap.size := by simp
     have X8 := hJ (Bx.new w7 (.slice ko kn kc) (.slice vo vn vc) (.int .i64 sz) (.int .i64 fs));obtain ⟨x0, x1, x2, x3⟩ := X8.out.cells;clear ga N7 M7;go_upto_region 16 with fail
     clear hsz8;generalize w7.alloc (.cells #[.slice ko kn kc, .slice vo vn vc, .int .i64 sz, .int .i64 fs] 62) = w8 at *;generalize w7.heap.size = T at *
     go_wp2_with (at_builtin; refine wpList_append_own _ rfl _ _ 22 rfl base 62 i0 (.agg #[.slice none 0 0, .slice none 0 0, .int .i64 0, .int .i64 0]) 4 64 Tryz.underlying22 hi hz0 hz1 hz2 rfl (by decide) _ i xs rfl (N8.out.own.alloc _) ⟨w8.heap.size, 0, none⟩ 1 1 [.slice ko kn kc, .slice vo vn vc, .int .i64 sz, .int .i64 fs] rfl rfl (cell_four_new _ _ _ _ _ _) (by intro u hu; simp at hu; rcases hu with rfl | rfl | rfl | rfl <;> rfl) (by unfold maxLen; omega) (by omega) (by have := N8.out.far.2.2.2; simp; omega) ?_)
     intro v' w10 ho hg10 _
     have N10 : Hid (Rq w1 w10 R G base po pn pc zs P (i + 1) st' (L ++ [it]) v' (xs ++ [.slice ko kn kc, .slice vo vn vc, .int .i64 it.size, .int .i64 it.first])) :=
      (N8.out.keptN (World.grownBy_alloc w8 _ none)).app (M8.out.kept (World.grownBy_alloc w8 _ none) (fun _ _ _ => by simp)) (by rw [HSZ.out, HFS.out]; exact ho) hg10
     clear ho hg10 N8 M8 X8 x0 x1 x2 x3;go_wp2;go_roundw
     case rel => exact ⟨i + 1, st', L ++ [it], _, by omega, by go_num, HSS.out, N10.out⟩
     case measure => simp [intOf]; omega
    ·have HN : Hid (∀ M, ¬ (Good zs M ∧ zs.length = 4092)) := by
      rintro M ⟨h1, _⟩;obtain ⟨p, hp2⟩ := HRB.out M h1;have h3 := HSL.out;rw [rLoop_err hst, hp2] at h3;injection h3 with _ h4
      rw [h4] at hst;exact hst rfl
     obtain ⟨s1', e9⟩ := st;simp only at hst c1 c2;have d1 : (e9 == 0) = false := beq_eq_false_iff_ne.2 hst;have GW : Hid (w.grownBy wr none) := grown_new G1.out HRQ.out.gr (by rw [HGG.out]; omega);clear HSL HRQ;go_wp2
     go_ret2
     exact DecO.bad HN.out GW.out
   ·have hin : i = N := by omega
    subst hin;have k1 : ¬ (i : Int) < (i : Int) := by omega
    have GW : Hid (w.grownBy wr none) := grown_new G1.out HRQ.out.gr (by rw [HGG.out]; omega)
    have HRR : Hid (rRead zs = (L, st)) := by
     have h3 := HSL.out;rw [Nat.sub_self] at h3;exact h3.symm
    by_cases hst : st.2 = 0
    ·obtain ⟨a, cap, e1, e2, e3, e4, e5⟩ := HRQ.out.iv.il HRQ.out.own
     subst e1;have L9 := hJ e2;have W9 : Hid (Nw w wr 62 a i) := (Nw.of_owns HRQ.out.own HRQ.out.far.2.2.1).from G1.out.size
     have HIB : Hid (Ib L) := fun x hx => by
      have := HIR.out;rw [HRR.out] at this;exact (this x hx).b
     have hi5 : i ≤ 5000 := by
      have := HLN.out;rw [HRR.out] at this;have := this hst;simp only at this;omega
     have HPB : Hid (∀ M, Good zs M → L = M) := fun M h1 => by
      obtain ⟨p, hp2⟩ := HRB.out M h1;have h3 := HRR.out;rw [hp2] at h3;injection h3 with h4 _
      exact h4.symm
     obtain ⟨s1', e9⟩ := st;simp only at hst c1 c2;subst hst;clear e2 HSL HRQ HRR HIR HLN HRB
     go_wp2_with fail
     refine (refEncode_any a i cap L _ L9.out HIB.out e3 hi5).mono ?_;rintro en w11 ⟨⟨bo, k, c', rfl, hb11, hk11⟩, hg11⟩;have B11 := hJ hb11;have L11 := hJ (L9.out.keptN hg11);have W11 := hJ (W9.out.keptN hg11);have G11 := hJ (gQ GW.out hg11);have Z11 := hJ (HB.out.keptN G11.out);have HEB := hJ (enc_bt HIB.out);have HEQ := hJ (enc_good zs L);clear hb11 hg11 L9 GW c0 c1 c2 f1 f2;generalize (enc L).2 = e at *;generalize (enc L).1 = ys at *
     by_cases hy : ys = zs
     ·go_wp2_with fail
      refine (same_yes _ _ _ _ _ _ _ _ _ B11.out Z11.out hy).mono ?_;rintro en w12 ⟨rfl, rfl⟩
      by_cases he : e = 0
      ·subst he
       have HGD := hJ (HEQ.out.1 ⟨hy, rfl⟩);clear hy HEQ;go_wp2
       go_ret2
       exact ⟨⟨a, i, cap, 0, L, rfl, .inl ⟨rfl, HGD.out, hl⟩, L11.out, HIB.out, e3, W11.out⟩, G11.out⟩
      ·have HND : Hid (∀ M, ¬ (Good zs M ∧ zs.length = 4092)) := by
        rintro M ⟨h1, _⟩;obtain rfl := HPB.out M h1;exact he (HEQ.out.2 h1).2
       have d1 : (e == 0) = false := beq_eq_false_iff_ne.2 he;clear hy HEQ;go_wp2
       go_ret2
       exact DecO.bad HND.out G11.out
     ·have HND : Hid (∀ M, ¬ (Good zs M ∧ zs.length = 4092)) := by
       rintro M ⟨h1, _⟩;obtain rfl := HPB.out M h1;exact hy (HEQ.out.2 h1).1
      clear HEQ
      go_wp2_with fail
      refine (same_no _ _ _ _ _ _ _ _ _ B11.out Z11.out HEB.out hbt hy).mono ?_;rintro en w12 ⟨rfl, rfl⟩;clear hy
      by_cases he : e = 0
      ·subst he
       go_wp2
       go_ret2
       exact DecO.bad HND.out G11.out
      ·have d1 : (e == 0) = false := beq_eq_false_iff_ne.2 he
       go_wp2
       go_ret2
       exact DecO.bad HND.out G11.out
    ·have HN : Hid (∀ M, ¬ (Good zs M ∧ zs.length = 4092)) := by
      rintro M ⟨h1, _⟩;obtain ⟨p, hp2⟩ := HRB.out M h1;have h3 := HRR.out;rw [hp2] at h3;injection h3 with _ h4
      rw [← h4] at hst;exact hst rfl
     obtain ⟨s1', e9⟩ := st;simp only at hst c1 c2;have d1 : (e9 == 0) = false := beq_eq_false_iff_ne.2 hst;clear HSL HRQ HRR;go_wp2
     go_ret2
     exact DecO.bad HN.out GW.out
theorem refDecode_any (ao : Option Addr) (n c : Nat) (zs : List Int) (w : World) (hb : Byt w ao n c zs) (hbt : Bt zs) :
  Calls Tryz.prog 41 #[.slice ao n c] w fun en w' => DecO zs w en w' := by
 by_cases h : n = 4092
 ·subst h
  exact refDecode_body ao c zs w hb hbt
 ·have HN : Hid (∀ M, ¬ (Good zs M ∧ zs.length = 4092)) := fun M hm => h (by rw [← hb.len]; exact hm.2)
  clear hb;go_enter Tryz.func41, Tryz.ntmps41;go_wp2
  go_ret2
  exact DecO.bad HN.out (World.grownBy.refl _ _)
end Go.Proofs.YtkiopabcnemgnaaGreatDoor
