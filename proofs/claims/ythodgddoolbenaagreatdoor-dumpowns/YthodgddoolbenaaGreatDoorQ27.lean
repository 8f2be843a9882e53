import Derived.Test.YthodgddoolbenaaGreatDoorQ26
namespace Go.Proofs.YthodgddoolbenaaGreatDoor
open Go.RowKit
structure Lz2 (I : World → Prop) (w0 w : World) (B : Nat) (ps : Int) (vb : Value) (r c : Nat) (L : List Lst) (id0 i j : Nat) : Prop where
 ex : ∃ F, Kwr (kdP F) I w B ps vb r c L id0 i j ∧ Lmk2 w F (fun b => w0.heap.size ≤ b ∧ b < w.heap.size) ps id0 (fun k => if k < i then (L.getD k ⟨.nilIface, 0, 0, 0, 0, 0, 0⟩).N else if k = i then j else 0)
 tz : Tz w
 sz : w0.heap.size ≤ w.heap.size
theorem Lz2.bc {I : World → Prop} {w0 w : World} {B : Nat} {ps : Int} {vb : Value} {r c : Nat} {L : List Lst} {id0 i j : Nat} (h : Lz2 I w0 w B ps vb r c L id0 i j) (F : Int → Nat → Nat → Value) : Kc (kdP F) w B ps vb r c L := by
 obtain ⟨F', h1, _⟩ := h.ex
 exact h1.bc.chgP
theorem Lz2.start {I : World → Prop} {w : World} {B : Nat} {ps : Int} {vb : Value} {r c : Nat} {L : List Lst} {id0 : Nat} {F : Int → Nat → Nat → Value} (h : Kc (kdP F) w B ps vb r c L) (hI : I w) (ht : Tz w) : Lz2 I w w B ps vb r c L id0 0 0 :=
 ⟨⟨F, ⟨hI, h, fun k s hk => by omega, fun s hs q hq => by omega⟩, fun k x hx => by
  by_cases e : k = 0
  ·simp [e] at hx
  ·simp [e] at hx⟩, ht, Nat.le_refl _⟩
theorem Lz2.step {I : World → Prop} {w0 w w1 : World} {B : Nat} {ps : Int} {vb : Value} {r c : Nat} {L : List Lst} {id0 i j : Nat} (h : Lz2 I w0 w B ps vb r c L id0 i (j * 2)) (hI : ∀ w s j v, s ∈ L → j < s.C → I w → I (w.setCell ⟨s.g, s.o + j, none⟩ v)) (hIq : ∀ w w', w.grownBy w' none → I w → I w') (hg : w.grownBy w1 none)
  {s : Lst} (hs : L[i]? = some s) (hj : j * 2 + 1 < s.N) (hso : s.g < w0.heap.size) (hgp : 1 ≠ s.g) (b n c' : Nat) (hb0 : w.heap.size ≤ b) (hb1 : b < w1.heap.size) (hby : Byt w1 (some ⟨b, 0, none⟩) n c' (lmark ps (id0 + i + 1) j)) :
  Lz2 I w0 ((w1.setCell ⟨s.g, s.o + j * 2, none⟩ (.slice (some ⟨b, 0, none⟩) n c')).setCell ⟨s.g, s.o + j * 2 + 1, none⟩ (.slice none 0 0)) B ps vb r c L id0 i (j * 2 + 2) := by
 obtain ⟨F, h1, h2⟩ := h.ex
 have hsz := h.sz
 have hz1 := hg.size
 obtain ⟨v0, hv0⟩ : ∃ v0, v0 = Value.slice (some ⟨b, 0, none⟩) n c' := ⟨_, rfl⟩
 rw [← hv0]
 obtain ⟨w2, hw2⟩ : ∃ w2, w2 = (w1.setCell ⟨s.g, s.o + j * 2, none⟩ v0).setCell ⟨s.g, s.o + j * 2 + 1, none⟩ (.slice none 0 0) := ⟨_, rfl⟩
 have hset : w1.grownBy w2 (some s.g) := by rw [hw2]; exact grown_trans (kset_grown w1 s.g (s.o + j * 2) v0) (kset_grown _ s.g (s.o + j * 2 + 1) (.slice none 0 0))
 have hz2 := hset.size
 obtain ⟨F1, hF1⟩ : ∃ F1, F1 = fup (fup F ps (id0 + i + 1) (j * 2) v0) ps (id0 + i + 1) (j * 2 + 1) (.slice none 0 0) := ⟨_, rfl⟩
 have f0 : F1 ps (id0 + i + 1) (j * 2) = v0 := by rw [hF1, fup_x _ _ _ _ _ _ (by omega), fup_same]
 have f1 : F1 ps (id0 + i + 1) (j * 2 + 1) = .slice none 0 0 := by rw [hF1, fup_same]
 have f2 : ∀ k x, ¬ (k = i ∧ (x = j * 2 ∨ x = j * 2 + 1)) → F1 ps (id0 + k + 1) x = F ps (id0 + k + 1) x := fun k x hx => by
  rw [hF1]
  by_cases e : k = i
  ·subst e
   rw [fup_x _ _ _ _ _ _ (fun e => hx ⟨rfl, .inr e⟩), fup_x _ _ _ _ _ _ (fun e => hx ⟨rfl, .inl e⟩)]
  ·rw [fup_id _ _ _ _ _ _ (by omega), fup_id _ _ _ _ _ _ (by omega)]
 rw [← hw2]
 refine ⟨⟨F1, ?_, ?_⟩, (h.tz.keptN hg).kept hset (fun e => hgp (Option.some.inj e)), by omega⟩
 ·have h3 : Kwr (kdP F1) I w1 B ps vb r c L id0 i (j * 2) := (h1.qt hIq hg).chgP (fun k t x hk _ _ => f2 k x (fun e => by omega)) (fun x hx => f2 i x (fun e => by omega))
  have h4 := h3.step hI hs (by omega) (s.o + j * 2) rfl v0 f0.symm
  have h5 := h4.step hI hs hj (s.o + j * 2 + 1) (by omega) (.slice none 0 0) f1.symm
  rw [hw2]
  exact h5
 ·have h4 : Lmk2 w2 F (fun d => w0.heap.size ≤ d ∧ d < w2.heap.size) ps id0 (fun k => if k < i then (L.getD k ⟨.nilIface, 0, 0, 0, 0, 0, 0⟩).N else if k = i then j * 2 else 0) :=
   ((h2.keptN hg).kept hset (fun d e => by have := Option.some.inj e; intro hd; omega)).mono (fun d hd => ⟨hd.1, by omega⟩) (fun k => Nat.le_refl _)
  intro k y hy
  by_cases e : k = i ∧ (y = j * 2 ∨ y = j * 2 + 1)
  ·obtain ⟨rfl, e | e⟩ := e
   ·subst e
    rw [f0, hv0]
    exact Lm2.key' ⟨by omega, by omega⟩ (by omega) (hby.kept hset (fun a ha _ e => by obtain rfl := Option.some.inj ha; have := Option.some.inj e; simp at this; omega))
   ·subst e
    rw [f1]
    exact Lm2.val' _ _ _ _ _
  ·rw [f2 k y e]
   refine h4 k y ?_
   simp only at hy ⊢
   by_cases e1 : k < i
   ·rw [if_pos e1] at hy ⊢; exact hy
   ·rw [if_neg e1] at hy ⊢
    by_cases e2 : k = i
    ·rw [if_pos e2] at hy ⊢
     have := fun e3 => e ⟨e2, e3⟩
     omega
    ·rw [if_neg e2] at hy; omega
theorem Lz2.next {I : World → Prop} {w0 w : World} {B : Nat} {ps : Int} {vb : Value} {r c : Nat} {L : List Lst} {id0 i : Nat} {s : Lst} (hs : L[i]? = some s) (h : Lz2 I w0 w B ps vb r c L id0 i s.N) : Lz2 I w0 w B ps vb r c L id0 (i + 1) 0 := by
 obtain ⟨F, h1, h2⟩ := h.ex
 have hge : L.getD i ⟨.nilIface, 0, 0, 0, 0, 0, 0⟩ = s := by simp [List.getD, hs]
 refine ⟨⟨F, h1.next hs, fun k x hx => h2 k x ?_⟩, h.tz, h.sz⟩
 simp only at hx ⊢
 by_cases e1 : k < i
 ·rw [if_pos (by omega)] at hx; rw [if_pos e1]; exact hx
 ·by_cases e2 : k = i
  ·subst e2
   rw [if_pos (by omega), hge] at hx
   rw [if_neg e1, if_pos rfl]; exact hx
  ·rw [if_neg (by omega)] at hx
   split at hx <;> omega
theorem Lz2.qt {I : World → Prop} {w0 w w' : World} {B : Nat} {ps : Int} {vb : Value} {r c : Nat} {L : List Lst} {id0 i j : Nat} (h : Lz2 I w0 w B ps vb r c L id0 i j) (hIq : ∀ w w', w.grownBy w' none → I w → I w') (hg : w.grownBy w' none) : Lz2 I w0 w' B ps vb r c L id0 i j := by
 obtain ⟨F, h1, h2⟩ := h.ex
 exact ⟨⟨F, h1.qt hIq hg, (h2.keptN hg).mono (fun b hb => ⟨hb.1, Nat.lt_of_lt_of_le hb.2 hg.size⟩) (fun k => Nat.le_refl _)⟩, h.tz.keptN hg, Nat.le_trans h.sz hg.size⟩
set_option maxHeartbeats 2000000 in
set_option maxRecDepth 100000 in
theorem write_pairs (B : Nat) (ps : Int) (hp : 0 ≤ ps ∧ ps ≤ 1) (vb : Value) (r c : Nat) (L : List Lst) (id0 : Nat) (I : World → Prop) (w : World) (hid : id0 ≤ 1000000) (F0 : Int → Nat → Nat → Value) (h : Kc (kdP F0) w B ps vb r c L) (hso : ∀ s ∈ L, s.g < w.heap.size ∧ 1 ≠ s.g) (ht : Tz w) (hI : I w)
  (hIs : ∀ w s j v, s ∈ L → j < s.C → I w → I (w.setCell ⟨s.g, s.o + j, none⟩ v)) (hIq : ∀ w w', w.grownBy w' none → I w → I w') :
  Calls Tryz.prog 65 #[.pointer (some ⟨B, 0, none⟩), .int .i64 id0] w fun en w' => en = .returned (.int .i64 ((id0 + L.length : Nat) : Int)) ∧ Lz2 I w w' B ps vb r c L id0 L.length 0 := by
 have hmany := h.many
 obtain ⟨vo, hvb, hvo⟩ := h.row.val
 rw [List.length_map] at hvb hvo
 have HVO := hid_intro hvo
 have HIS := hid_intro hIs
 have HIQ := hid_intro hIq
 have H0 : Hid (Lz2 I w w B ps vb r c L id0 0 0) := Lz2.start h hI ht
 have HSO := hid_intro hso
 clear h hI hIs hIq hvo hso ht
 subst hvb
 go_enter Tryz.func65, Tryz.ntmps65
 go_wp2
 go_loopw [1, 5] (fun sid si wr => ∃ i : Nat, i ≤ L.length ∧ si = .int .i64 i ∧ sid = .int .i64 ((id0 + i : Nat) : Int) ∧ Lz2 I w wr B ps (.slice vo L.length c) r c L id0 i 0) (fun _ si _ => L.length - (intOf si).toNat)
 case atStart => exact ⟨0, Nat.zero_le _, rfl, rfl, H0.out⟩
 case round =>
  obtain ⟨i, hi, rfl, rfl, hw⟩ := hrel
  have HW := hid_intro hw
  have cl : wr.cell? ⟨B, 17, none⟩ = some (.slice vo L.length c) := (hw.bc F0).lists
  clear hw
  by_cases hlt : i < L.length
  ·obtain ⟨s, hs⟩ : ∃ s, L[i]? = some s := ⟨L[i], List.getElem?_eq_getElem hlt⟩
   have hok := ((HW.out.bc F0).ok s (List.mem_of_getElem? hs)).1
   obtain ⟨ao, hsv, hao⟩ := hok.val
   have h1 := hok.le
   have h2 := hok.max
   have HOK := hid_intro hok
   have HS := hid_intro hs
   have HAO := hid_intro hao
   have HSV := hid_intro hsv
   obtain rfl := HVO.out (by omega)
   clear hs hok hao hsv
   go_wp2
   go_loopw [6] (fun sj wr => ∃ j : Nat, j ≤ s.n ∧ sj = .int .i64 j ∧ Lz2 I w wr B ps (.slice (some ⟨r, 0, none⟩) L.length c) r c L id0 i (j * 2)) (fun sj _ => s.n - (intOf sj).toNat)
   case atStart => exact ⟨0, Nat.zero_le _, rfl, by rw [Nat.zero_mul]; exact HW.out⟩
   case round =>
    obtain ⟨j, hj, rfl, hw⟩ := hrel
    have HJ := hid_intro hw
    have cl : wr.cell? ⟨B, 17, none⟩ = some (.slice (some ⟨r, 0, none⟩) L.length c) := (hw.bc F0).lists
    have cr : wr.cell? ⟨r, i, none⟩ = some (.slice ao s.n s.c) := by
     rw [← HSV.out]; exact (hw.bc F0).row.cells i _ (by rw [List.getElem?_map, HS.out]; rfl)
    clear hw
    by_cases hlj : j < s.n
    ·obtain rfl := HAO.out (by omega)
     have hN1 : j * 2 + 1 < s.N := by have := HOK.out.cell hlj (show 1 < (kdP F0).W by exact Nat.lt_succ_self 1); simpa [kdP] using this
     obtain ⟨⟨u0, hu0⟩, hf0⟩ := ((HJ.out.bc F0).ok s (List.mem_of_getElem? HS.out)).2.1 (j * 2) (by have := HOK.out.leN; omega)
     obtain ⟨⟨u1, hu1⟩, hf1⟩ := ((HJ.out.bc F0).ok s (List.mem_of_getElem? HS.out)).2.1 (j * 2 + 1) (by have := HOK.out.leN; omega)
     rw [← Nat.add_assoc] at hu1 hf1
     have PP : Hid (∀ w' : World, w'.heap = wr.heap → w'.cell? ⟨B, 1, none⟩ = some (.int .i64 ps)) := fun w' e => (World.cell?_of_block (by rw [e])).trans (HJ.out.bc F0).pass
     have TT : Hid (∀ w' : World, w'.heap = wr.heap → Tz w') := fun w' e => by have := HJ.out.tz; unfold Tz Lib.TabIs World.var? at this ⊢; rw [e]; exact this
     go_wp2
     go_region_with (go_at_call 123; refine (mark_pairs B ps (id0 + i + 1) j _ _ _ (by exact PP.out _ rfl) hp (by omega) (by omega) (by omega) (by omega) (by exact TT.out _ rfl)).mono ?_; rintro en w4 ⟨⟨b, n, c4, rfl, hb0, hb1, hby⟩, hg4⟩; have HG4 := hid_intro (grown_trans ((Qt.refl wr).drew.grown none) hg4); have HBY := hid_intro hby; have HB0 := hid_intro hb0; have HB1 := hid_intro hb1; clear hby hb0 hb1; have cl4 := HG4.out.cell cl (by simp); have cr4 := HG4.out.cell cr (by simp); have k0 := HG4.out.cell hu0 (by simp); have z0 := (HG4.out.frozen_far ⟨s.g, s.o + j * 2, none⟩ (World.block_lt_of_cell? _ _ hu0) (by simp)).trans hf0; have k1 := HG4.out.cell hu1 (by simp); have z1 := (HG4.out.frozen_far ⟨s.g, s.o + j * 2 + 1, none⟩ (World.block_lt_of_cell? _ _ hu1) (by simp)).trans hf1)
     all_goals
      have HN := hid_intro (HJ.out.step HIS.out HIQ.out HG4.out HS.out hN1 (HSO.out s (List.mem_of_getElem? HS.out)).1 (HSO.out s (List.mem_of_getElem? HS.out)).2 b n c4 HB0.out HB1.out HBY.out)
      clear HG4 hg4 HBY
      go_wp2
      go_roundw
      case rel => exact ⟨j + 1, by omega, by go_num, by rw [show (j + 1) * 2 = j * 2 + 2 by omega]; exact HN.out⟩
      case measure => simp [intOf]; omega
    ·have hjn : j = s.n := by omega
     subst hjn
     have HN := HJ.out
     have eN : s.n * 2 = s.N := by have := HOK.out.hN; simp [kdP] at this; exact this.symm
     rw [eN] at HN
     have HN := hid_intro (HN.next HS.out)
     clear HJ eN
     go_wp2
     go_roundw
     case rel => exact ⟨i + 1, by omega, by go_num, by go_num, HN.out⟩
     case measure => simp [intOf]; omega
  ·have hin : i = L.length := by omega
   subst hin
   go_wp2
   go_ret
   exact ⟨rfl, HW.out⟩
end Go.Proofs.YthodgddoolbenaaGreatDoor
