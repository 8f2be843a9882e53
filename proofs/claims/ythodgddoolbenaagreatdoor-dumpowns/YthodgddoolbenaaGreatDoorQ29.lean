import Derived.Test.YthodgddoolbenaaGreatDoorQ5
import Derived.Test.YthodgddoolbenaaGreatDoorQ28
import Derived.Test.YthodgddoolbenaaGreatDoorQ27
namespace Go.Proofs.YthodgddoolbenaaGreatDoor
open Go.RowKit
theorem Lx2.monoQ {w : World} {F : Int → Nat → Nat → Value} {SM Q Q' : Nat → Prop} {ps : Int} {id0 base : Nat} {vg : Value} {L M : List Lst} (h : Lx2 w F SM Q ps id0 base vg L M) (hq : ∀ b, Q b → b < w.heap.size → Q' b) : Lx2 w F SM Q' ps id0 base vg L M :=
 ⟨h.lk, fun b hb => ⟨(h.dj b hb).1, (h.dj b hb).2.1, hq b (h.dj b hb).2.2.1 (h.dj b hb).2.1, (h.dj b hb).2.2.2⟩, h.tz⟩
def knP (B base : Nat) (vb : Value) (r c : Nat) (L : List Lst) (U : World → Prop) : Kn where
 n := L.length
 own := fun b => ∃ s ∈ L, s.g = b
 need := fun b => (∃ s ∈ L, s.g = b) ∨ b = r ∨ b = 1
 Z := fun w => U w ∧ (∃ F, Kc (kdP F) w B 0 vb r c L) ∧ Gnone w B 17 ∧ Tz w
 T := fun p w => (∃ F, Kc (kdP F) w B p vb r c L) ∧ Gnone w B 17 ∧ Tz w
 M := fun S p id0 w => ∃ F, Ks (kdP F) w B p vb r c L id0 ∧ Lmk2 w F S p id0 (fun k => (L.getD k lst2).N) ∧ Gnone w B 17 ∧ Tz w
 G := fun S t id0 w => ∃ vg M F SM, (if t = 0 then M = [] else M.length = L.length) ∧ Gbk (kdP F) S w B 1 vb vg r c base id0 L M (ktn t 0) ∧ Lx2 w F SM S 1 id0 base vg L M
theorem getD_N2 {L : List Lst} {k : Nat} {s : Lst} (h : L[k]? = some s) : (L.getD k lst2).N = s.N := by simp [List.getD, h]
theorem knP_ok {B base : Nat} {vb : Value} {r c : Nat} {L : List Lst} {U : World → Prop} (hBb : B < base) (hr : r < base ∧ r ≠ B) (hL : ∀ s ∈ L, s.g < base ∧ s.g ≠ B ∧ s.n ≤ 1099511620000) (hgp : 1 < base ∧ 1 ≠ B ∧ ∀ s ∈ L, s.g ≠ 1)
  (hun : ∀ F w, U w → Kc (kdP F) w B 0 vb r c L → Calls Tryz.prog (fnU 5) #[.pointer (some ⟨B, 0, none⟩)] w fun en w' => en = .returned (.bool true) ∧ w.grownBy w' none) (hUk : ∀ v v', U v → v.grownBy v' none → U v') : KnOk B base (knP B base vb r c L U) 5 where
 untouched := fun w h => by obtain ⟨F, hF⟩ := h.2.1; exact hun F w h.1 hF
 write := fun p id0 idI I w hp e hid h hb hI hst => by
  subst e
  obtain ⟨⟨F, hF⟩, hgn, htz⟩ := h
  refine (write_pairs B p hp vb r c L id0 (fun v => I v ∧ Gnone v B 17) w hid F hF (fun s hs => ⟨by have := (hL s hs).1; omega, fun e => hgp.2.2 s hs e.symm⟩) htz ⟨hI, hgn⟩ ?_ ?_).mono ?_
  ·rintro v s i u hs hi ⟨a1, a3⟩
   have hg := kset_grown v s.g (s.o + i) u
   exact ⟨hst _ _ _ a1 hg (fun b e => ⟨s, hs, Option.some.inj e⟩), a3.kept hg (fun e => (hL s hs).2.1 (Option.some.inj e).symm)⟩
  ·rintro v v' hg ⟨a1, a3⟩
   exact ⟨hst _ _ _ a1 hg (by simp), a3.kept hg (by simp)⟩
  ·rintro en w' ⟨rfl, hk⟩
   obtain ⟨F', h1, h2⟩ := hk.ex
   refine ⟨rfl, hk.sz, h1.inv.1, fun b => w.heap.size ≤ b ∧ b < w'.heap.size, ⟨F', h1.ks, fun k x hx => h2 k x ?_, h1.inv.2, hk.tz⟩, fun i hi => hi⟩
   simp only
   by_cases hk' : k < L.length
   ·rw [if_pos hk']; exact hx
   ·simp [List.getD, List.getElem?_eq_none (show L.length ≤ k by omega), lst2] at hx
 hold := fun S p id0 idI w hp e hid h => by
  subst e
  obtain ⟨F, h1, h2, h3, h4⟩ := h
  exact hold_pairs B p hp F S _ vb _ r c 0 0 L [] id0 w hid h1.bc (kg_none h3.c) (Or.inr rfl) h1.marks h2 (fun k s hs => by show s.N ≤ (L.getD k lst2).N; rw [getD_N2 hs]; exact Nat.le_refl _) (fun k s hs => by simp at hs) h4
 grow := fun S t id0 idI tI I w ht e et hid h hS hb hI hst hIb => by
  subst e et
  obtain ⟨vg, M, F, SM, hM, hG, hX⟩ := h
  refine (grow_pairs B 1 (by omega) vb vg r c base id0 L M t _ _ I w F SM (hG.use I hI) (hX.monoQ (fun b hb _ => Or.inl hb)) hgp (by omega) hM hr.2 hid (fun s hs => by have := (hL s hs).2.2; omega) (fun v v' row h1 h2 h3 => hst v v' row h1 h2 (fun i hi => Or.inr (h3 i hi))) (fun v u h1 => hIb v u h1) (fun v s i u hs _ h1 => hst v _ (some s.g) h1 (kset_grown v s.g (s.o + i) u) (fun b e => Or.inl ⟨s, hs, Option.some.inj e⟩))).mono ?_
  rintro en w' ⟨rfl, vg', M', F', SM', hM', hG', hX'⟩
  refine ⟨rfl, hG'.rB.2.2.2.2, hG'.inv, _, ⟨vg', M', F', SM', by rw [if_neg (by omega)]; exact hM', (Gbk.of hG' (fun i hi => (hS i hi).1) hb).tn (ktn_allN t L.length hM'), hX'.monoQ (fun b hb hl => ⟨hb, hl⟩)⟩, fun i hi => hi⟩
 holdG := fun S id0 idI w e hid h => by
  subst e
  obtain ⟨vg, M, F, SM, hM, hG, hX⟩ := h
  obtain ⟨r2, c2, hk⟩ := hG.kg
  exact hold_pairs B 1 (by omega) F SM _ vb vg r c r2 c2 L M id0 w hid hG.gs.bc hk (Or.inl (by rw [if_neg (by omega)] at hM; exact hM)) hG.gs.lm hX.lk (fun k s hs => by unfold nkm2; rw [getD_N2 hs]; omega) (fun k s hs => by unfold nkm2; rw [getD_N2 hs]; omega) hX.tz
 zKept := fun v v' h hg => by
  obtain ⟨h0, ⟨F, hF⟩, h2, h3⟩ := h
  exact ⟨hUk v v' h0 hg, ⟨F, hF.kept hg (by simp) (by simp) (by simp)⟩, h2.kept hg (by simp), h3.keptN hg⟩
 zt := fun v h => h.2
 tKept := fun p v v' row h hg hrw => by
  obtain ⟨⟨F, hF⟩, h2, h3⟩ := h
  exact ⟨⟨F, hF.kept hg (fun e => (hrw B e.symm).1 rfl) (fun e => (hrw r e.symm).2 (Or.inr (Or.inl rfl))) (fun s hs e => (hrw _ e.symm).2 (Or.inl ⟨s, hs, rfl⟩))⟩, h2.kept hg (fun e => (hrw B e.symm).1 rfl), h3.kept hg (fun e => (hrw _ e.symm).2 (Or.inr (Or.inr rfl)))⟩
 tPass := fun p p' v h => by
  obtain ⟨⟨F, hF⟩, h2, h3⟩ := h
  exact ⟨⟨F, hF.pass1 p' hr.2 (by show 17 ≠ 1; decide)⟩, h2.set 1 _ (by omega), h3.kept (kset_grown v B 1 _) (fun e => hgp.2.1 (Option.some.inj e))⟩
 mt := fun S p id0 v ⟨F, h1, h2, h3, h4⟩ => ⟨⟨F, h1.bc⟩, h3, h4⟩
 mKept := fun S p id0 v v' row ⟨F, h1, h2, h3, h4⟩ hg hrw => ⟨F, h1.kept hg (fun e => (hrw B e.symm).1 rfl) (fun e => (hrw r e.symm).2.1 (Or.inr (Or.inl rfl))) (fun s hs e => (hrw _ e.symm).2.1 (Or.inl ⟨s, hs, rfl⟩)), h2.kept hg (fun i e => (hrw i e).2.2), h3.kept hg (fun e => (hrw B e.symm).1 rfl), h4.kept hg (fun e => (hrw _ e.symm).2.1 (Or.inr (Or.inr rfl)))⟩
 mg := fun S id0 v ⟨F, h1, h2, h3, h4⟩ hb hS => ⟨_, [], F, S, rfl, by
  have h5 := h1.gb base ⟨h3.c, h3.f⟩ (fun s hs => (hL s hs).1) hr.1 hBb hb
  exact ⟨h5.gs, fun i hi => by simp [Value.ownBlock] at hi, fun k m hm => by simp at hm, hS⟩, ⟨h2.mono (fun b hb => hb) (fun k => by unfold nkm2; simp [List.getD, lst2]), fun b hb => ⟨(hS b hb).1, (hS b hb).2, hb, by simp [Value.ownBlock], fun k m hm => by simp at hm⟩, h4⟩⟩
 gKept := fun S t id0 v v' row ⟨vg, M, F, SM, hM, hG, hX⟩ hg hrw => ⟨vg, M, F, SM, hM, hG.kept hg (fun i hi => ⟨(hrw i hi).1, fun e => (hrw i hi).2.1 (Or.inr (Or.inl e)), fun s hs e => (hrw i hi).2.1 (Or.inl ⟨s, hs, e⟩), (hrw i hi).2.2⟩), hX.kept hg (fun i hi => ⟨fun hb => (hrw i hi).2.2 (hX.dj i hb).2.2.1, fun e => (hrw i hi).2.1 (Or.inr (Or.inr e))⟩)⟩
 gSetB := fun S t id0 v i u ⟨vg, M, F, SM, hM, hG, hX⟩ h1 h2 h3 => ⟨vg, M, F, SM, hM, hG.setB i u h1 (by show i ≠ 17; omega) (by show i ≠ 17 + 2; omega) hr.2, hX.kept (kset_grown v B i u) (fun b e => by obtain rfl := Option.some.inj e; exact ⟨fun hb => by have := (hX.dj _ hb).1; omega, Ne.symm hgp.2.1⟩)⟩
 sub := fun i h => Or.inl h
 old := fun i h => by
  rcases h with ⟨s, hs, rfl⟩ | rfl | rfl
  ·exact (hL s hs).1
  ·exact hr.1
  ·exact hgp.1
 nB := fun i h => by
  rcases h with ⟨s, hs, rfl⟩ | rfl | rfl
  ·exact (hL s hs).2.1
  ·exact hr.2
  ·exact hgp.2.1
end Go.Proofs.YthodgddoolbenaaGreatDoor
