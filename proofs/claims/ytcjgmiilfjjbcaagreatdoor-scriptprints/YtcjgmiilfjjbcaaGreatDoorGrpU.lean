import Derived.Test.YtcjgmiilfjjbcaaGreatDoorSrS
namespace Go.Proofs.YtcjgmiilfjjbcaaGreatDoor
open Go.RowKit

/-! What is read is no longer than its text: pure. -/
/-- A step whose lists have at most m bytes each and at most n fates. -/
structure Sml (o : Opq) (m n : Nat) : Prop where
  key : o.key.length ≤ m
  val : o.val.length ≤ m
  hi : o.hi.length ≤ m
  f : o.f.length ≤ n
theorem Sml.more {o : Opq} {m n m' n' : Nat} (h : Sml o m n) (h1 : m ≤ m') (h2 : n ≤ n') : Sml o m' n' := ⟨by have := h.key; omega, by have := h.val; omega, by have := h.hi; omega, by have := h.f; omega⟩
theorem Sml.zero (k : Int) (m n : Nat) : Sml (Opq.zero k) m n := ⟨Nat.zero_le _, Nat.zero_le _, Nat.zero_le _, Nat.zero_le _⟩
theorem exc_map {A B : Type} {x : Except Int A} {f : A → B} {y : B} (h : x.map f = .ok y) : ∃ a, x = .ok a ∧ f a = y := by
  cases x with
  | ok a => exact ⟨a, rfl, by cases h; rfl⟩
  | error e => cases h
theorem uhE_len {w : List UInt8} {b : List Int} (h : uhE w = .ok b) : b.length ≤ w.length ∧ Bt b := by
  unfold uhE at h
  cases hu : uh w with
  | none => rw [hu] at h; cases h
  | some x =>
    rw [hu] at h
    cases h
    have := uh_len hu
    exact ⟨by omega, uh_bt hu⟩
theorem fld_sml {o o' : Opq} {c : UInt8} {w : List UInt8} {m n : Nat} (h : fld o c w = .ok o') (hs : Sml o m n) (hw : w.length ≤ m) : Sml o' m (n + 1) := by
  unfold fld at h
  have s1 := hs.more (Nat.le_refl m) (Nat.le_succ n)
  split at h
  · obtain ⟨a, _, rfl⟩ := exc_map h; exact ⟨s1.key, s1.val, s1.hi, s1.f⟩
  split at h
  · obtain ⟨a, _, rfl⟩ := exc_map h; exact ⟨s1.key, s1.val, s1.hi, s1.f⟩
  split at h
  · obtain ⟨a, _, rfl⟩ := exc_map h; exact ⟨s1.key, s1.val, s1.hi, s1.f⟩
  split at h
  · obtain ⟨a, ha, rfl⟩ := exc_map h; have := uhE_len ha; exact ⟨by simp only; omega, s1.val, s1.hi, s1.f⟩
  split at h
  · obtain ⟨a, ha, rfl⟩ := exc_map h; have := uhE_len ha; exact ⟨s1.key, by simp only; omega, s1.hi, s1.f⟩
  split at h
  · obtain ⟨a, ha, rfl⟩ := exc_map h; have := uhE_len ha; exact ⟨s1.key, s1.val, by simp only; omega, s1.f⟩
  · obtain ⟨a, ha, rfl⟩ := exc_map h
    have := hs.f
    exact ⟨s1.key, s1.val, s1.hi, by simp; omega⟩
theorem flds_sml {m : Nat} : ∀ (fs : List UInt8) (ws : List (List UInt8)) (o o' : Opq) (n : Nat), flds o fs ws = .ok o' → Sml o m n → (∀ w ∈ ws, w.length ≤ m) → Sml o' m (n + ws.length)
  | [], ws, o, o', n, h, hs, _ => by
    have : o = o' := by cases ws <;> (rw [flds] at h; cases h; rfl) <;> simp
    subst this
    exact hs.more (Nat.le_refl _) (by omega)
  | c :: fs, [], o, o', n, h, hs, _ => by
    rw [flds] at h
    · cases h; exact hs.more (Nat.le_refl _) (by omega)
    · intro _ _ _ _ _ e; cases e
  | c :: fs, w :: ws, o, o', n, h, hs, hw => by
    rw [flds] at h
    cases hf : fld o c w with
    | error e => rw [hf] at h; cases h
    | ok o1 =>
      rw [hf] at h
      simp only at h
      have := flds_sml fs ws o1 o' (n + 1) h (fld_sml hf hs (hw w List.mem_cons_self)) (fun x hx => hw x (List.mem_cons_of_mem _ hx))
      exact this.more (Nat.le_refl _) (by simp; omega)
theorem stp_sml {ws : List (List UInt8)} {o : Opq} {m : Nat} (h : stp ws = .ok o) (hw : ∀ w ∈ ws, w.length ≤ m) : Sml o m ws.length := by
  unfold stp at h
  split at h
  · cases h
  split at h
  · cases h
  · have := flds_sml _ _ _ _ 0 h (Sml.zero _ _ _) (fun x hx => hw x (List.mem_of_mem_drop hx))
    exact this.more (Nat.le_refl _) (by simp)
theorem cua_le (x : UInt8) (t : List UInt8) : (cua x t).length ≤ t.length := (cub_len x t).1
theorem lns_le : ∀ (T : List UInt8), ∀ l ∈ lns T, l.length ≤ T.length
  | [], l, hl => by cases hl
  | c :: T, l, hl => by
    have ih := lns_le T
    rw [lns_cons] at hl
    split at hl
    · rcases List.mem_cons.1 hl with rfl | hl
      · simp
      · have := ih l hl; simp; omega
    · cases hT : lns T with
      | nil =>
        rw [hT] at hl
        simp only [List.mem_cons, List.not_mem_nil, or_false] at hl
        subst hl
        simp
      | cons x xs =>
        rw [hT] at hl ih
        rcases List.mem_cons.1 hl with rfl | hl
        · have := ih x List.mem_cons_self; simp; omega
        · have := ih l (List.mem_cons_of_mem _ hl); simp; omega
theorem pll_sml {m : Nat} : ∀ (ls : List (List UInt8)) (no : Nat) (s : Option Sq) (r : Sq), pll ls no s = .ok r → (∀ l ∈ ls, l.length ≤ m) → (∀ q, s = some q → q.2.length ≤ 2000 ∧ ∀ o ∈ q.2, Sml o m m) → r.2.length ≤ 2000 ∧ ∀ o ∈ r.2, Sml o m m
  | [], no, none, r, h, _, _ => by rw [pll] at h; cases h
  | [], no, some s, r, h, _, hs => by rw [pll] at h; cases h; exact hs _ rfl
  | l :: ls, no, s, r, h, hl, hs => by
    rw [pll_cons] at h
    split at h
    · exact pll_sml ls _ s r h (fun x hx => hl x (List.mem_cons_of_mem _ hx)) hs
    · cases ht : tke s (wrds (cua 35 l)) with
      | error e => rw [ht] at h; cases h
      | ok s' =>
        rw [ht] at h
        simp only at h
        refine pll_sml ls _ (some s') r h (fun x hx => hl x (List.mem_cons_of_mem _ hx)) (fun q hq => ?_)
        cases hq
        have hll := hl l List.mem_cons_self
        have hcu := cua_le 35 l
        obtain ⟨w1, w2⟩ := wrds_len (cua 35 l)
        cases s with
        | none =>
          unfold tke at ht
          obtain ⟨n, _, rfl⟩ := exc_map ht
          exact ⟨Nat.zero_le _, fun o ho => by cases ho⟩
        | some p =>
          obtain ⟨n, os⟩ := p
          obtain ⟨k1, k2⟩ := hs _ rfl
          unfold tke at ht
          simp only at ht
          split at ht
          · cases ht
          · rename_i hne
            obtain ⟨o, ho, rfl⟩ := exc_map ht
            simp only at k1 k2 ⊢
            refine ⟨by simp; omega, fun q hq => ?_⟩
            rcases List.mem_append.1 hq with hq | hq
            · exact k2 q hq
            · simp only [List.mem_cons, List.not_mem_nil, or_false] at hq
              subst hq
              exact (stp_sml ho (m := m) (fun x hx => by have := w1 x hx; omega)).more (Nat.le_refl _) (by omega)
theorem psc_sml {T : List UInt8} {n : Int} {l : List Opq} (h : psc T = .ok (n, l)) : T.length ≤ 1048576 ∧ l.length ≤ 2000 ∧ ∀ o ∈ l, Sml o T.length T.length := by
  unfold psc at h
  split at h
  · cases h
  · rename_i hT
    exact ⟨by omega, pll_sml _ _ _ _ h (lns_le T) (fun q hq => by cases hq)⟩
/-- So it can be compared and printed. -/
theorem psc_fit {T : List UInt8} {n : Int} {l : List Opq} (h : psc T = .ok (n, l)) : Fnw l ∧ (∀ o ∈ l, lsz o ≤ 4194304) ∧ l.length ≤ 2000 := by
  obtain ⟨h1, h2, h3⟩ := psc_sml h
  refine ⟨fun o ho => ?_, fun o ho => ?_, h2⟩
  · have := (h3 o ho).f; omega
  · have q := h3 o ho
    have := q.key; have := q.val; have := q.hi; have := q.f
    unfold lsz
    omega
end Go.Proofs.YtcjgmiilfjjbcaaGreatDoor

namespace Go.Proofs.YtcjgmiilfjjbcaaGreatDoor
open Go.RowKit

/-! P23.6, pure: what is printed is read as the same script. -/
/-- A word that can stand in a line. -/
def Wcl (x : List UInt8) : Prop := x ≠ [] ∧ ∀ c ∈ x, isb c = false ∧ c ≠ 35 ∧ c ≠ 10
theorem tok_word : ∀ (x r : List UInt8), (∀ c ∈ x, isb c = false) → tok (x ++ r) = (x ++ (tok r).1, (tok r).2)
  | [], r, _ => rfl
  | c :: x, r, h => by
    have ih := tok_word x r (fun y hy => h y (List.mem_cons_of_mem _ hy))
    have hc := h c List.mem_cons_self
    show tok (c :: (x ++ r)) = _
    rw [tok, if_neg (by rw [hc]; decide), ih]
    rfl
theorem joinTail_cons (y : List UInt8) (r : List (List UInt8)) : Lib.joinTail [32] (y :: r) = 32 :: (y ++ Lib.joinTail [32] r) := by unfold Lib.joinTail; simp
theorem tok_tail : ∀ r : List (List UInt8), (∀ x ∈ r, Wcl x) → tok (Lib.joinTail [32] r) = ([], r)
  | [], _ => rfl
  | y :: r, h => by
    have ih := tok_tail r (fun x hx => h x (List.mem_cons_of_mem _ hx))
    have hy := h y List.mem_cons_self
    rw [joinTail_cons, tok, if_pos (by decide), tok_word y _ (fun c hc => (hy.2 c hc).1), ih]
    simp only [List.append_nil]
    unfold cns
    rw [if_neg hy.1]
theorem wrds_join {ws : List (List UInt8)} (h : ∀ x ∈ ws, Wcl x) : wrds (Lib.join ws [32]) = ws := by
  cases ws with
  | nil => rfl
  | cons x r =>
    have hx := h x List.mem_cons_self
    unfold wrds
    rw [Lib.join_cons, tok_word x _ (fun c hc => (hx.2 c hc).1), tok_tail r (fun y hy => h y (List.mem_cons_of_mem _ hy))]
    simp only [List.append_nil]
    unfold cns
    rw [if_neg hx.1]
theorem mem_join {ws : List (List UInt8)} {c : UInt8} (h : c ∈ Lib.join ws [32]) : c = 32 ∨ ∃ x ∈ ws, c ∈ x := by
  cases ws with
  | nil => cases h
  | cons x r =>
    rw [Lib.join_cons] at h
    rcases List.mem_append.1 h with h | h
    · exact .inr ⟨x, List.mem_cons_self, h⟩
    · unfold Lib.joinTail at h
      obtain ⟨y, hy, hc⟩ := List.mem_flatten.1 h
      obtain ⟨z, hz, rfl⟩ := List.mem_map.1 hy
      rcases List.mem_append.1 hc with hc | hc
      · left; simpa using hc
      · exact .inr ⟨z, List.mem_cons_of_mem _ hz, hc⟩
theorem join_clean {ws : List (List UInt8)} (h : ∀ x ∈ ws, Wcl x) : (10 : UInt8) ∉ Lib.join ws [32] ∧ wrds (cua 35 (Lib.join ws [32])) = ws := by
  have h35 : (35 : UInt8) ∉ Lib.join ws [32] := fun hm => by
    rcases mem_join hm with q | ⟨x, hx, hc⟩
    · revert q; decide
    · exact ((h x hx).2 _ hc).2.1 rfl
  refine ⟨fun hm => ?_, ?_⟩
  · rcases mem_join hm with q | ⟨x, hx, hc⟩
    · revert q; decide
    · exact ((h x hx).2 _ hc).2.2 rfl
  · have e : cua 35 (Lib.join ws [32]) = Lib.join ws [32] := by unfold cua; rw [cutC_none.2 h35]
    rw [e, wrds_join h]
theorem dig_clean {c : UInt8} (h : dig c = true) : isb c = false ∧ c ≠ 35 ∧ c ≠ 10 := by
  have := dig_rng h
  refine ⟨?_, fun e => by subst e; simp at this, fun e => by subst e; simp at this⟩
  unfold isb
  rw [Bool.or_eq_false_iff, beq_eq_false_iff_ne, beq_eq_false_iff_ne]
  exact ⟨fun e => by subst e; simp at this, fun e => by subst e; simp at this⟩
theorem itoa_clean (n : Int) : Wcl (Lib.itoa n) := by
  unfold Lib.itoa
  split
  · obtain ⟨_, h2, _, _⟩ := dec_ok n.natAbs
    refine ⟨by simp, fun c hc => ?_⟩
    rcases List.mem_cons.1 hc with rfl | hc
    · decide
    · exact dig_clean (List.all_eq_true.1 h2 c hc)
  · obtain ⟨h1, h2, _, _⟩ := dec_ok n.toNat
    exact ⟨h1, fun c hc => dig_clean (List.all_eq_true.1 h2 c hc)⟩
theorem vdg_clean (c : UInt8) : 0 ≤ vdg c → isb c = false ∧ c ≠ 35 ∧ c ≠ 10 :=
  u8_all (p := fun c => 0 ≤ vdg c → isb c = false ∧ c ≠ 35 ∧ c ≠ 10) (by decide +kernel) c
theorem hx_clean {b : List Int} (h : Bt b) : Wcl (hx b) := by
  refine ⟨hx_ne b, ?_⟩
  unfold hx
  split
  · decide
  · exact fun c hc => vdg_clean c (hxs_dig h c hc)
theorem fwd_clean (p : Int × Int) : Wcl (fwd p) := by
  unfold fwd
  split
  · exact ⟨by simp, by decide⟩
  split
  · exact ⟨by simp, by decide⟩
  · have h := itoa_clean p.2
    refine ⟨by simp, fun c hc => ?_⟩
    rcases List.mem_cons.1 hc with rfl | hc
    · decide
    · exact h.2 c hc
/-- A step whose lists are bytes. -/
structure Obt (o : Opq) : Prop where
  key : Bt o.key
  val : Bt o.val
  hi : Bt o.hi
theorem wlt_clean {o : Opq} (h : Obt o) (c : UInt8) : ∀ x ∈ wlt o c, Wcl x := by
  intro x hx
  unfold wlt at hx
  cases hn : nvl o c with
  | some n =>
    rw [hn] at hx
    simp only [List.mem_cons, List.not_mem_nil, or_false] at hx
    subst hx
    exact itoa_clean n
  | none =>
    rw [hn] at hx
    simp only at hx
    cases hb : bvl o c with
    | none => rw [hb] at hx; cases hx
    | some b =>
      rw [hb] at hx
      simp only [List.mem_cons, List.not_mem_nil, or_false] at hx
      subst hx
      refine hx_clean ?_
      unfold bvl at hb
      split at hb
      · cases hb; exact h.key
      split at hb
      · cases hb; exact h.val
      split at hb
      · cases hb; exact h.hi
      · cases hb
theorem stT_clean : ∀ p ∈ stT, p.1 = [] ∨ (p.1 ≠ [] ∧ ∀ c ∈ p.1, isb c = false ∧ c ≠ 35 ∧ c ≠ 10) := by decide
theorem wrd_clean {k : Int} (h : wrd k ≠ []) : Wcl (wrd k) := by
  unfold wrd at *
  split
  · rename_i hk
    rw [if_pos hk] at h
    have hm : stT.getD k.toNat ([], []) ∈ stT := by
      rw [List.getD, List.getElem?_eq_getElem (by rw [stT_len]; omega)]
      exact List.getElem_mem _
    rcases stT_clean _ hm with q | q
    · exact absurd q h
    · exact q
  · rename_i hk
    rw [if_neg hk] at h
    exact absurd rfl h
theorem stw_clean {o : Opq} (h : Obt o) (hj : jdS o = 0) : ∀ x ∈ stw o, Wcl x := by
  intro x hx
  have hw : wrd o.k ≠ [] := fun e => by unfold jdS at hj; rw [if_pos e] at hj; cases hj
  unfold stw at hx
  rcases List.mem_cons.1 hx with rfl | hx
  · exact wrd_clean hw
  rcases List.mem_append.1 hx with hx | hx
  · obtain ⟨c, _, hc⟩ := List.mem_flatMap.1 hx
    exact wlt_clean h c x hc
  · obtain ⟨p, _, rfl⟩ := List.mem_map.1 hx
    exact fwd_clean p
theorem nmE_itoa {n : Int} (h : smn n = true) : nmE (Lib.itoa n) = .ok n := by unfold nmE; rw [(nmb_iff _ n).2 ⟨rfl, h⟩]
theorem uhE_hx {b : List Int} (h : Bt b) : uhE (hx b) = .ok b := by unfold uhE; rw [uh_hx h]
theorem fte_fwd {p : Int × Int} (h : jdF p = 0) : fte (fwd p) = .ok p := by
  obtain ⟨x, y⟩ := p
  unfold jdF at h
  simp only at h
  unfold fwd
  simp only
  by_cases h0 : x = 0
  · subst h0
    rw [if_pos (.inl rfl)] at h
    have : y = 0 := by by_cases e : y = 0; exact e; rw [if_neg e] at h; cases h
    subst this
    rfl
  · rw [if_neg h0]
    by_cases h1 : x = 1
    · subst h1
      rw [if_pos (.inr rfl)] at h
      have : y = 0 := by by_cases e : y = 0; exact e; rw [if_neg e] at h; cases h
      subst this
      rfl
    · rw [if_neg (by simp [h0, h1])] at h
      have h2 : x = 2 := by by_cases e : x = 2; exact e; rw [if_neg e] at h; cases h
      subst h2
      rw [if_pos rfl] at h
      have hs : smn y = true := by by_cases e : smn y = true; exact e; rw [if_neg e] at h; cases h
      rw [if_neg h1]
      unfold fte
      rw [if_neg (by simp), if_neg (by simp), if_pos (by simp [Lib.hasPrefix]), List.drop_succ_cons, List.drop_zero, nmE_itoa hs]
      rfl
/-- A field of o. -/
def setf (q o : Opq) (c : UInt8) : Opq :=
  if c = 65 then { q with a := o.a } else if c = 66 then { q with b := o.b } else if c = 67 then { q with c := o.c }
  else if c = 75 then { q with key := o.key } else if c = 86 then { q with val := o.val } else { q with hi := o.hi }
def lt6 : List UInt8 := [65, 66, 67, 75, 86, 72]
theorem fld_set {q o : Opq} (h : Obt o) {c : UInt8} (hc : c ∈ lt6) (hn : ∀ n, nvl o c = some n → smn n = true) : ∃ w, wlt o c = [w] ∧ fld q c w = .ok (setf q o c) := by
  unfold lt6 at hc
  simp only [List.mem_cons, List.not_mem_nil, or_false] at hc
  rcases hc with rfl | rfl | rfl | rfl | rfl | rfl
  · exact ⟨_, rfl, by unfold fld setf; rw [if_pos rfl, if_pos rfl, nmE_itoa (hn _ rfl)]; rfl⟩
  · exact ⟨_, rfl, by unfold fld setf; rw [if_neg (by decide), if_pos rfl, if_neg (by decide), if_pos rfl, nmE_itoa (hn _ rfl)]; rfl⟩
  · exact ⟨_, rfl, by unfold fld setf; rw [if_neg (by decide), if_neg (by decide), if_pos rfl, if_neg (by decide), if_neg (by decide), if_pos rfl, nmE_itoa (hn _ rfl)]; rfl⟩
  · exact ⟨_, rfl, by unfold fld setf; rw [if_neg (by decide), if_neg (by decide), if_neg (by decide), if_pos rfl, if_neg (by decide), if_neg (by decide), if_neg (by decide), if_pos rfl, uhE_hx h.key]; rfl⟩
  · exact ⟨_, rfl, by unfold fld setf; rw [if_neg (by decide), if_neg (by decide), if_neg (by decide), if_neg (by decide), if_pos rfl, if_neg (by decide), if_neg (by decide), if_neg (by decide), if_neg (by decide), if_pos rfl, uhE_hx h.val]; rfl⟩
  · exact ⟨_, rfl, by unfold fld setf; rw [if_neg (by decide), if_neg (by decide), if_neg (by decide), if_neg (by decide), if_neg (by decide), if_pos rfl, if_neg (by decide), if_neg (by decide), if_neg (by decide), if_neg (by decide), if_neg (by decide), uhE_hx h.hi]; rfl⟩
theorem flds_set {o : Opq} (h : Obt o) : ∀ (fs : List UInt8) (q : Opq), (∀ c ∈ fs, c ∈ lt6) → (∀ c ∈ fs, ∀ n, nvl o c = some n → smn n = true) → flds q fs (fs.flatMap (wlt o)) = .ok (fs.foldl (fun q c => setf q o c) q) ∧ (fs.flatMap (wlt o)).length = fs.length
  | [], q, _, _ => ⟨rfl, rfl⟩
  | c :: fs, q, h6, hn => by
    obtain ⟨w, e1, e2⟩ := fld_set (q := q) h (h6 c List.mem_cons_self) (hn c List.mem_cons_self)
    obtain ⟨i1, i2⟩ := flds_set h fs (setf q o c) (fun x hx => h6 x (List.mem_cons_of_mem _ hx)) (fun x hx => hn x (List.mem_cons_of_mem _ hx))
    rw [List.flatMap_cons, e1]
    refine ⟨?_, by simp [i2]⟩
    show flds q (c :: fs) (w :: fs.flatMap (wlt o)) = _
    rw [flds, e2]
    exact i1
theorem flds_fates (k : Int) : ∀ (f g : List (Int × Int)) (q : Opq), q.f = g → (∀ p ∈ f, jdF p = 0) → flds q (List.replicate f.length 70) (f.map fwd) = .ok { q with f := g ++ f }
  | [], g, q, hg, _ => by subst hg; simp [flds]
  | p :: f, g, q, hg, hf => by
    have e : fld q 70 (fwd p) = .ok { q with f := g ++ [p] } := by
      subst hg
      unfold fld
      rw [if_neg (by decide), if_neg (by decide), if_neg (by decide), if_neg (by decide), if_neg (by decide), if_neg (by decide), fte_fwd (hf p List.mem_cons_self)]
      rfl
    rw [List.length_cons, List.replicate_succ, List.map_cons, flds, e]
    have := flds_fates k f (g ++ [p]) { q with f := g ++ [p] } rfl (fun x hx => hf x (List.mem_cons_of_mem _ hx))
    simp only
    rw [this]
    simp
theorem jd3_all : ∀ {l : List (Int × Int)}, jd3 l = 0 → ∀ p ∈ l, jdF p = 0
  | [], _, p, hp => by cases hp
  | x :: l, h, p, hp => by
    rw [jd3] at h
    by_cases h0 : jdF x = 0
    · rw [if_pos h0] at h
      rcases List.mem_cons.1 hp with rfl | hp
      · exact h0
      · exact jd3_all h p hp
    · rw [if_neg h0] at h; exact absurd h h0
theorem jd1_all {o : Opq} {fs : List UInt8} : ∀ {l : List UInt8}, jd1 o fs l = 0 → ∀ c ∈ l, fs.contains c = false → isz o c = true
  | [], _, c, hc, _ => by cases hc
  | x :: l, h, c, hc, hf => by
    rw [jd1] at h
    by_cases h0 : fs.contains x = false ∧ isz o x = false
    · rw [if_pos h0] at h; cases h
    · rw [if_neg h0] at h
      rcases List.mem_cons.1 hc with rfl | hc
      · cases hz : isz o c with
        | true => rfl
        | false => exact absurd ⟨hf, hz⟩ h0
      · exact jd1_all h c hc hf
structure JdP (o : Opq) : Prop where
  k0 : 1 ≤ o.k
  k1 : o.k < 23
  z : ∀ c ∈ ltr, (fds o.k).contains c = false → isz o c = true
  n : ∀ c ∈ fds o.k, ∀ n, nvl o c = some n → smn n = true
  f : ∀ p ∈ o.f, jdF p = 0
theorem jdp {o : Opq} (h : jdS o = 0) : JdP o := by
  obtain ⟨⟨a1, a2⟩, a3, _⟩ := jdS_ok h
  unfold jdS at h
  split at h
  · cases h
  rename_i hw
  split at h
  · cases h
  rename_i h1
  split at h
  · cases h
  refine ⟨?_, a2, jd1_all (by simpa using h1), a3, jd3_all h⟩
  by_cases h0 : o.k = 0
  · rw [h0] at hw; exact absurd rfl hw
  · omega
theorem kdw_at : ∀ i : Fin 23, i.val ≠ 0 → kdw (stT.getD i.val ([], [])).1 = i.val := by decide
theorem fds_lt6 : ∀ i : Fin 23, i.val ≠ 16 → ∀ c ∈ (stT.getD i.val ([], [])).2, c ∈ lt6 := by decide
theorem fds_no : ∀ i : Fin 23, i.val ≠ 16 → (stT.getD i.val ([], [])).2 ≠ [70] ∧ (stT.getD i.val ([], [])).2.contains 70 = false := by decide
theorem isz_of {o : Opq} : (isz o 65 = true → o.a = 0) ∧ (isz o 66 = true → o.b = 0) ∧ (isz o 67 = true → o.c = 0) ∧ (isz o 75 = true → o.key = []) ∧ (isz o 86 = true → o.val = []) ∧ (isz o 72 = true → o.hi = []) ∧ (isz o 70 = true → o.f = []) :=
  ⟨fun h => by simpa [isz] using h, fun h => by simpa [isz] using h, fun h => by simpa [isz] using h, fun h => by simpa [isz] using h, fun h => by simpa [isz] using h, fun h => by simpa [isz] using h, fun h => by simpa [isz] using h⟩
def nof (o : Opq) : List UInt8 → Opq → Prop := fun fs q => fs.foldl (fun q c => setf q o c) q = o
/-- What the fields of a kind are taken from is the step. -/
theorem fold_step {o : Opq} (h : JdP o) (h16 : o.k ≠ 16) : (fds o.k).foldl (fun q c => setf q o c) (Opq.zero o.k) = o := by
  obtain ⟨z1, z2, z3, z4, z5, z6, z7⟩ := isz_of (o := o)
  have y1 := fun e => z1 (h.z 65 (by decide) e)
  have y2 := fun e => z2 (h.z 66 (by decide) e)
  have y3 := fun e => z3 (h.z 67 (by decide) e)
  have y4 := fun e => z4 (h.z 75 (by decide) e)
  have y5 := fun e => z5 (h.z 86 (by decide) e)
  have y6 := fun e => z6 (h.z 72 (by decide) e)
  have y7 := fun e => z7 (h.z 70 (by decide) e)
  have k0 := h.k0
  have k1 := h.k1
  clear z1 z2 z3 z4 z5 z6 z7 h
  obtain ⟨k, a, b, c, key, val, hi, f⟩ := o
  simp only at *
  have hk : k = 1 ∨ k = 2 ∨ k = 3 ∨ k = 4 ∨ k = 5 ∨ k = 6 ∨ k = 7 ∨ k = 8 ∨ k = 9 ∨ k = 10 ∨ k = 11 ∨ k = 12 ∨ k = 13 ∨ k = 14 ∨ k = 15 ∨ k = 17 ∨ k = 18 ∨ k = 19 ∨ k = 20 ∨ k = 21 ∨ k = 22 := by omega
  rcases hk with rfl | rfl | rfl | rfl | rfl | rfl | rfl | rfl | rfl | rfl | rfl | rfl | rfl | rfl | rfl | rfl | rfl | rfl | rfl | rfl | rfl <;>
    ( (try have y1 := y1 rfl); (try have y2 := y2 rfl); (try have y3 := y3 rfl); (try have y4 := y4 rfl); (try have y5 := y5 rfl); (try have y6 := y6 rfl); (try have y7 := y7 rfl)
      subst_vars
      rfl)
theorem stp_stw {o : Opq} (hb : Obt o) (hj : jdS o = 0) : stp (stw o) = .ok o := by
  have h := jdp hj
  have k0 := h.k0
  have k1 := h.k1
  obtain ⟨i, hi⟩ : ∃ i : Nat, o.k = i := ⟨o.k.toNat, by omega⟩
  have hkd : kdw (wrd o.k) = i := by
    unfold wrd
    rw [if_pos (by omega), hi, Int.toNat_natCast]
    exact kdw_at ⟨i, by omega⟩ (by simp only; omega)
  have hfd : fds o.k = (stT.getD i ([], [])).2 := by unfold fds; rw [hi, Int.toNat_natCast]
  unfold stp
  rw [show (stw o).headD [] = wrd o.k from rfl, hkd, if_neg (by omega), show (stw o).drop 1 = (fds o.k).flatMap (wlt o) ++ o.f.map fwd from rfl]
  rw [show (stw o).length - 1 = ((fds o.k).flatMap (wlt o) ++ o.f.map fwd).length from rfl]
  unfold fsx
  rw [← hi]
  by_cases h16 : i = 16
  · have e16 : o.k = 16 := by omega
    have ef : (stT.getD i ([], [])).2 = [70] := by rw [h16]; rfl
    have e1 : (fds o.k).flatMap (wlt o) = [] := by rw [hfd, ef]; rfl
    rw [if_pos ef, e1, List.nil_append, List.length_map, List.length_replicate, if_neg (by omega), flds_fates 0 o.f [] (Opq.zero o.k) rfl h.f]
    obtain ⟨z1, z2, z3, z4, z5, z6, z7⟩ := isz_of (o := o)
    have fz : ∀ c, c ≠ 70 → (fds o.k).contains c = false := fun c hc => by rw [hfd, ef]; simp [hc]
    have y1 := z1 (h.z 65 (by decide) (fz _ (by decide)))
    have y2 := z2 (h.z 66 (by decide) (fz _ (by decide)))
    have y3 := z3 (h.z 67 (by decide) (fz _ (by decide)))
    have y4 := z4 (h.z 75 (by decide) (fz _ (by decide)))
    have y5 := z5 (h.z 86 (by decide) (fz _ (by decide)))
    have y6 := z6 (h.z 72 (by decide) (fz _ (by decide)))
    clear z1 z2 z3 z4 z5 z6 z7 h hb hj hkd hfd fz e1
    obtain ⟨k, a, b, c, key, val, hi', f⟩ := o
    simp only at *
    subst_vars
    rfl
  · obtain ⟨n1, n2⟩ := fds_no ⟨i, by omega⟩ h16
    have hf : o.f = [] := (isz_of (o := o)).2.2.2.2.2.2 (h.z 70 (by decide) (by rw [hfd]; exact n2))
    obtain ⟨s1, s2⟩ := flds_set hb (fds o.k) (Opq.zero o.k) (by rw [hfd]; exact fds_lt6 ⟨i, by omega⟩ h16) h.n
    rw [if_neg n1, hf, List.map_nil, List.append_nil, s2, ← hfd, if_neg (by omega), s1, fold_step h (by omega)]
def lnt (ws : List (List UInt8)) : List UInt8 := Lib.join ws [32]
theorem prl_ok : ∀ (l : List Opq) (ls : List (List UInt8)) (u : List UInt8), prl (flt23 ls) l = .ok u → u = flt23 (ls ++ l.map fun o => lnt (stw o)) ∧ u.length ≤ 1048576
  | [], ls, u, h => by
    rw [prl] at h
    split at h
    · cases h
    · cases h; exact ⟨by simp, by omega⟩
  | o :: l, ls, u, h => by
    rw [prl] at h
    split at h
    · cases h
    · have e : flt23 ls ++ lnw (stw o) = flt23 (ls ++ [lnt (stw o)]) := by rw [flt_snoc]; rfl
      rw [e] at h
      have := prl_ok l _ u h
      simpa using this
theorem pll_steps {n : Int} : ∀ (l : List Opq) (acc : List Opq) (no : Nat), (∀ o ∈ l, Obt o ∧ jdS o = 0) → acc.length + l.length ≤ 2000 → pll (l.map fun o => lnt (stw o)) no (some (n, acc)) = .ok (n, acc ++ l)
  | [], acc, no, _, _ => by simp [pll]
  | o :: l, acc, no, h, hl => by
    obtain ⟨hb, hj⟩ := h o List.mem_cons_self
    have hc := (join_clean (stw_clean hb hj)).2
    have ih := pll_steps (n := n) l (acc ++ [o]) (no + 1) (fun x hx => h x (List.mem_cons_of_mem _ hx)) (by simp at hl ⊢; omega)
    rw [List.map_cons, pll_cons]
    unfold lnt at *
    rw [hc, if_neg (by unfold stw; simp)]
    have ht : tke (some (n, acc)) (stw o) = .ok (n, acc ++ [o]) := by
      unfold tke
      simp only
      rw [if_neg (by simp at hl; omega), stp_stw hb hj]
      rfl
    rw [ht]
    simp only
    rw [ih]
    simp
/-- P23.6: what is printed is read as the same script. -/
theorem psc_prt {n : Int} {l : List Opq} {u : List UInt8} (hb : ∀ o ∈ l, Obt o) (h : prt n l = .ok u) : u.length ≤ 1048576 ∧ psc u = .ok (n, l) := by
  unfold prt at h
  split at h
  · rename_i hj
    obtain ⟨j1, j2, j3⟩ := jdg_ok hj
    have e : lnw [ttw, Lib.itoa n] = flt23 [lnt [ttw, Lib.itoa n]] := by unfold flt23 lnw lnt; simp
    rw [e] at h
    obtain ⟨h1, h2⟩ := prl_ok l _ u h
    have c0 : ∀ x ∈ [ttw, Lib.itoa n], Wcl x := by
      intro x hx
      simp only [List.mem_cons, List.not_mem_nil, or_false] at hx
      rcases hx with rfl | rfl
      · exact ⟨by decide, by decide⟩
      · exact itoa_clean n
    have hA : ∀ o ∈ l, Obt o ∧ jdS o = 0 := fun o ho => ⟨hb o ho, jdA_ok j3 o ho⟩
    have hcl : ∀ x ∈ [lnt [ttw, Lib.itoa n]] ++ l.map (fun o => lnt (stw o)), (10 : UInt8) ∉ x := by
      intro x hx
      rcases List.mem_append.1 hx with hx | hx
      · simp only [List.mem_cons, List.not_mem_nil, or_false] at hx
        subst hx
        exact (join_clean c0).1
      · obtain ⟨o, ho, rfl⟩ := List.mem_map.1 hx
        exact (join_clean (stw_clean (hA o ho).1 (hA o ho).2)).1
    refine ⟨h2, ?_⟩
    unfold psc
    rw [if_neg (by omega), h1]
    have el := lns_flt _ [] hcl
    rw [List.append_nil, lns_nil, List.append_nil] at el
    rw [el, List.cons_append, List.nil_append, pll_cons]
    have hw : wrds (cua 35 (lnt [ttw, Lib.itoa n])) = [ttw, Lib.itoa n] := (join_clean c0).2
    rw [hw, if_neg (by simp)]
    have ht : tke none [ttw, Lib.itoa n] = .ok (n, []) := by
      unfold tke tkf
      simp only
      rw [if_neg (by simp), if_neg (by simp)]
      show Except.map _ (nmE (Lib.itoa n)) = _
      rw [nmE_itoa j1]
      rfl
    rw [ht]
    simp only
    have := pll_steps (n := n) l [] 2 hA (by simpa using j2)
    simpa using this
  · cases h
/-! What is read can be printed, or is too long. -/
structure Rok (o : Opq) (fs : List UInt8) : Prop where
  z : ∀ c ∈ ltr, fs.contains c = false → isz o c = true
  na : smn o.a = true
  nb : smn o.b = true
  nc : smn o.c = true
  f : ∀ p ∈ o.f, jdF p = 0
  bt : Obt o
theorem nmE_ok {w : List UInt8} {n : Int} (h : nmE w = .ok n) : smn n = true := by
  unfold nmE at h
  cases hn : nmb w with
  | none => rw [hn] at h; cases h
  | some m => rw [hn] at h; cases h; exact ((nmb_iff w n).1 hn).2
theorem fte_ok {w : List UInt8} {p : Int × Int} (h : fte w = .ok p) : jdF p = 0 := by
  unfold fte at h
  split at h
  · cases h; rfl
  split at h
  · cases h; rfl
  split at h
  · obtain ⟨n, hn, rfl⟩ := exc_map h
    unfold jdF
    simp only
    rw [if_neg (by decide)]
    simp [nmE_ok hn]
  · cases h
/-- The other fields stay. -/
theorem fld_rok {q q' : Opq} {c : UInt8} {w : List UInt8} {fs : List UInt8} (hq : Rok q fs) (hc : fs.contains c = true) (h : fld q c w = .ok q') (h7 : c ∈ ltr) : Rok q' fs ∧ q'.k = q.k := by
  have hz := hq.z
  have keep : ∀ x ∈ ltr, x ≠ c → (fs.contains x = false → isz q x = true) := fun x hx _ => hz x hx
  unfold ltr at h7
  simp only [List.mem_cons, List.not_mem_nil, or_false] at h7
  rcases h7 with rfl | rfl | rfl | rfl | rfl | rfl | rfl
  · unfold fld at h
    rw [if_pos rfl] at h
    obtain ⟨n, hn, rfl⟩ := exc_map h
    refine ⟨⟨fun x hx hf => ?_, nmE_ok hn, hq.nb, hq.nc, hq.f, ⟨hq.bt.key, hq.bt.val, hq.bt.hi⟩⟩, rfl⟩
    have hne : x ≠ 65 := fun e => by subst e; rw [hc] at hf; cases hf
    have := hz x hx hf
    unfold isz at this ⊢
    rw [if_neg hne] at this ⊢
    exact this
  · unfold fld at h
    rw [if_neg (by decide), if_pos rfl] at h
    obtain ⟨n, hn, rfl⟩ := exc_map h
    refine ⟨⟨fun x hx hf => ?_, hq.na, nmE_ok hn, hq.nc, hq.f, ⟨hq.bt.key, hq.bt.val, hq.bt.hi⟩⟩, rfl⟩
    have hne : x ≠ 66 := fun e => by subst e; rw [hc] at hf; cases hf
    have := hz x hx hf
    unfold isz at this ⊢
    rw [if_neg hne] at this ⊢
    exact this
  · unfold fld at h
    rw [if_neg (by decide), if_neg (by decide), if_pos rfl] at h
    obtain ⟨n, hn, rfl⟩ := exc_map h
    refine ⟨⟨fun x hx hf => ?_, hq.na, hq.nb, nmE_ok hn, hq.f, ⟨hq.bt.key, hq.bt.val, hq.bt.hi⟩⟩, rfl⟩
    have hne : x ≠ 67 := fun e => by subst e; rw [hc] at hf; cases hf
    have := hz x hx hf
    unfold isz at this ⊢
    rw [if_neg hne] at this ⊢
    exact this
  · unfold fld at h
    rw [if_neg (by decide), if_neg (by decide), if_neg (by decide), if_pos rfl] at h
    obtain ⟨n, hn, rfl⟩ := exc_map h
    refine ⟨⟨fun x hx hf => ?_, hq.na, hq.nb, hq.nc, hq.f, ⟨(uhE_len hn).2, hq.bt.val, hq.bt.hi⟩⟩, rfl⟩
    have hne : x ≠ 75 := fun e => by subst e; rw [hc] at hf; cases hf
    have := hz x hx hf
    unfold isz at this ⊢
    rw [if_neg hne] at this ⊢
    exact this
  · unfold fld at h
    rw [if_neg (by decide), if_neg (by decide), if_neg (by decide), if_neg (by decide), if_pos rfl] at h
    obtain ⟨n, hn, rfl⟩ := exc_map h
    refine ⟨⟨fun x hx hf => ?_, hq.na, hq.nb, hq.nc, hq.f, ⟨hq.bt.key, (uhE_len hn).2, hq.bt.hi⟩⟩, rfl⟩
    have hne : x ≠ 86 := fun e => by subst e; rw [hc] at hf; cases hf
    have := hz x hx hf
    unfold isz at this ⊢
    rw [if_neg hne] at this ⊢
    exact this
  · unfold fld at h
    rw [if_neg (by decide), if_neg (by decide), if_neg (by decide), if_neg (by decide), if_neg (by decide), if_pos rfl] at h
    obtain ⟨n, hn, rfl⟩ := exc_map h
    refine ⟨⟨fun x hx hf => ?_, hq.na, hq.nb, hq.nc, hq.f, ⟨hq.bt.key, hq.bt.val, (uhE_len hn).2⟩⟩, rfl⟩
    have hne : x ≠ 72 := fun e => by subst e; rw [hc] at hf; cases hf
    have := hz x hx hf
    unfold isz at this ⊢
    rw [if_neg hne] at this ⊢
    exact this
  · unfold fld at h
    rw [if_neg (by decide), if_neg (by decide), if_neg (by decide), if_neg (by decide), if_neg (by decide), if_neg (by decide)] at h
    obtain ⟨n, hn, rfl⟩ := exc_map h
    refine ⟨⟨fun x hx hf => ?_, hq.na, hq.nb, hq.nc, fun p hp => ?_, ⟨hq.bt.key, hq.bt.val, hq.bt.hi⟩⟩, rfl⟩
    · have hne : x ≠ 70 := fun e => by subst e; rw [hc] at hf; cases hf
      have := hz x hx hf
      unfold ltr at hx
      simp only [List.mem_cons, List.not_mem_nil, or_false] at hx
      rcases hx with rfl | rfl | rfl | rfl | rfl | rfl | rfl
      · exact this
      · exact this
      · exact this
      · exact this
      · exact this
      · exact this
      · exact absurd rfl hne
    · rcases List.mem_append.1 hp with hp | hp
      · exact hq.f p hp
      · simp only [List.mem_cons, List.not_mem_nil, or_false] at hp
        subst hp
        exact fte_ok hn
theorem flds_rok {F : List UInt8} : ∀ (fs : List UInt8) (ws : List (List UInt8)) (q q' : Opq), Rok q F → (∀ c ∈ fs, F.contains c = true ∧ c ∈ ltr) → flds q fs ws = .ok q' → Rok q' F ∧ q'.k = q.k
  | [], ws, q, q', hq, _, h => by
    have : q = q' := by cases ws <;> (rw [flds] at h; cases h; rfl) <;> simp
    subst this
    exact ⟨hq, rfl⟩
  | c :: fs, [], q, q', hq, _, h => by
    rw [flds] at h
    · cases h; exact ⟨hq, rfl⟩
    · intro _ _ _ _ _ e; cases e
  | c :: fs, w :: ws, q, q', hq, hf, h => by
    rw [flds] at h
    cases hl : fld q c w with
    | error e => rw [hl] at h; cases h
    | ok q1 =>
      rw [hl] at h
      simp only at h
      obtain ⟨r1, e1⟩ := fld_rok hq (hf c List.mem_cons_self).1 hl (hf c List.mem_cons_self).2
      obtain ⟨r2, e2⟩ := flds_rok fs ws q1 q' r1 (fun x hx => hf x (List.mem_cons_of_mem _ hx)) h
      exact ⟨r2, by rw [e2, e1]⟩
theorem fds_ltr : ∀ i : Fin 23, ∀ c ∈ (stT.getD i.val ([], [])).2, c ∈ ltr := by decide
theorem kix_lt (w : List UInt8) : ∀ (l : List (List UInt8 × List UInt8)) (i : Nat), kix w i l = 0 ∨ (i ≤ kix w i l ∧ kix w i l < i + l.length ∧ (l.getD (kix w i l - i) ([], [])).1 = w)
  | [], i => .inl rfl
  | p :: l, i => by
    rw [kix]
    split
    · rename_i h; exact .inr ⟨Nat.le_refl _, by simp, by simp [h]⟩
    · rcases kix_lt w l (i + 1) with q | ⟨q1, q2, q3⟩
      · exact .inl q
      · refine .inr ⟨by omega, by simp; omega, ?_⟩
        rw [show kix w (i + 1) l - i = (kix w (i + 1) l - (i + 1)) + 1 by omega]
        simpa using q3
theorem jd1_zero {o : Opq} {fs : List UInt8} : ∀ {l : List UInt8}, (∀ c ∈ l, fs.contains c = false → isz o c = true) → jd1 o fs l = 0
  | [], _ => rfl
  | x :: l, h => by
    rw [jd1, if_neg (fun ⟨e1, e2⟩ => by rw [h x List.mem_cons_self e1] at e2; cases e2)]
    exact jd1_zero fun c hc => h c (List.mem_cons_of_mem _ hc)
theorem jd2_zero {o : Opq} (na : smn o.a = true) (nb : smn o.b = true) (nc : smn o.c = true) : ∀ l : List UInt8, jd2 o l = 0
  | [] => rfl
  | x :: l => by
    have ih := jd2_zero na nb nc l
    rw [jd2]
    cases hn : nvl o x with
    | none => exact ih
    | some n =>
      simp only
      have : smn n = true := by
        unfold nvl at hn
        split at hn
        · cases hn; exact na
        split at hn
        · cases hn; exact nb
        split at hn
        · cases hn; exact nc
        · cases hn
      rw [if_pos this]
      exact ih
theorem jd3_zero : ∀ {l : List (Int × Int)}, (∀ p ∈ l, jdF p = 0) → jd3 l = 0
  | [], _ => rfl
  | x :: l, h => by rw [jd3, if_pos (h x List.mem_cons_self)]; exact jd3_zero fun p hp => h p (List.mem_cons_of_mem _ hp)
theorem stp_ok {ws : List (List UInt8)} {o : Opq} (h : stp ws = .ok o) : jdS o = 0 ∧ Obt o := by
  unfold stp at h
  split at h
  · cases h
  rename_i h0
  split at h
  · cases h
  rcases kix_lt (ws.headD []) stT 0 with q | ⟨_, q2, q3⟩
  · exact absurd q h0
  change kdw (ws.headD []) < 0 + 23 at q2
  change (stT.getD (kdw (ws.headD []) - 0) ([], [])).1 = _ at q3
  rw [Nat.sub_zero] at q3
  rw [Nat.zero_add] at q2
  have hnn : (stT.getD (kdw (ws.headD [])) ([], [])).1 ≠ [] := by
    have : ∀ i : Fin 23, i.val ≠ 0 → (stT.getD i.val ([], [])).1 ≠ [] := by decide
    exact this ⟨_, q2⟩ h0
  generalize kdw (ws.headD []) = k at *
  have z0 : Rok (Opq.zero k) (stT.getD k ([], [])).2 := ⟨fun c hc _ => by
      unfold ltr at hc
      simp only [List.mem_cons, List.not_mem_nil, or_false] at hc
      rcases hc with rfl | rfl | rfl | rfl | rfl | rfl | rfl <;> rfl, by rfl, by rfl, by rfl, (fun p hp => by cases hp), ⟨Bt.nil, Bt.nil, Bt.nil⟩⟩
  obtain ⟨r, ek⟩ := flds_rok (F := (stT.getD k ([], [])).2) _ _ _ _ z0 (fun c hc => by
    have hm : c ∈ (stT.getD k ([], [])).2 := by
      unfold fsx at hc
      split at hc
      · rename_i e
        rw [e]
        have := List.eq_of_mem_replicate hc
        subst this
        simp
      · exact hc
    exact ⟨by simpa using hm, fds_ltr ⟨k, q2⟩ c hm⟩) h
  have ek : o.k = (k : Int) := ek
  have hw : wrd o.k ≠ [] := by unfold wrd; rw [if_pos (by omega), ek, Int.toNat_natCast]; exact hnn
  have hfd : fds o.k = (stT.getD k ([], [])).2 := by unfold fds; rw [ek, Int.toNat_natCast]
  refine ⟨?_, r.bt⟩
  unfold jdS
  rw [if_neg hw, hfd, jd1_zero r.z, jd2_zero r.na r.nb r.nc, jd3_zero r.f]
  rfl
theorem pll_fine : ∀ (ls : List (List UInt8)) (no : Nat) (s : Option Sq) (r : Sq), pll ls no s = .ok r → (∀ q, s = some q → smn q.1 = true ∧ ∀ o ∈ q.2, jdS o = 0 ∧ Obt o) → smn r.1 = true ∧ ∀ o ∈ r.2, jdS o = 0 ∧ Obt o
  | [], no, none, r, h, _ => by rw [pll] at h; cases h
  | [], no, some s, r, h, hs => by rw [pll] at h; cases h; exact hs _ rfl
  | l :: ls, no, s, r, h, hs => by
    rw [pll_cons] at h
    split at h
    · exact pll_fine ls _ s r h hs
    · cases ht : tke s (wrds (cua 35 l)) with
      | error e => rw [ht] at h; cases h
      | ok s' =>
        rw [ht] at h
        simp only at h
        refine pll_fine ls _ (some s') r h (fun q hq => ?_)
        cases hq
        cases s with
        | none =>
          unfold tke at ht
          obtain ⟨n, hn, rfl⟩ := exc_map ht
          refine ⟨?_, fun o ho => by cases ho⟩
          unfold tkf at hn
          split at hn
          · cases hn
          split at hn
          · cases hn
          · exact nmE_ok hn
        | some p =>
          obtain ⟨n, os⟩ := p
          obtain ⟨k1, k2⟩ := hs _ rfl
          unfold tke at ht
          simp only at ht
          split at ht
          · cases ht
          · obtain ⟨o, ho, rfl⟩ := exc_map ht
            refine ⟨k1, fun q hq => ?_⟩
            rcases List.mem_append.1 hq with hq | hq
            · exact k2 q hq
            · simp only [List.mem_cons, List.not_mem_nil, or_false] at hq
              subst hq
              exact stp_ok ho
theorem jdA_zero : ∀ {l : List Opq}, (∀ o ∈ l, jdS o = 0) → jdA l = 0
  | [], _ => rfl
  | x :: l, h => by rw [jdA, if_pos (h x List.mem_cons_self)]; exact jdA_zero fun p hp => h p (List.mem_cons_of_mem _ hp)
theorem prl_err : ∀ (l : List Opq) (t : List UInt8) (e : Int), prl t l = .error e → e = 234
  | [], t, e, h => by rw [prl] at h; split at h <;> cases h; rfl
  | o :: l, t, e, h => by
    rw [prl] at h
    split at h
    · cases h; rfl
    · exact prl_err l _ e h
/-- P23.6: what is read is printed, or is too long; the text is read as the same. -/
theorem prt_psc {T : List UInt8} {n : Int} {l : List Opq} (h : psc T = .ok (n, l)) : prt n l = .error 234 ∨ ∃ u, prt n l = .ok u ∧ u.length ≤ 1048576 ∧ psc u = .ok (n, l) := by
  obtain ⟨_, h2, _⟩ := psc_sml h
  unfold psc at h
  split at h
  · cases h
  obtain ⟨f1, f2⟩ := pll_fine _ _ _ _ h (fun q hq => by cases hq)
  have hj : jdg23 n l = 0 := by
    unfold jdg23
    rw [if_pos f1, if_neg (by omega)]
    exact jdA_zero fun o ho => (f2 o ho).1
  cases hp : prt n l with
  | ok u =>
    obtain ⟨a1, a2⟩ := psc_prt (fun o ho => (f2 o ho).2) hp
    exact .inr ⟨u, rfl, a1, a2⟩
  | error e =>
    left
    unfold prt at hp
    rw [if_pos hj] at hp
    rw [prl_err _ _ _ hp]
end Go.Proofs.YtcjgmiilfjjbcaaGreatDoor
