import Derived.Test.YtdoclmmghdaaaaaGreatDoorSrS
namespace Go.Proofs.YtdoclmmghdaaaaaGreatDoor
open Go.RowKit

/-! What is read is no longer than its text: pure. -/
/-- A step whose lists have at most m bytes each and at most n fates. -/
structure Sml (o : Opq) (m n : Nat) : Prop where
  key : o.key.length ≤ m
  val : o.val.length ≤ m
  hi : o.hi.length ≤ m
  f : o.f.length ≤ n
theorem Sml.more {o : Opq} {m n m' n' : Nat} (h : Sml o m n) (h1 : m ≤ m') (h2 : n ≤ n') : Sml o m' n' := ⟨by have := h.key; omega, by have := h.val; omega, by have := h.hi; omega, by have := h.f; omega⟩
theorem Sml.zero (k : Int) (m n : Nat) : Sml (Opq.zero k) m n := ⟨Nat.zero_le _, Nat.zero_le _, Nat.zero_le _, Nat.zero_le _⟩
theorem exc_map {A B : Type} {x : Except Int A} {f : A → B} {y : B} (h : x.map f = .ok y) : ∃ a, x = .ok a ∧ f a = y := by
  cases x with
  | ok a => exact ⟨a, rfl, by cases h; rfl⟩
  | error e => cases h
theorem uhE_len {w : List UInt8} {b : List Int} (h : uhE w = .ok b) : b.length ≤ w.length ∧ Bt b := by
  unfold uhE at h
  cases hu : uh w with
  | none => rw [hu] at h; cases h
  | some x =>
    rw [hu] at h
    cases h
    have := uh_len hu
    exact ⟨by omega, uh_bt hu⟩
theorem fld_sml {o o' : Opq} {c : UInt8} {w : List UInt8} {m n : Nat} (h : fld o c w = .ok o') (hs : Sml o m n) (hw : w.length ≤ m) : Sml o' m (n + 1) := by
  unfold fld at h
  have s1 := hs.more (Nat.le_refl m) (Nat.le_succ n)
  split at h
  · obtain ⟨a, _, rfl⟩ := exc_map h; exact ⟨s1.key, s1.val, s1.hi, s1.f⟩
  split at h
  · obtain ⟨a, _, rfl⟩ := exc_map h; exact ⟨s1.key, s1.val, s1.hi, s1.f⟩
  split at h
  · obtain ⟨a, _, rfl⟩ := exc_map h; exact ⟨s1.key, s1.val, s1.hi, s1.f⟩
  split at h
  · obtain ⟨a, ha, rfl⟩ := exc_map h; have := uhE_len ha; exact ⟨by simp only; omega, s1.val, s1.hi, s1.f⟩
  split at h
  · obtain ⟨a, ha, rfl⟩ := exc_map h; have := uhE_len ha; exact ⟨s1.key, by simp only; omega, s1.hi, s1.f⟩
  split at h
  · obtain ⟨a, ha, rfl⟩ := exc_map h; have := uhE_len ha; exact ⟨s1.key, s1.val, by simp only; omega, s1.f⟩
  · obtain ⟨a, ha, rfl⟩ := exc_map h
    have := hs.f
    exact ⟨s1.key, s1.val, s1.hi, by simp; omega⟩
theorem flds_sml {m : Nat} : ∀ (fs : List UInt8) (ws : List (List UInt8)) (o o' : Opq) (n : Nat), flds o fs ws = .ok o' → Sml o m n → (∀ w ∈ ws, w.length ≤ m) → Sml o' m (n + ws.length)
  | [], ws, o, o', n, h, hs, _ => by
    have : o = o' := by cases ws <;> (rw [flds] at h; cases h; rfl) <;> simp
    subst this
    exact hs.more (Nat.le_refl _) (by omega)
  | c :: fs, [], o, o', n, h, hs, _ => by
    rw [flds] at h
    · cases h; exact hs.more (Nat.le_refl _) (by omega)
    · intro _ _ _ _ _ e; cases e
  | c :: fs, w :: ws, o, o', n, h, hs, hw => by
    rw [flds] at h
    cases hf : fld o c w with
    | error e => rw [hf] at h; cases h
    | ok o1 =>
      rw [hf] at h
      simp only at h
      have := flds_sml fs ws o1 o' (n + 1) h (fld_sml hf hs (hw w List.mem_cons_self)) (fun x hx => hw x (List.mem_cons_of_mem _ hx))
      exact this.more (Nat.le_refl _) (by simp; omega)
theorem stp_sml {ws : List (List UInt8)} {o : Opq} {m : Nat} (h : stp ws = .ok o) (hw : ∀ w ∈ ws, w.length ≤ m) : Sml o m ws.length := by
  unfold stp at h
  split at h
  · cases h
  split at h
  · cases h
  · have := flds_sml _ _ _ _ 0 h (Sml.zero _ _ _) (fun x hx => hw x (List.mem_of_mem_drop hx))
    exact this.more (Nat.le_refl _) (by simp)
theorem cua_le (x : UInt8) (t : List UInt8) : (cua x t).length ≤ t.length := (cub_len x t).1
theorem lns_le : ∀ (T : List UInt8), ∀ l ∈ lns T, l.length ≤ T.length
  | [], l, hl => by cases hl
  | c :: T, l, hl => by
    have ih := lns_le T
    rw [lns_cons] at hl
    split at hl
    · rcases List.mem_cons.1 hl with rfl | hl
      · simp
      · have := ih l hl; simp; omega
    · cases hT : lns T with
      | nil =>
        rw [hT] at hl
        simp only [List.mem_cons, List.not_mem_nil, or_false] at hl
        subst hl
        simp
      | cons x xs =>
        rw [hT] at hl ih
        rcases List.mem_cons.1 hl with rfl | hl
        · have := ih x List.mem_cons_self; simp; omega
        · have := ih l (List.mem_cons_of_mem _ hl); simp; omega
theorem pll_sml {m : Nat} : ∀ (ls : List (List UInt8)) (no : Nat) (s : Option Sq) (r : Sq), pll ls no s = .ok r → (∀ l ∈ ls, l.length ≤ m) → (∀ q, s = some q → q.2.length ≤ 2000 ∧ ∀ o ∈ q.2, Sml o m m) → r.2.length ≤ 2000 ∧ ∀ o ∈ r.2, Sml o m m
  | [], no, none, r, h, _, _ => by rw [pll] at h; cases h
  | [], no, some s, r, h, _, hs => by rw [pll] at h; cases h; exact hs _ rfl
  | l :: ls, no, s, r, h, hl, hs => by
    rw [pll_cons] at h
    split at h
    · exact pll_sml ls _ s r h (fun x hx => hl x (List.mem_cons_of_mem _ hx)) hs
    · cases ht : tke s (wrds (cua 35 l)) with
      | error e => rw [ht] at h; cases h
      | ok s' =>
        rw [ht] at h
        simp only at h
        refine pll_sml ls _ (some s') r h (fun x hx => hl x (List.mem_cons_of_mem _ hx)) (fun q hq => ?_)
        cases hq
        have hll := hl l List.mem_cons_self
        have hcu := cua_le 35 l
        obtain ⟨w1, w2⟩ := wrds_len (cua 35 l)
        cases s with
        | none =>
          unfold tke at ht
          obtain ⟨n, _, rfl⟩ := exc_map ht
          exact ⟨Nat.zero_le _, fun o ho => by cases ho⟩
        | some p =>
          obtain ⟨n, os⟩ := p
          obtain ⟨k1, k2⟩ := hs _ rfl
          unfold tke at ht
          simp only at ht
          split at ht
          · cases ht
          · rename_i hne
            obtain ⟨o, ho, rfl⟩ := exc_map ht
            simp only at k1 k2 ⊢
            refine ⟨by simp; omega, fun q hq => ?_⟩
            rcases List.mem_append.1 hq with hq | hq
            · exact k2 q hq
            · simp only [List.mem_cons, List.not_mem_nil, or_false] at hq
              subst hq
              exact (stp_sml ho (m := m) (fun x hx => by have := w1 x hx; omega)).more (Nat.le_refl _) (by omega)
theorem psc_sml {T : List UInt8} {n : Int} {l : List Opq} (h : psc T = .ok (n, l)) : T.length ≤ 1048576 ∧ l.length ≤ 2000 ∧ ∀ o ∈ l, Sml o T.length T.length := by
  unfold psc at h
  split at h
  · cases h
  · rename_i hT
    exact ⟨by omega, pll_sml _ _ _ _ h (lns_le T) (fun q hq => by cases hq)⟩
/-- So it can be compared and printed. -/
theorem psc_fit {T : List UInt8} {n : Int} {l : List Opq} (h : psc T = .ok (n, l)) : Fnw l ∧ (∀ o ∈ l, lsz o ≤ 4194304) ∧ l.length ≤ 2000 := by
  obtain ⟨h1, h2, h3⟩ := psc_sml h
  refine ⟨fun o ho => ?_, fun o ho => ?_, h2⟩
  · have := (h3 o ho).f; omega
  · have q := h3 o ho
    have := q.key; have := q.val; have := q.hi; have := q.f
    unfold lsz
    omega
end Go.Proofs.YtdoclmmghdaaaaaGreatDoor
