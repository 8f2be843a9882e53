import Derived.Test.YtpoflmcmlnghhaaRrA
namespace Go.Proofs.Ytpoflmcmlnghhaa
open Go.RowKit Go.Maps

theorem getI_put_ne {l : List (Int × Int)} (h : Ris l) {k k' : Int} (hne : k' ≠ k) (v : Int) : getI (putI l k v) k' = getI l k' := by
  cases hh : hasI l k' with
  | true =>
    have h1 := getI_has h hh
    exact getI_mem (p := (k', getI l k')) (h.put k v) ((mem_putI _ _ _ _).2 (.inr ⟨h1, hne⟩))
  | false =>
    rw [getI_none hh]
    apply getI_none
    cases e : hasI (putI l k v) k' with
    | false => rfl
    | true =>
      obtain ⟨x, hx, rfl⟩ := (hasI_iff _ _).1 e
      rcases (mem_putI _ _ _ _).1 hx with h1 | h1
      · rw [h1] at hne; exact absurd rfl hne
      · have : hasI l x.1 = true := (hasI_iff _ _).2 ⟨x, h1.1, rfl⟩
        rw [hh] at this
        cases this
theorem getI_del_ne {l : List (Int × Int)} (h : Ris l) {k k' : Int} (hne : k' ≠ k) : getI (delI l k) k' = getI l k' := by
  cases hh : hasI l k' with
  | true =>
    have h1 := getI_has h hh
    exact getI_mem (p := (k', getI l k')) (h.del k) ((mem_delI _ _ _).2 ⟨h1, hne⟩)
  | false =>
    rw [getI_none hh]
    apply getI_none
    cases e : hasI (delI l k) k' with
    | false => rfl
    | true =>
      obtain ⟨x, hx, rfl⟩ := (hasI_iff _ _).1 e
      have : hasI l x.1 = true := (hasI_iff _ _).2 ⟨x, ((mem_delI _ _ _).1 hx).1, rfl⟩
      rw [hh] at this
      cases this
theorem getI_del {l : List (Int × Int)} (k : Int) : getI (delI l k) k = 0 := by
  apply getI_none
  cases e : hasI (delI l k) k with
  | false => rfl
  | true =>
    obtain ⟨x, hx, rfl⟩ := (hasI_iff _ _).1 e
    exact absurd rfl ((mem_delI _ _ _).1 hx).2
theorem Pq.pin {q : List (Int × Int)} {ps : List Int} (h : Pq q ps) (v : Int) : Pq (pinQ q v) (ps ++ [v]) := by
  unfold pinQ
  have hc := h.cnt v
  refine ⟨h.ris.put _ _, fun u => ?_, fun x hx => ?_⟩
  · rw [List.count_append]
    by_cases e : u = v
    · subst e
      rw [getI_put h.ris, hc]
      simp
    · rw [getI_put_ne h.ris e, h.cnt u, List.count_singleton]
      simp [show ¬ v = u from fun e' => e e'.symm]
  · rcases (mem_putI _ _ _ _).1 hx with rfl | h1
    · show 1 ≤ getI q v + 1
      omega
    · exact h.pos x h1.1
theorem Pq.unpin {q : List (Int × Int)} {ps : List Int} (h : Pq q ps) {v : Int} (hv : v ∈ ps) : Pq (unQ q v) (ps.erase v) := by
  have hc := h.cnt v
  have hp : 0 < ps.count v := List.count_pos_iff.2 hv
  unfold unQ
  by_cases e1 : getI q v = 1
  · rw [if_pos e1]
    refine ⟨h.ris.del _, fun u => ?_, fun x hx => h.pos x ((mem_delI _ _ _).1 hx).1⟩
    by_cases e : u = v
    · subst e
      rw [getI_del, List.count_erase_self]
      omega
    · rw [getI_del_ne h.ris e, h.cnt u, List.count_erase_of_ne e]
  · rw [if_neg e1]
    refine ⟨h.ris.put _ _, fun u => ?_, fun x hx => ?_⟩
    · by_cases e : u = v
      · subst e
        rw [getI_put h.ris, List.count_erase_self]
        omega
      · rw [getI_put_ne h.ris e, h.cnt u, List.count_erase_of_ne e]
    · rcases (mem_putI _ _ _ _).1 hx with rfl | h1
      · show 1 ≤ getI q v - 1
        omega
      · exact h.pos x h1.1
theorem Pq.len {q : List (Int × Int)} {ps : List Int} (h : Pq q ps) : q.length ≤ ps.length := by
  have h1 : (q.map (·.1)).Nodup := h.ris.keys.imp fun {a b} hab => by omega
  have := nodup_le h1 (fun x hx => by
    obtain ⟨y, hy, rfl⟩ := List.mem_map.1 hx
    exact (h.has y.1).2 ⟨y, hy, rfl⟩)
  simpa using this
theorem Pq.get {q : List (Int × Int)} {ps : List Int} (h : Pq q ps) (v : Int) : 0 ≤ getI q v ∧ getI q v ≤ ps.length ∧ (getI q v = 0 ↔ v ∉ ps) := by
  have h1 := h.cnt v
  have h2 := List.count_le_length (a := v) (l := ps)
  refine ⟨by omega, by omega, ?_⟩
  rw [h1]
  constructor
  · intro e hv
    have := List.count_pos_iff.2 hv
    omega
  · intro hv
    have := List.count_eq_zero.2 hv
    omega
theorem ok_commit {p : Po} (ok : Ok p) {d : Int} {g : List Int} (v : Int) (hf : 0 ≤ lsP p d g) (hr : d ≤ rm p - lsP p d g) : Ok (cmP p d g v) := by
  obtain ⟨hd0, hm⟩ := may_of_ls hf
  unfold mayP noF at hm
  rw [Bool.and_eq_true, rp_iff] at hm
  have hN : ((cmN p d g : Nat) : Int) = d + lsP p d g := by unfold cmN; omega
  have hc2 := ok.c2
  have hck := ok.ck
  have hk := ok.k
  have hc : (cmP p d g v).c = p.c + ((cmN p d g - (us p).length : Nat) : Int) := rfl
  have hkk : (cmP p d g v).k = p.k := rfl
  unfold rm at hr
  refine ⟨by omega, by omega, by omega, fun x hx => ?_⟩
  rcases (mem_puts _ _ _ _).1 hx with h1 | h1
  · have := hm.2.2 _ h1.1
    omega
  · have h2 : x ∈ dels p.l ((us p).take (cmN p d g)) := h1.1
    have := ok.l x ((mem_dels _ _ _).1 h2).1
    omega
theorem Pr.next {w w' : World} {Q B s q R : Nat} {F F' : Nat → Prop} {p p' : Po} {r r' : Ro} (h : Pr w Q B s q R F p r) (hq : w'.heap[Q]? = w.heap[Q]?) (hp : Pl w' B s q p') (hz : Rz w' F' R r') (ok : Ok p') (hF : ∀ i, F' i → F i ∨ w.heap.size ≤ i) (ag : Ag p' r') (ml : r'.ps.length ≤ 1000000) : Pr w' Q B s q R F' p' r' := by
  refine ⟨hq.trans h.qx, hp, ok, hz, fun i hi hb => ?_, fun hi => ?_, ag, ml⟩
  · rcases hF i hi with h1 | h1
    · exact h.dj i h1 hb
    · have := h.pl.low i hb
      omega
  · rcases hF Q hi with h1 | h1
    · exact h.qF h1
    · have := h.qlt
      omega
theorem runpin_no {w : World} {F : Nat → Prop} {R : Nat} {r : Ro} {v : Int} (h : Rz w F R r) (hs : r.ps.length ≤ 2000000) (hv : v ∉ r.ps) :
    Calls Try.prog 33 #[.pointer (some ⟨R, 0, none⟩), .int .i64 v] w fun en w' => en = .returned (.bool false) ∧ w' = w := by
  refine (runpin_any v h hs).mono ?_
  rintro en w' (⟨-, h1⟩ | ⟨h1, -⟩)
  · exact h1
  · exact absurd h1 hv
theorem runpin_yes {w : World} {F : Nat → Prop} {R : Nat} {r : Ro} {v : Int} (h : Rz w F R r) (hs : r.ps.length ≤ 2000000) (hv : v ∈ r.ps) :
    Calls Try.prog 33 #[.pointer (some ⟨R, 0, none⟩), .int .i64 v] w fun en w' => en = .returned (.bool true) ∧ Rz w' (Nf F w w') R { r with ps := r.ps.erase v } ∧ Fr w w' F := by
  refine (runpin_any v h hs).mono ?_
  rintro en w' (⟨h1, -⟩ | ⟨-, h1⟩)
  · exact absurd hv h1
  · exact h1
end Go.Proofs.Ytpoflmcmlnghhaa
