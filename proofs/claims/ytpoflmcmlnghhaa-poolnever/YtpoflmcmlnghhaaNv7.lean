import Derived.Test.YtpoflmcmlnghhaaNv6
namespace Go.Proofs.Ytpoflmcmlnghhaa
open Go.RowKit Go.Maps

/-! ### what its owner gives up -/
def gnL (ls : Fin 4 → List Int) (g : List Int) (ver : Int) (i : Nat) : Fin 4 → List Int := upd (upd (upd ls 0 ((g.take i).foldl List.erase (ls 0))) 1 (ls 1 ++ g.take i)) 2 (ls 2 ++ List.replicate i ver)
theorem fin4 {P : Fin 4 → Prop} (h0 : P 0) (h1 : P 1) (h2 : P 2) (h3 : P 3) : ∀ k, P k := by
  rintro ⟨k, hk⟩
  match k, hk with
  | 0, _ => exact h0
  | 1, _ => exact h1
  | 2, _ => exact h2
  | 3, _ => exact h3
theorem gnL_zero (ls : Fin 4 → List Int) (g : List Int) (ver : Int) : gnL ls g ver 0 = ls := by
  funext k
  revert k
  refine fin4 ?_ ?_ ?_ ?_
  · show (g.take 0).foldl List.erase (ls 0) = ls 0; simp
  · show ls 1 ++ g.take 0 = ls 1; simp
  · show ls 2 ++ List.replicate 0 ver = ls 2; simp
  · rfl
theorem gnL_succ (ls : Fin 4 → List Int) {g : List Int} (ver : Int) {i : Nat} (h : i < g.length) : upd (upd (upd (gnL ls g ver i) 0 ((gnL ls g ver i 0).erase (g.getD i 0))) 1 (gnL ls g ver i 1 ++ [g.getD i 0])) 2 (gnL ls g ver i 2 ++ [ver]) = gnL ls g ver (i + 1) := by
  have hs := take_snoc h
  funext k
  revert k
  refine fin4 ?_ ?_ ?_ ?_
  · show ((g.take i).foldl List.erase (ls 0)).erase (g.getD i 0) = (g.take (i + 1)).foldl List.erase (ls 0)
    rw [hs]; simp
  · show ls 1 ++ g.take i ++ [g.getD i 0] = ls 1 ++ g.take (i + 1)
    rw [hs, List.append_assoc]
  · show ls 2 ++ List.replicate i ver ++ [ver] = ls 2 ++ List.replicate (i + 1) ver
    rw [List.append_assoc, List.replicate_succ']
  · rfl
theorem erases {M : List Int} (hM : M.Nodup) (g : List Int) : (g.foldl List.erase M).Nodup ∧ ∀ x, x ∈ g.foldl List.erase M ↔ x ∈ M ∧ x ∉ g := by
  induction g generalizing M with
  | nil => exact ⟨hM, fun x => by simp⟩
  | cons y g ih =>
    obtain ⟨h1, h2⟩ := ih (M := M.erase y) (hM.erase y)
    refine ⟨h1, fun x => ?_⟩
    rw [List.foldl_cons, h2, hM.mem_erase_iff, List.mem_cons, not_or]
    constructor
    · rintro ⟨⟨a, b⟩, c⟩; exact ⟨b, a, c⟩
    · rintro ⟨a, b, c⟩; exact ⟨⟨b, a⟩, c⟩
theorem zip_rep (g : List Int) (v : Int) (x : Int × Int) : x ∈ g.zip (List.replicate g.length v) ↔ x.1 ∈ g ∧ x.2 = v := by
  induction g with
  | nil => simp
  | cons y g ih =>
    rw [List.length_cons, List.replicate_succ, List.zip_cons_cons, List.mem_cons, ih, List.mem_cons]
    obtain ⟨a, b⟩ := x
    simp only [Prod.mk.injEq]
    constructor
    · rintro (⟨h1, h2⟩ | ⟨h1, h2⟩)
      · exact ⟨.inl h1, h2⟩
      · exact ⟨.inr h1, h2⟩
    · rintro ⟨h1 | h1, h2⟩
      · exact .inl ⟨h1, h2⟩
      · exact .inr ⟨h1, h2⟩
theorem Lt.commit {p : Po} {ls ls' : Fin 4 → List Int} (h : Lt p ls) {d : Int} {g : List Int} (ver : Int) (k : Lp p ls (tkn p (cmN p d g)) (cmN p d g) ls') (hg : ∀ x ∈ g, x ∈ ls 0) (hr : RisZ g) (hf : 0 ≤ lsP p d g) (hm : d ≤ rm p - lsP p d g) : Lt (cmP p d g ver) (gnL ls' g ver g.length) := by
  generalize hN : cmN p d g = N at k
  have hT := ris_nodup (h.tris N)
  have hlen : (tkn p N).take N = tkn p N := List.take_of_length_le (by rw [tkn_len]; exact Nat.le_refl _)
  have hk0 := k.m
  have hkm := k.mem
  rw [hlen] at hk0 hkm
  have hTm : ∀ x, x ∈ tkn p N ↔ x ∈ (us p).take N ∨ ∃ i : Nat, i < N - (us p).length ∧ x = p.c + i := fun x => by
    unfold tkn
    rw [List.mem_append, mem_ups]
  have hus : ∀ x ∈ (us p).take N, 2 ≤ x ∧ x < p.c ∧ hasI p.l x = true := fun x hx => h.usl (List.mem_of_mem_take hx)
  have hMN : (ls' 0).Nodup := by
    rw [hk0, List.nodup_append]
    refine ⟨h.nd, hT, fun a ha b hb e => ?_⟩
    subst e
    have h1 := h.mine a ha
    rcases (hTm a).1 hb with h2 | ⟨i, _, h2⟩
    · have := (hus a h2).2.2
      rw [h1.2.2] at this
      cases this
    · omega
  obtain ⟨e1, e2⟩ := erases hMN g
  have hcl : (cmP p d g ver).l = puts (dels p.l ((us p).take N)) g ver := by unfold cmP; rw [hN]; rfl
  have hcc : (cmP p d g ver).c = p.c + ((N - (us p).length : Nat) : Int) := by unfold cmP; rw [hN]; rfl
  have hmem : ∀ x, x ∈ (cmP p d g ver).l ↔ (x.1 ∈ g ∧ x.2 = ver) ∨ ((x ∈ p.l ∧ x.1 ∉ (us p).take N) ∧ x.1 ∉ g) := fun x => by
    rw [hcl, mem_puts, mem_dels]
  have gt : g.take g.length = g := List.take_length
  have hfl : ∀ x ∈ ls' 1, ∃ v, (x, v) ∈ p.l := fun x hx => by
    obtain ⟨j, hj, ej⟩ := List.mem_iff_getElem.1 hx
    have hj2 : j < (ls' 2).length := by rw [k.len]; exact hj
    refine ⟨(ls' 2)[j], ?_⟩
    have hz : ((ls' 1)[j], (ls' 2)[j]) ∈ (ls' 1).zip (ls' 2) := by
      rw [← List.getElem_zip (h := by rw [List.length_zip]; omega)]
      exact List.getElem_mem _
    rw [ej] at hz
    exact ((hkm _).1 hz).1
  have hno : ∀ x ∈ g, ∀ v, (x, v) ∉ p.l := fun x hx v hv => by
    have h1 := (h.mine x (hg x hx)).2.2
    rw [(hasI_iff _ _).2 ⟨_, hv, rfl⟩] at h1
    cases h1
  refine ⟨ok_commit h.ok ver hf hm, ?_, ?_, fun m hm => ?_, ?_, ?_, fun x => ?_, ?_⟩
  · rw [hcl]; exact (h.ris.dels _).puts _ _
  · show ((g.take g.length).foldl List.erase (ls' 0)).Nodup
    rw [gt]; exact e1
  · have hm2 : m ∈ (g.take g.length).foldl List.erase (ls' 0) := hm
    rw [gt, e2, hk0, List.mem_append, hTm] at hm2
    obtain ⟨h1, h2⟩ := hm2
    have key : hasI (cmP p d g ver).l m = false := by
      cases hh : hasI (cmP p d g ver).l m with
      | false => rfl
      | true =>
        exfalso
        obtain ⟨y, hy, rfl⟩ := (hasI_iff _ _).1 hh
        rcases (hmem y).1 hy with h3 | ⟨⟨h3, h4⟩, _⟩
        · exact h2 h3.1
        · rcases h1 with h1 | h1 | ⟨i, _, h1⟩
          · have := (h.mine _ h1).2.2
            rw [(hasI_iff _ _).2 ⟨y, h3, rfl⟩] at this
            cases this
          · exact h4 h1
          · have := (h.ok.l y h3).2
            omega
    refine ⟨?_, ?_, key⟩
    · rcases h1 with h1 | h1 | ⟨i, _, h1⟩
      · exact (h.mine m h1).1
      · exact (hus m h1).1
      · have := h.ok.c2
        omega
    · rw [hcc]
      rcases h1 with h1 | h1 | ⟨i, _, h1⟩
      · have := (h.mine m h1).2.1
        omega
      · have := (hus m h1).2.1
        omega
      · omega
  · show (ls' 2 ++ List.replicate g.length ver).length = (ls' 1 ++ g.take g.length).length
    have := k.len
    simp; omega
  · show (ls' 1 ++ g.take g.length).Nodup
    rw [gt, List.nodup_append]
    refine ⟨k.nf, ris_nodup hr, fun a ha b hb e => ?_⟩
    subst e
    obtain ⟨v, hv⟩ := hfl a ha
    exact hno a hb v hv
  · show x ∈ (ls' 1 ++ g.take g.length).zip (ls' 2 ++ List.replicate g.length ver) ↔ _
    rw [gt, List.zip_append k.len.symm, List.mem_append, hkm, zip_rep, hmem]
    obtain ⟨x1, x2⟩ := x
    simp only
    constructor
    · rintro (⟨h1, h2⟩ | h1)
      · exact .inr ⟨⟨h1, fun hx => h2 ((hTm _).2 (.inl hx))⟩, fun hx => hno _ hx _ h1⟩
      · exact .inl h1
    · rintro (h1 | ⟨⟨h1, h2⟩, _⟩)
      · exact .inr h1
      · refine .inl ⟨h1, fun hx => ?_⟩
        rcases (hTm _).1 hx with h3 | ⟨i, _, h3⟩
        · exact h2 h3
        · have := (h.ok.l _ h1).2
          simp only at this
          omega
  · have e3 : gnL ls' g ver g.length 3 = ls 3 := k.p3
    rw [e3]
    exact h.pq
theorem Lt.pin {p : Po} {ls : Fin 4 → List Int} (h : Lt p ls) (v : Int) : Lt { p with q := pinQ p.q v } (upd ls 3 (ls 3 ++ [v])) := ⟨⟨h.ok.c2, h.ok.ck, h.ok.k, h.ok.l⟩, h.ris, h.nd, h.mine, h.len, h.nf, h.mem, h.pq.pin v⟩
theorem Lt.unpin {p : Po} {ls : Fin 4 → List Int} (h : Lt p ls) {v : Int} (hv : v ∈ ls 3) : Lt { p with q := unQ p.q v } (upd ls 3 ((ls 3).erase v)) := ⟨⟨h.ok.c2, h.ok.ck, h.ok.k, h.ok.l⟩, h.ris, h.nd, h.mine, h.len, h.nf, h.mem, h.pq.unpin hv⟩
theorem Lt.unno {p : Po} {ls : Fin 4 → List Int} (h : Lt p ls) {v : Int} (hv : v ∉ ls 3) : Lt p (upd ls 3 ((ls 3).erase v)) := ⟨h.ok, h.ris, h.nd, h.mine, h.len, h.nf, h.mem, by rw [upd_same, List.erase_of_not_mem hv]; exact h.pq⟩
/-- How long its lists are. -/
theorem Lt.lens {p : Po} {ls : Fin 4 → List Int} (h : Lt p ls) : (ls 0).length ≤ 524287 ∧ (ls 1).length ≤ 524287 ∧ p.l.length = (ls 1).length := by
  have hk := h.ok.k
  have hck := h.ok.ck
  have key : ∀ l : List Int, l.Nodup → (∀ x ∈ l, 2 ≤ x ∧ x < p.c) → l.length ≤ 524287 := fun l hn hl => by
    have h2 := nodup_le (l := (List.range 524287).map fun (i : Nat) => (i : Int)) hn (fun x hx => by
      have := hl x hx
      exact List.mem_map.2 ⟨x.toNat, List.mem_range.2 (by omega), by omega⟩)
    rw [List.length_map, List.length_range] at h2
    exact h2
  have a1 := nodup_le (l := p.l.map (·.1)) h.nf (fun x hx => by
    obtain ⟨j, hj, ej⟩ := List.mem_iff_getElem.1 hx
    have hj2 : j < (ls 2).length := by rw [h.len]; exact hj
    have hz : ((ls 1)[j], (ls 2)[j]) ∈ (ls 1).zip (ls 2) := by
      rw [← List.getElem_zip (h := by rw [List.length_zip]; omega)]
      exact List.getElem_mem _
    exact List.mem_map.2 ⟨_, (h.mem _).1 hz, ej⟩)
  have a2 := nodup_le (l := ls 1) (ris_nodup h.ris.keys) (fun x hx => by
    obtain ⟨y, hy, rfl⟩ := List.mem_map.1 hx
    exact (List.of_mem_zip ((h.mem y).2 hy)).1)
  rw [List.length_map] at a1 a2
  have hle := h.ok.len h.ris
  exact ⟨key _ h.nd (fun x hx => ⟨(h.mine x hx).1, (h.mine x hx).2.1⟩), by omega, by omega⟩
end Go.Proofs.Ytpoflmcmlnghhaa
