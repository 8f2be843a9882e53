import Derived.Test.YtpoflmcmlnghhaaRr6
namespace Go.Proofs.Ytpoflmcmlnghhaa
open Go.RowKit Go.Maps

theorem erase_at {ps : List Int} {v : Int} {i : Nat} (hi : i < ps.length) (h : v ∉ ps.take i) (e : ps.getD i 0 = v) : ps.erase v = ps.take i ++ ps.drop (i + 1) := by
  have hg : ps.getD i 0 = ps[i] := by simp [List.getD, List.getElem?_eq_getElem hi]
  rw [hg] at e
  have h1 : ps = ps.take i ++ v :: ps.drop (i + 1) := by
    rw [← e, ← List.drop_eq_getElem_cons hi, List.take_append_drop]
  conv => lhs; rw [h1]
  rw [List.erase_append_right _ h]
  simp
theorem Nt.drop {w : World} {g off : Nat} {xs : List Int} (h : Nt w (some ⟨g, off, none⟩) xs) (k : Nat) : Nt w (some ⟨g, off + k, none⟩) (xs.drop k) := by
  refine ⟨fun i hi => ⟨g, off + k, rfl, ?_⟩⟩
  rw [List.length_drop] at hi
  have := h.at (k + i) (by omega)
  rw [Nat.add_assoc, this]
  simp [List.getD]
theorem Nt.take {w : World} {a : Option Addr} {xs : List Int} (h : Nt w a xs) (k : Nat) : Nt w a (xs.take k) := by
  refine ⟨fun i hi => ?_⟩
  rw [List.length_take] at hi
  obtain ⟨b, off, h1, h2⟩ := h.row i (by omega)
  exact ⟨b, off, h1, by rw [h2, zget_take (show i < k by omega)]⟩
/-- A list's cells, for an append. -/
theorem Nt.news {w : World} {g off : Nat} {xs : List Int} (h : Nt w (some ⟨g, off, none⟩) xs) : ∀ j u, (xs.map (Value.int .i64))[j]? = some u → w.cell? ((⟨g, off, none⟩ : Addr).add j) = some u := by
  intro j u hu
  have hj : j < xs.length := by have := (List.getElem?_eq_some_iff.1 hu).1; simpa using this
  rw [Addr.add_lit, h.at j hj]
  rw [← hu]
  simp [List.getD, List.getElem?_eq_getElem hj]

theorem owns_shape7 {w : World} {base n : Nat} {v : Value} {xs : List Value} (h : w.ownsRow base 3 1 v n xs) : ∃ a m c, v = .slice a m c := by
  rcases h.2 with ⟨e, _⟩ | ⟨g, cap, cur, e, _⟩
  · exact ⟨_, _, _, e⟩
  · exact ⟨_, _, _, e⟩
set_option maxHeartbeats 4000000 in
set_option maxRecDepth 100000 in
theorem runpin_any {w : World} {F : Nat → Prop} {R : Nat} {r : Ro} (v : Int) (h : Rz w F R r) (hs : r.ps.length ≤ 2000000) :
    Calls Try.prog 33 #[.pointer (some ⟨R, 0, none⟩), .int .i64 v] w fun en w' => (v ∉ r.ps ∧ en = .returned (.bool false) ∧ w' = w) ∨ (v ∈ r.ps ∧ en = .returned (.bool true) ∧ Rz w' (Nf F w w') R { r with ps := r.ps.erase v } ∧ Fr w w' F) := by
  obtain ⟨i1, hi1, hy0, hy1, hy2⟩ := info_parts info_int
  obtain ⟨vL, vP, h⟩ := h
  have c3 := h.c3
  have HR := hid_intro h
  have hadd := own_addr h.pr
  obtain ⟨bo, bc, rfl, hnt, hbc, hbc2, -, -⟩ := owns_ints h.pr
  have HN := hid_intro hnt
  obtain ⟨n, hn⟩ : ∃ n, n = r.ps.length := ⟨_, rfl⟩
  have HNE := hid_intro hn
  have HO := hid_intro h.pr
  rw [← hn] at hs hbc c3 HO
  clear h hnt hn
  go_enter Try.func33, Try.ntmps33
  go_wp2
  go_loopw [5, 6] (fun si _ wr => ∃ i : Nat, i ≤ n ∧ si = .int .i64 i ∧ v ∉ r.ps.take i ∧ wr = w) (fun si _ _ => n - (zOf si).toNat)
  case atStart => exact ⟨0, Nat.zero_le _, rfl, by simp, rfl⟩
  case round =>
    obtain ⟨i, hi, rfl, ha, rfl⟩ := hrel
    have HA := hid_intro ha
    clear ha
    by_cases hlt : i < n
    · have hil : i < r.ps.length := by rw [← HNE.out]; exact hlt
      obtain ⟨g0, off, rfl, q0⟩ := HN.out.row i hil
      have hoff : off = 0 := by
        rcases HO.out.2 with ⟨e, _⟩ | ⟨g', cp', cur', e, _⟩
        · cases e
        · injection e with e1 _ _
          injection e1 with e1
          injection e1
      subst hoff
      rw [Nat.zero_add] at q0
      have HM := hid_intro (nget_mem hil)
      have HT := hid_intro (take_snoc hil)
      have HER := hid_intro (fun e => erase_at (v := v) hil HA.out e)
      have HL0 := hid_intro hil
      clear hil
      generalize r.ps.getD i 0 = y at *
      by_cases he : y = v
      · have h2 : (y == v) = true := by simp [he]
        have HE := hid_intro (HER.out he)
        have HV : Hid (v ∈ r.ps) := by show v ∈ r.ps; rw [← he]; exact HM.out
        clear he HER HM HT
        have HV0 := hid_intro HV.out
        have HBx : Hid (Rb wr R r.c r.k vL (.slice (some ⟨g0, 0, none⟩) n bc)) := by
          have := HR.out.bx
          rw [← HNE.out] at this
          exact this
        clear HV
        have tok1 : True := trivial
        by_cases hcap : bc = i + 1
        · have hn1 : n = i + 1 := by omega
          subst hcap hn1
          go_wp2_with (first
            | (at_builtin; have _t := tok1; refine wpList_append_own _ rfl _ _ 22 rfl wr.heap.size 3 i1 (.int .i64 0) 1 8 Try.underlying22 hi1 hy0 hy1 hy2 rfl (by decide) (.slice none 0 0) 0 [] rfl (own_nil _ _ _ _) ⟨g0, 0, none⟩ i (i + 1) ((r.ps.take i).map (Value.int .i64)) rfl (by have := HL0.out; simp; omega) (HN.out.take i).news (ints_oneCell _ _) (by unfold maxLen; omega) (by omega) (Nat.le_refl _) ?_; intro v6 w6 ho6 hg6 _; rw [Nat.zero_add, List.nil_append] at ho6; have HO6 := hid_intro ho6; have HG6 : Hid (wr.grownBy w6 none) := hg6; have c36 := HG6.out.cell c3 (by simp); clear ho6 hg6 tok1)
            | (at_builtin; refine wpList_append_own _ rfl _ _ 22 rfl wr.heap.size 3 i1 (.int .i64 0) 1 8 Try.underlying22 hi1 hy0 hy1 hy2 rfl (by decide) v6 i ((r.ps.take i).map (Value.int .i64)) rfl HO6.out ⟨g0, 0, none⟩ 0 _ [] rfl rfl (fun j u hu => by simp at hu) (fun u hu => by simp at hu) (by unfold maxLen; omega) (by omega) HG6.out.size ?_; intro v7 w7 ho7 hg7 _; have HV := hid_intro (owns_shape7 ho7); have HG7 := hid_intro (HG6.out.andThen hg7 (fun j e => .inl (own_lt HO6.out e).1)); have HO7 := hid_intro ho7; clear ho7 hg7; obtain ⟨va, vn, vc, rfl⟩ := HV.out; have hb7 : Rb w7 R r.c r.k vL (.slice (some ⟨g0, 0, none⟩) (i + 1) (i + 1)) := (HBx.out.keptN HG7.out); have c37 := hb7.c3; have f37 := hb7.fz 3; have HB7 := hid_intro hb7; clear hb7))
          have ho8 : w7.ownsRow 0 3 1 (.slice va vn vc) (r.ps.erase v).length ((r.ps.erase v).map (Value.int .i64)) := by
            have e0 : r.ps.drop (i + 1) = [] := List.drop_of_length_le (by have := HNE.out; omega)
            have e1 : (r.ps.take i).length = i := by
              have := HNE.out
              simp
              omega
            rw [HE.out, e0, List.append_nil, e1]
            have := own_base HO7.out (Nat.zero_le _)
            rw [List.append_nil, Nat.add_zero] at this
            exact this
          have hnew : ∀ g, (Value.slice va vn vc).ownBlock = some g → F g ∨ wr.heap.size ≤ g := fun g e => .inr (own_lt HO7.out e).1
          have HZ := hid_intro (show Rz (w7.setCell ⟨R, 3, none⟩ (.slice va vn vc)) (Nf F wr (w7.setCell ⟨R, 3, none⟩ (.slice va vn vc))) R { r with ps := r.ps.erase v } from ⟨vL, _, HR.out.setP HG7.out.size (by rw [← HNE.out]; exact HB7.out) (own_kept5 HR.out.lr HG7.out) ho8 hnew⟩)
          have HF8 := hid_intro ((Fr.ofN (F := F) HG7.out).trans (Fr.of (grown_cellP w7 R 3 (.slice va vn vc)) (fun j e => .inr (by rw [← Option.some.inj e]; exact HR.out.fR))))
          clear ho8 hnew
          go_wp2
          go_ret
          exact .inr ⟨HV0.out, rfl, HZ.out, HF8.out⟩
        · go_wp2_with (first
            | (at_builtin; have _t := tok1; refine wpList_append_own _ rfl _ _ 22 rfl wr.heap.size 3 i1 (.int .i64 0) 1 8 Try.underlying22 hi1 hy0 hy1 hy2 rfl (by decide) (.slice none 0 0) 0 [] rfl (own_nil _ _ _ _) ⟨g0, 0, none⟩ i bc ((r.ps.take i).map (Value.int .i64)) rfl (by have := HL0.out; simp; omega) (HN.out.take i).news (ints_oneCell _ _) (by unfold maxLen; omega) (by omega) (Nat.le_refl _) ?_; intro v6 w6 ho6 hg6 _; rw [Nat.zero_add, List.nil_append] at ho6; have HO6 := hid_intro ho6; have HG6 : Hid (wr.grownBy w6 none) := hg6; have c36 := HG6.out.cell c3 (by simp); clear ho6 hg6 tok1)
            | (at_builtin; refine wpList_append_own _ rfl _ _ 22 rfl wr.heap.size 3 i1 (.int .i64 0) 1 8 Try.underlying22 hi1 hy0 hy1 hy2 rfl (by decide) v6 i ((r.ps.take i).map (Value.int .i64)) rfl HO6.out ⟨g0, i + 1, none⟩ (n - (i + 1)) _ ((r.ps.drop (i + 1)).map (Value.int .i64)) rfl (by have := HNE.out; simp; omega) (by have hd := (HN.out.keptN HG6.out).drop (i + 1); rw [Nat.zero_add] at hd; exact hd.news) (ints_oneCell _ _) (by unfold maxLen; omega) (by omega) HG6.out.size ?_; intro v7 w7 ho7 hg7 _; have HV := hid_intro (owns_shape7 ho7); have HG7 := hid_intro (HG6.out.andThen hg7 (fun j e => .inl (own_lt HO6.out e).1)); have HO7 := hid_intro ho7; clear ho7 hg7; obtain ⟨va, vn, vc, rfl⟩ := HV.out; have hb7 : Rb w7 R r.c r.k vL (.slice (some ⟨g0, 0, none⟩) n bc) := (HBx.out.keptN HG7.out); have c37 := hb7.c3; have f37 := hb7.fz 3; have HB7 := hid_intro hb7; clear hb7))
          have ho8 : w7.ownsRow 0 3 1 (.slice va vn vc) (r.ps.erase v).length ((r.ps.erase v).map (Value.int .i64)) := by
            have e1 : (r.ps.take i ++ r.ps.drop (i + 1)).length = i + (n - (i + 1)) := by
              have := HNE.out
              have := HL0.out
              simp
              omega
            rw [HE.out, e1, List.map_append]
            exact own_base HO7.out (Nat.zero_le _)
          have hnew : ∀ g, (Value.slice va vn vc).ownBlock = some g → F g ∨ wr.heap.size ≤ g := fun g e => .inr (own_lt HO7.out e).1
          have HZ := hid_intro (show Rz (w7.setCell ⟨R, 3, none⟩ (.slice va vn vc)) (Nf F wr (w7.setCell ⟨R, 3, none⟩ (.slice va vn vc))) R { r with ps := r.ps.erase v } from ⟨vL, _, HR.out.setP HG7.out.size (by rw [← HNE.out]; exact HB7.out) (own_kept5 HR.out.lr HG7.out) ho8 hnew⟩)
          have HF8 := hid_intro ((Fr.ofN (F := F) HG7.out).trans (Fr.of (grown_cellP w7 R 3 (.slice va vn vc)) (fun j e => .inr (by rw [← Option.some.inj e]; exact HR.out.fR))))
          clear ho8 hnew
          go_wp2
          go_ret
          exact .inr ⟨HV0.out, rfl, HZ.out, HF8.out⟩
      · have h2 : (y == v) = false := by simp [he]
        have HX : Hid (v ∉ r.ps.take (i + 1)) := by
          show _ ∉ _
          rw [HT.out]
          simp only [List.mem_append, List.mem_singleton, not_or]
          exact ⟨HA.out, fun e => he e.symm⟩
        clear he
        go_wp2
        go_roundw
        case rel => exact ⟨i + 1, by omega, by go_num, HX.out, by trivial⟩
        case measure => simp [zOf]; omega
    · have hin : i = n := by omega
      subst hin
      have HX : Hid (v ∉ r.ps) := by
        have := HA.out
        rw [HNE.out, List.take_length] at this
        exact this
      go_wp2
      go_ret
      exact .inl ⟨HX.out, rfl, rfl⟩
end Go.Proofs.Ytpoflmcmlnghhaa
