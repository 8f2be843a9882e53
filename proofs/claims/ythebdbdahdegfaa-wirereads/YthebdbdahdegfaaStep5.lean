import Derived.Test.YthebdbdahdegfaaStep1
namespace Go.Proofs.Ythebdbdahdegfaa
open Go.RowKit

theorem Byt.none_of (w : World) (ao : Option Addr) : Byt w ao 0 0 [] := ⟨rfl, (fun _ => ⟨rfl, rfl⟩), (fun _ _ j u hu => by simp at hu)⟩

/-- A byte that was read already may be written on. -/
theorem Rd.any {w : World} {R G : Nat} {zs : List Int} {p : Nat} {e : Int} (h : Rd w R G zs p e) (i : Nat) (hi : i < zs.length) : ∃ v, w.cell? ⟨G, i, none⟩ = some v ∧ w.frozen? ⟨G, i, none⟩ = false := by
  obtain ⟨cur, hc, hs, _⟩ := h.row
  refine ⟨cur[i]'(by omega), ?_, frozen_of_row w G i _ _ hc⟩
  rw [cell_of_row w G i _ _ _ hc]; simp

theorem Rd.setByte {w : World} {R G : Nat} {zs : List Int} {p : Nat} {e : Int} (h : Rd w R G zs p e) (i : Nat) (v : Value) (hi : i < p) :
    Rd (w.setCell ⟨G, i, none⟩ v) R G zs p e ∧ w.grownBy (w.setCell ⟨G, i, none⟩ v) (some G) := by
  obtain ⟨cur, hc, hs, hr⟩ := h.row
  refine ⟨⟨h.ne, h.le, h.max, ?_, cur.setIfInBounds i v, ?_, by simp [hs], fun j a b => ?_⟩, ⟨rfl, rfl, rfl, by simp, fun k _ hk => heap_setCell_other w ⟨G, i, none⟩ k _ (fun e => hk (by simp [e]))⟩⟩
  · rw [heap_setCell_other w ⟨G, i, none⟩ R _ (by have := h.ne; simp; omega)]; exact h.box
  · rw [heap_setCell_same w G i _ _ _ hc]
  · rw [Array.getElem?_setIfInBounds_ne (by omega)]; exact hr j a b

set_option maxHeartbeats 1000000 in
theorem step5_broken (R G Q H : Nat) (zs : List Int) (p : Nat) (e N : Int) (S : Bool) (w : World) (h : Two w R G Q H zs p e) (he : (e == 0) = false) :
    Calls Try.prog 14 #[.agg #[.int .i64 5, .int .i64 N, .bool S], .pointer (some ⟨R, 0, none⟩), .pointer (some ⟨Q, 0, none⟩)] w fun en w' => en = .returned (.bool true) ∧ Two w' R G Q H zs p e ∧ Fr w w' R G Q H := by
  have HT := hid_intro h
  have hlt := h.a.lt.1
  have hne := h.rq
  clear h
  go_enter Try.func14, Try.ntmps14
  go_wp2_with fail
  refine (bytes_broken R G zs p e N _ (HT.out.al _) he).mono ?_
  rintro en w1 ⟨ao, rfl, hr, hg⟩
  have HG1 := hid_intro (grown_al hg)
  have HR1 := hid_intro hr
  have hbox : w1.cell? ⟨w.heap.size, 1, none⟩ = some (.int .i64 N) := by
    rw [World.cell?_of_block (hg.block w.heap.size (by simp) (by simp; omega))]
    rw [cell_of_row _ w.heap.size 1 _ _ _ (heap_alloc_new _ _)]; rfl
  clear hr hg
  go_wp2_with fail
  refine (rbytes_broken Q H zs p e N _ (HT.out.ref HG1.out) he).mono ?_
  rintro en w2 ⟨rfl, rfl⟩
  have HN := hid_intro (HT.out.next HG1.out HR1.out (Qt.grown (Qt.refl _) _) (HT.out.ref HG1.out))
  clear hbox
  go_wp2_with fail
  refine (same_yes _ _ 0 0 0 0 [] [] _ (Byt.none_of _ _) (Byt.none_of _ _) rfl).mono ?_
  rintro en w3 ⟨rfl, rfl⟩
  go_wp2
  refine wp_loop_rounds 1 ?_
  rw [rounds_succ]
  go_wp2
  go_ret
  exact ⟨rfl, HN.out⟩

set_option maxHeartbeats 1000000 in
theorem step5_neg (R G Q H : Nat) (zs : List Int) (p : Nat) (N : Int) (S : Bool) (w : World) (h : Two w R G Q H zs p 0) (hN : N < 0) :
    Calls Try.prog 14 #[.agg #[.int .i64 5, .int .i64 N, .bool S], .pointer (some ⟨R, 0, none⟩), .pointer (some ⟨Q, 0, none⟩)] w fun en w' => en = .returned (.bool true) ∧ Two w' R G Q H zs p 10 ∧ Fr w w' R G Q H := by
  have HT := hid_intro h
  have hlt := h.a.lt.1
  clear h
  go_enter Try.func14, Try.ntmps14
  go_wp2_with fail
  refine (bytes_neg R G zs p N _ (HT.out.al _) hN).mono ?_
  rintro en w1 ⟨rfl, hr, hg⟩
  have HG1 := hid_intro (grown_al hg)
  have HR1 := hid_intro hr
  have hbox : w1.cell? ⟨w.heap.size, 1, none⟩ = some (.int .i64 N) := by
    rw [World.cell?_of_block (hg.block w.heap.size (by simp) (by simp; omega))]
    rw [cell_of_row _ w.heap.size 1 _ _ _ (heap_alloc_new _ _)]; rfl
  clear hr hg
  go_wp2_with fail
  refine (rbytes_neg Q H zs p N _ (HT.out.ref HG1.out) hN).mono ?_
  rintro en w2 ⟨rfl, hr, hg⟩
  have HN := hid_intro (HT.out.next HG1.out HR1.out hg hr)
  clear hbox hr hg
  go_wp2_with fail
  refine (same_yes _ _ 0 0 0 0 [] [] _ (Byt.none_of _ _) (Byt.none_of _ _) rfl).mono ?_
  rintro en w3 ⟨rfl, rfl⟩
  go_wp2
  refine wp_loop_rounds 1 ?_
  rw [rounds_succ]
  go_wp2
  go_ret
  exact ⟨rfl, HN.out⟩

set_option maxHeartbeats 1000000 in
theorem step5_short (R G Q H : Nat) (zs : List Int) (p : Nat) (N : Int) (S : Bool) (w : World) (h : Two w R G Q H zs p 0) (hN : (zs.length : Int) - p < N) :
    Calls Try.prog 14 #[.agg #[.int .i64 5, .int .i64 N, .bool S], .pointer (some ⟨R, 0, none⟩), .pointer (some ⟨Q, 0, none⟩)] w fun en w' => en = .returned (.bool true) ∧ Two w' R G Q H zs p 10 ∧ Fr w w' R G Q H := by
  have HT := hid_intro h
  have hlt := h.a.lt.1
  clear h
  go_enter Try.func14, Try.ntmps14
  go_wp2_with fail
  refine (bytes_short R G zs p N _ (HT.out.al _) hN).mono ?_
  rintro en w1 ⟨rfl, hr, hg⟩
  have HG1 := hid_intro (grown_al hg)
  have HR1 := hid_intro hr
  have hbox : w1.cell? ⟨w.heap.size, 1, none⟩ = some (.int .i64 N) := by
    rw [World.cell?_of_block (hg.block w.heap.size (by simp) (by simp; omega))]
    rw [cell_of_row _ w.heap.size 1 _ _ _ (heap_alloc_new _ _)]; rfl
  clear hr hg
  go_wp2_with fail
  refine (rbytes_short Q H zs p N _ (HT.out.ref HG1.out) hN).mono ?_
  rintro en w2 ⟨rfl, hr, hg⟩
  have HN := hid_intro (HT.out.next HG1.out HR1.out hg hr)
  clear hbox hr hg
  go_wp2_with fail
  refine (same_yes _ _ 0 0 0 0 [] [] _ (Byt.none_of _ _) (Byt.none_of _ _) rfl).mono ?_
  rintro en w3 ⟨rfl, rfl⟩
  go_wp2
  refine wp_loop_rounds 1 ?_
  rw [rounds_succ]
  go_wp2
  go_ret
  exact ⟨rfl, HN.out⟩

set_option maxHeartbeats 1000000 in
theorem step5_ok (R G Q H : Nat) (zs : List Int) (p m : Nat) (S : Bool) (w : World) (h : Two w R G Q H zs p 0) (hm : p + m ≤ zs.length) :
    Calls Try.prog 14 #[.agg #[.int .i64 5, .int .i64 m, .bool S], .pointer (some ⟨R, 0, none⟩), .pointer (some ⟨Q, 0, none⟩)] w fun en w' => en = .returned (.bool true) ∧ Two w' R G Q H zs (p + m) 0 ∧ Fr w w' R G Q H := by
  have HT := hid_intro h
  have hlt := h.a.lt.1
  have hmax := h.a.max
  clear h
  go_enter Try.func14, Try.ntmps14
  go_wp2_with fail
  refine (bytes_ok R G zs p m _ (HT.out.al _) hm).mono ?_
  rintro en w1 ⟨ao, rfl, hao, hby, hr, hg⟩
  have HG1 := hid_intro (grown_al hg)
  have HR1 := hid_intro hr
  have hbox : w1.cell? ⟨w.heap.size, 1, none⟩ = some (.int .i64 m) := by
    rw [World.cell?_of_block (hg.block w.heap.size (by simp) (by simp; omega))]
    rw [cell_of_row _ w.heap.size 1 _ _ _ (heap_alloc_new _ _)]; rfl
  have HAO := hid_intro hao
  have HBY := hid_intro hby
  clear hr hg hao hby
  go_wp2_with fail
  refine (rbytes_ok Q H zs p m _ (HT.out.ref HG1.out) hm).mono ?_
  rintro en w2 ⟨bo, rfl, hbo, hr, hg⟩
  have HN := hid_intro (HT.out.next HG1.out HR1.out hg hr)
  have HBO := hid_intro hbo
  have HBA : Hid (Byt w2 ao m m ((zs.drop p).take m)) := by
    rcases Nat.eq_zero_or_pos m with h0 | h0
    · subst h0; exact hid_intro (by simpa using Byt.none_of w2 ao)
    · rw [HAO.out h0]
      have h5 := (HR1.out.le)
      have h6 := HBY.out
      rw [HAO.out h0] at h6
      exact h6.kept hg (by have := HT.out.gq; simp; omega)
  clear hbox hr hg hbo
  go_wp2_with fail
  refine (same_yes ao bo m m m m _ _ _ HBA.out HBO.out rfl).mono ?_
  rintro en w3 ⟨rfl, rfl⟩
  rcases Nat.eq_zero_or_pos m with h0 | h0
  · subst h0
    go_wp2
    refine wp_loop_rounds 1 ?_
    rw [rounds_succ]
    go_wp2
    go_ret
    exact ⟨rfl, HN.out⟩
  · have hao := HAO.out h0
    subst hao
    go_wp2
    go_loopw [14] (fun si wr => ∃ k : Nat, k ≤ m ∧ si = .int .i64 k ∧ Rd wr R G zs (p + m) 0 ∧ w3.grownBy wr (some G)) (fun si _ => m - (intOf si).toNat)
    case atStart => exact ⟨0, Nat.zero_le _, rfl, HN.out.1.a, Qt.grown (Qt.refl _) _⟩
    case round =>
      obtain ⟨k, hk, rfl, hrd, hgr⟩ := hrel
      have HRD := hid_intro hrd
      have HGR := hid_intro hgr
      clear hrd hgr
      by_cases hlt : k < m
      · obtain ⟨v, hc, hf⟩ := HRD.out.any (p + k) (by omega)
        go_wp2
        go_roundw
        case rel =>
          obtain ⟨r1, r2⟩ := HRD.out.setByte (p + k) (.int .u8 35) (by omega)
          exact ⟨k + 1, by omega, by go_num, r1, grown_trans HGR.out r2⟩
        case measure => simp [intOf]; omega
      · have hkn : k = m := by omega
        subst hkn
        go_wp2
        go_ret
        have h7 := HN.out.1
        refine ⟨rfl, ⟨HRD.out, h7.b.kept HGR.out (by have := h7.gq; simp; omega) (by have := h7.gh; simp; omega), h7.rq, h7.rh, h7.gq, h7.gh⟩, HN.out.2.trans (Fr.of HGR.out (by simp))⟩
end Go.Proofs.Ythebdbdahdegfaa
