import Derived.Test.YtpoflmcmlnghhaaRr8
namespace Go.Proofs.Ytpoflmcmlnghhaa
open Go.RowKit Go.Maps

theorem tkn_lo {p : Po} {i : Nat} (h : i < (us p).length) : tkn p (i + 1) = tkn p i ++ [(us p).getD i 0] := by
  unfold tkn
  rw [show i + 1 - (us p).length = 0 by omega, show i - (us p).length = 0 by omega, take_snoc h]
  simp [ups]
theorem tkn_hi {p : Po} {i : Nat} (h : ¬ i < (us p).length) : tkn p (i + 1) = tkn p i ++ [p.c + ((i - (us p).length : Nat) : Int)] := by
  unfold tkn
  rw [List.take_of_length_le (show (us p).length ≤ i + 1 by omega), List.take_of_length_le (show (us p).length ≤ i by omega), show i + 1 - (us p).length = (i - (us p).length) + 1 by omega, ups_succ, List.append_assoc]
/-- What stays free. -/
def stay (l : List (Int × Int)) (T : List Int) : List (Int × Int) := l.filter fun x => !decide (x.1 ∈ T)
theorem stay_succ (l : List (Int × Int)) (T : List Int) {i : Nat} (h : i < l.length) : stay (l.take (i + 1)) T = stay (l.take i) T ++ (if (l.getD i (0, 0)).1 ∈ T then [] else [l.getD i (0, 0)]) := by
  have hg : l.getD i (0, 0) = l[i] := by simp [List.getD, List.getElem?_eq_getElem h]
  unfold stay
  rw [List.take_add_one, List.getElem?_eq_getElem h, hg]
  simp only [Option.toList_some, List.filter_append]
  by_cases e : l[i].1 ∈ T
  · rw [if_pos e, List.filter_cons_of_neg (p := fun x : Int × Int => !decide (x.1 ∈ T)) (by simp [e])]
    rfl
  · rw [if_neg e, List.filter_cons_of_pos (p := fun x : Int × Int => !decide (x.1 ∈ T)) (by simp [e])]
    rfl
theorem mem_stay (l : List (Int × Int)) (T : List Int) (x : Int × Int) : x ∈ stay l T ↔ x ∈ l ∧ x.1 ∉ T := by simp [stay]
theorem stay_len (l : List (Int × Int)) (T : List Int) : (stay l T).length ≤ l.length := List.length_filter_le _ _
theorem Ris.stay {l : List (Int × Int)} (h : Ris l) (T : List Int) : Ris (stay l T) := h.sub List.filter_sublist
theorem stay_dels {p : Po} (ok : Ok p) (hr : Ris p.l) (N : Nat) : stay p.l (tkn p N) = dels p.l ((us p).take N) := by
  refine Ris.ext (hr.stay _) (hr.dels _) fun x => ?_
  rw [mem_stay, mem_dels]
  constructor
  · rintro ⟨h1, h2⟩
    exact ⟨h1, fun h3 => h2 (List.mem_append_left _ h3)⟩
  · rintro ⟨h1, h2⟩
    refine ⟨h1, fun h3 => ?_⟩
    rcases List.mem_append.1 h3 with h4 | h4
    · exact h2 h4
    · simp only [ups, List.mem_map, List.mem_range] at h4
      obtain ⟨j, _, hj⟩ := h4
      have := (ok.l x h1).2
      omega
/-- The document's list behind a commit. -/
theorem lay_commit {p : Po} (ok : Ok p) (hr : Ris p.l) {d : Int} {g : List Int} (v : Int) (hm : mayP p g = true) : lay (stay p.l (tkn p (cmN p d g))) g v = (cmP p d g v).l := by
  unfold mayP noF at hm
  rw [Bool.and_eq_true, List.all_eq_true, rp_iff] at hm
  rw [lay_puts v (hr.stay _) hm.2.1 (fun x hx => ?_), stay_dels ok hr]
  · rfl
  · cases e : hasI (stay p.l (tkn p (cmN p d g))) x with
    | false => rfl
    | true =>
      obtain ⟨y, hy, rfl⟩ := (hasI_iff _ _).1 e
      have h1 := hm.1 _ hx
      have h2 : hasI p.l y.1 = true := (hasI_iff _ _).2 ⟨y, ((mem_stay _ _ _).1 hy).1, rfl⟩
      rw [h2] at h1
      cases h1
theorem may_of_ls {p : Po} {d : Int} {g : List Int} (h : 0 ≤ lsP p d g) : 0 ≤ d ∧ mayP p g = true := by
  unfold lsP at h
  split at h
  · omega
  · rename_i hc
    rw [not_or] at hc
    exact ⟨by omega, by cases e : mayP p g; exact absurd e hc.2; rfl⟩

set_option maxHeartbeats 2000000 in
set_option maxRecDepth 100000 in
theorem rcommit_no {w : World} {F : Nat → Prop} {R : Nat} {r : Ro} {p : Po} (h : Rz w F R r) (ag : Ag p r) (ok : Ok p) (hris : Ris p.l) (hps : r.ps.length ≤ 2000000) (d : Int) (a : Option Addr) (n cap : Nat) (g : List Int) (v : Int) (hl : Nt w a g) (hn : g.length = n) (hm : n ≤ 1000000) (hd : -9223372036854775808 ≤ d ∧ d ≤ 9223372036854775807) (E : Int) (hE : (lsP p d g = -1 ∧ E = 171) ∨ (0 ≤ lsP p d g ∧ rm p - lsP p d g < d ∧ E = 170)) :
    Calls Try.prog 35 #[.pointer (some ⟨R, 0, none⟩), .int .i64 d, .slice a n cap, .int .i64 v] w fun e w' => e = .returned (.tuple #[.slice none 0 0, .int .i64 E]) ∧ w.grownBy w' none := by
  have HC := hid_intro (rlists_any h ag ok hris hps d a n cap g hl hn hm hd)
  have hpl := ok.len hris
  have hrl : r.l.length = p.l.length := by rw [ag.l]
  have HRM := hid_intro (fun (W : World) (hW : w.grownBy W none) => rroom_any (h.keptN hW) (by omega) hps (by rw [ag.c]; have := ok.c2; omega) (by rw [ag.c, ag.k]; exact ok.ck) (by rw [ag.k]; have := ok.k; omega))
  rw [ag.rm] at HRM
  have hfr := lsP_range ok hris d g (by omega)
  have hrr : 0 ≤ rm p ∧ rm p ≤ 2000000 := by
    have := us_len p
    have := ok.ck
    have := ok.k
    have := ok.c2
    unfold rm
    omega
  clear h hl ag ok hris
  generalize lsP p d g = f at *
  generalize rm p = rr at *
  rcases hE with ⟨rfl, rfl⟩ | ⟨h1, h2, rfl⟩
  · go_enter Try.func35, Try.ntmps35
    go_wp2_with (first
      | (go_at_call 34; refine HC.out.mono ?_; rintro en w2 ⟨rfl, hg2⟩; have HG2 := hid_intro hg2; clear hg2)
      | (go_at_call 31; refine (HRM.out w2 HG2.out).mono ?_; rintro en w3 ⟨rfl, hg3⟩; have HG3 := hid_intro (grown_trans HG2.out hg3); clear hg3))
    go_ret2
    exact ⟨rfl, HG3.out⟩
  · have hf0 : decide (f < 0) = false := by simp; omega
    by_cases h3 : rr < d
    · have h3d : decide (rr < d) = true := by simp [h3]
      go_enter Try.func35, Try.ntmps35
      go_wp2_with (first
        | (go_at_call 34; refine HC.out.mono ?_; rintro en w2 ⟨rfl, hg2⟩; have HG2 := hid_intro hg2; clear hg2)
        | (go_at_call 31; refine (HRM.out w2 HG2.out).mono ?_; rintro en w3 ⟨rfl, hg3⟩; have HG3 := hid_intro (grown_trans HG2.out hg3); clear hg3))
      go_ret2
      exact ⟨rfl, HG3.out⟩
    · have h3d : decide (rr < d) = false := by simp; omega
      obtain ⟨z, hz⟩ : ∃ z, d + f = z := ⟨_, rfl⟩
      have hz1 : -9000000 ≤ z := by omega
      have hz2 : z ≤ 9000000 := by omega
      have h4d : decide (rr < z) = true := by simp; omega
      go_enter Try.func35, Try.ntmps35
      go_wp2_with (first
        | (go_at_call 34; refine HC.out.mono ?_; rintro en w2 ⟨rfl, hg2⟩; have HG2 := hid_intro hg2; clear hg2)
        | (go_at_call 31; refine (HRM.out w2 HG2.out).mono ?_; rintro en w3 ⟨rfl, hg3⟩; have HG3 := hid_intro (grown_trans HG2.out hg3); clear hg3))
      go_ret2
      exact ⟨rfl, HG3.out⟩
end Go.Proofs.Ytpoflmcmlnghhaa
