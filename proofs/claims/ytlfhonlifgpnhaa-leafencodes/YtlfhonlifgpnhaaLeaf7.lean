import Derived.Test.YtlfhonlifgpnhaaLeaf6
namespace Go.Proofs.Ytlfhonlifgpnhaa
open Go.RowKit

set_option maxHeartbeats 1000000 in
set_option maxRecDepth 100000 in
theorem encode_wrong (a : Option Addr) (n cap : Nat) (L : List It) (w : World) (hl : Il w a L) (hb : Ib L) (hn : L.length = n) (hm : n ≤ 5000) (h : wrong L ≠ 0) :
    Calls Try.prog 21 #[.slice a n cap] w fun en w' => en = .returned (.tuple #[.slice none 0 0, .int .i64 (wrong L)]) ∧ w.grownBy w' none := by
  have HE := hid_intro (fun (W : World) (hW : Il W a L) => errorOf_any a n cap L W hW hb hn hm)
  generalize wrong L = e at *
  have h1 : ¬ e = 0 := h
  go_enter Try.func21, Try.ntmps21
  go_wp2_with fail
  refine (HE.out _ hl).mono ?_
  rintro en w1 ⟨rfl, hg⟩
  have HG := hid_intro hg
  clear hg hl
  go_wp2
  go_ret2
  exact ⟨rfl, HG.out⟩

set_option maxHeartbeats 1000000 in
set_option maxRecDepth 100000 in
theorem encode_big (a : Option Addr) (n cap : Nat) (L : List It) (w : World) (hl : Il w a L) (hb : Ib L) (hn : L.length = n) (hm : n ≤ 5000) (h : wrong L = 0) (hs : 4092 < size L) :
    Calls Try.prog 21 #[.slice a n cap] w fun en w' => en = .returned (.tuple #[.slice none 0 0, .int .i64 42]) ∧ w.grownBy w' none := by
  obtain ⟨_, hws, _, _⟩ := wrong_parts h
  have hk : ∀ x ∈ L, x.key.length ≤ 1000000 := fun x hx => by have := (ws_parts (hws x hx)).2.1; omega
  have HL := hid_intro hl
  go_enter Try.func21, Try.ntmps21
  go_wp2_with fail
  refine (errorOf_any a n cap L _ hl hb hn hm).mono ?_
  rintro en w1 ⟨rfl, hg⟩
  have HG := hid_intro hg
  clear hg hl
  rw [h]
  go_wp2_with fail
  refine (size_any a n cap L _ (HL.out.keptN HG.out) hn hm hk).mono ?_
  rintro en w2 ⟨rfl, hg⟩
  have HG2 := hid_intro (grown_trans HG.out hg)
  clear hg
  generalize size L = s at *
  go_wp2
  go_ret2
  exact ⟨rfl, HG2.out⟩

set_option maxHeartbeats 1000000 in
set_option maxRecDepth 100000 in
theorem encode_ok (a : Option Addr) (n cap : Nat) (L : List It) (w : World) (hl : Il w a L) (hb : Ib L) (hn : L.length = n) (hm : n ≤ 5000) (h : wrong L = 0) (hs : size L ≤ 4092) :
    Calls Try.prog 21 #[.slice a n cap] w fun en w' => ∃ G, en = .returned (.tuple #[.slice (some ⟨G, 0, none⟩) 4092 4092, .int .i64 0]) ∧ Rw w' G (body L) ∧ w.grownBy w' none ∧ w.heap.size ≤ G := by
  obtain ⟨_, hws, _, _⟩ := wrong_parts h
  have hk : ∀ x ∈ L, x.key.length ≤ 1000000 := fun x hx => by have := (ws_parts (hws x hx)).2.1; omega
  have HL := hid_intro hl
  have HO := hid_intro (fun (W : World) (hW : Il W a L) => layOut_any a n cap L W hW hn h hs)
  go_enter Try.func21, Try.ntmps21
  go_wp2_with fail
  refine (errorOf_any a n cap L _ hl hb hn hm).mono ?_
  rintro en w1 ⟨rfl, hg⟩
  have HG := hid_intro hg
  clear hg hl
  rw [h]
  go_wp2_with fail
  refine (size_any a n cap L _ (HL.out.keptN HG.out) hn hm hk).mono ?_
  rintro en w2 ⟨rfl, hg⟩
  have HG2 := hid_intro (grown_trans HG.out hg)
  clear hg
  generalize size L = s at *
  go_wp2_with fail
  refine (HO.out _ (HL.out.keptN HG2.out)).mono ?_
  rintro en w3 ⟨G, rfl, h1, h2, h3⟩
  have H1 := hid_intro h1
  have H2 := hid_intro (grown_trans HG2.out h2)
  have H3 := hid_intro (Nat.le_trans HG2.out.size h3)
  clear h1 h2 h3
  go_wp2
  go_ret2
  exact ⟨G, rfl, H1.out, H2.out, H3.out⟩

/-- What Encode answers. -/
def enc (L : List It) : List Int × Int := if wrong L = 0 then (if size L ≤ 4092 then (body L, 0) else ([], 42)) else ([], wrong L)

theorem encode_any (a : Option Addr) (n cap : Nat) (L : List It) (w : World) (hl : Il w a L) (hb : Ib L) (hn : L.length = n) (hm : n ≤ 5000) :
    Calls Try.prog 21 #[.slice a n cap] w fun en w' => (∃ ao k c, en = .returned (.tuple #[.slice ao k c, .int .i64 (enc L).2]) ∧ Byt w' ao k c (enc L).1 ∧ k ≤ 4092) ∧ w.grownBy w' none := by
  by_cases h : wrong L = 0
  · by_cases hs : size L ≤ 4092
    · refine (encode_ok a n cap L w hl hb hn hm h hs).mono ?_
      rintro en w' ⟨G, rfl, h1, h2, h3⟩
      have e : enc L = (body L, 0) := by unfold enc; rw [if_pos h, if_pos hs]
      rw [e]
      exact ⟨⟨_, _, _, rfl, h1.all 4092 4092 (body_len h hs).symm, Nat.le_refl _⟩, h2⟩
    · refine (encode_big a n cap L w hl hb hn hm h (by omega)).mono ?_
      rintro en w' ⟨rfl, h2⟩
      have e : enc L = ([], 42) := by unfold enc; rw [if_pos h, if_neg hs]
      rw [e]
      exact ⟨⟨_, _, _, rfl, Byt.empty _, by omega⟩, h2⟩
  · refine (encode_wrong a n cap L w hl hb hn hm h).mono ?_
    rintro en w' ⟨rfl, h2⟩
    have e : enc L = ([], wrong L) := by unfold enc; rw [if_neg h]
    rw [e]
    exact ⟨⟨_, _, _, rfl, Byt.empty _, by omega⟩, h2⟩

theorem lb_bt' (k x : Nat) : Bt (lb k x) := lb_bt k x
theorem vform_bt (x : Nat) : Bt (vform x) := lf_bt 10 x
theorem cb_bt (p : Nat) {x : It} (h : Itb x) : Bt (cb p x) := by
  unfold cb
  refine (vform_bt _).app ((h.key.drop p).app ((vform_bt _).app ?_))
  split
  · exact lb_bt' _ _
  · exact h.val
theorem slots_bt (p : Nat) : ∀ (L : List It) (a : Nat), Bt (slots p a L)
  | [], _ => Bt.nil
  | _ :: L, _ => (lb_bt' _ _).app (slots_bt p L _)
theorem cells_bt (p : Nat) : ∀ {L : List It}, Ib L → Bt (cells p L)
  | [], _ => Bt.nil
  | x :: _, h => (cb_bt p (h x List.mem_cons_self)).app (cells_bt p (fun y hy => h y (List.mem_cons_of_mem _ hy)))
theorem body_bt {L : List It} (h : Ib L) : Bt (body L) := by
  unfold body used headB
  refine Bt.app (Bt.app ((lb_bt' _ _).app ((lb_bt' _ _).app ((vform_bt _).app ?_))) ((slots_bt _ _ _).app (cells_bt _ h))) ?_
  · cases L with
    | nil => exact Bt.take Bt.nil _
    | cons x L => exact (h x List.mem_cons_self).key.take _
  · intro z hz
    obtain ⟨_, rfl⟩ := List.mem_replicate.1 hz
    omega
theorem enc_bt {L : List It} (h : Ib L) : Bt (enc L).1 := by
  unfold enc
  split
  · split
    · exact body_bt h
    · exact Bt.nil
  · exact Bt.nil

set_option maxHeartbeats 400000 in
set_option maxRecDepth 100000 in
theorem equal_yes (ao bo : Option Addr) (n m c d : Nat) (za zb : List Int) (w : World) (ha : Byt w ao n c za) (hb : Byt w bo m d zb) (e : za = zb) :
    Calls Try.prog 40 #[.slice ao n c, .slice bo m d] w fun en w' => en = .returned (.bool true) ∧ w' = w := by
  subst e
  have h1 := conv_str ha
  have h2 := conv_str hb
  clear ha hb
  go_enter Try.func40, Try.ntmps40
  go_wp2
  go_ret
  exact ⟨rfl, rfl⟩

set_option maxHeartbeats 400000 in
set_option maxRecDepth 100000 in
theorem equal_no (ao bo : Option Addr) (n m c d : Nat) (za zb : List Int) (w : World) (ha : Byt w ao n c za) (hb : Byt w bo m d zb) (ba : Bt za) (bb : Bt zb) (e : za ≠ zb) :
    Calls Try.prog 40 #[.slice ao n c, .slice bo m d] w fun en w' => en = .returned (.bool false) ∧ w' = w := by
  have hne : ((strOfNums za).toList == (strOfNums zb).toList) = false := by
    rw [beq_eq_false_iff_ne, ByteArray.toList_eq, ByteArray.toList_eq]
    intro h
    refine e (str_inj ba bb ?_)
    have := Array.toList_inj.1 h
    cases hx : strOfNums za; cases hy : strOfNums zb; simp_all
  have h1 := conv_str ha
  have h2 := conv_str hb
  clear ha hb
  go_enter Try.func40, Try.ntmps40
  go_wp2
  go_ret
  exact ⟨rfl, rfl⟩

end Go.Proofs.Ytlfhonlifgpnhaa
