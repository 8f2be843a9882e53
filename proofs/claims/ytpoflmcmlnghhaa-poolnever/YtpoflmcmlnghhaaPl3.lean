import Derived.Test.YtpoflmcmlnghhaaPl2
namespace Go.Proofs.Ytpoflmcmlnghhaa
open Go.RowKit Go.Maps

theorem owns_ints {w : World} {base n : Nat} {v : Value} {zs : List Int} (h : w.ownsRow base 3 1 v n (zs.map (Value.int .i64))) : ∃ ao cap, v = .slice ao n cap ∧ Nt w ao zs ∧ n ≤ cap ∧ cap ≤ 9223372036854775807 ∧ (ao = none → n = 0 ∧ cap = 0) ∧ (∀ ad, ao = some ad → base ≤ ad.block) := by
  have hl := h.1
  rw [List.length_map, Nat.mul_one] at hl
  rcases h.2 with ⟨rfl, rfl⟩ | ⟨g, cap, cur, rfl, hb, hc, h1, h2, h3, h4⟩
  · have : zs = [] := List.length_eq_zero_iff.1 hl
    subst this
    exact ⟨none, 0, rfl, Nt.zero _ _, Nat.le_refl _, by omega, fun _ => ⟨rfl, rfl⟩, (fun ad e => by cases e)⟩
  · refine ⟨_, cap, rfl, ⟨fun i hi => ⟨g, 0, rfl, ?_⟩⟩, h1, (by unfold maxLen at h2; omega), (fun e => by cases e), (fun ad e => by cases e; exact hb)⟩
    have := h.cellAt i (by omega)
    rw [Nat.zero_add, this]
    simp [List.getD, List.getElem?_eq_getElem hi]

/-- What holds of every pool. -/
structure Ok (p : Po) : Prop where
  c2 : 2 ≤ p.c
  ck : p.c ≤ p.k
  k : p.k ≤ 524287
  l : ∀ x ∈ p.l, 2 ≤ x.1 ∧ x.1 < p.c
theorem Ok.len {p : Po} (h : Ok p) (hr : Ris p.l) : p.l.length ≤ 524287 := by
  have h1 : (p.l.map (·.1)).Nodup := hr.keys.imp fun {a b} hab => by omega
  have h2 := nodup_le (l := (List.range 524287).map fun (i : Nat) => (i : Int)) h1 (fun x hx => by
    obtain ⟨y, hy, rfl⟩ := List.mem_map.1 hx
    have := h.l y hy
    have h3 := h.ck
    have h4 := h.k
    simp only [List.mem_map, List.mem_range]
    exact ⟨y.1.toNat, by omega, by omega⟩)
  simpa using h2

/-- How many numbers could be given out. -/
def rm (p : Po) : Int := (us p).length + p.k - p.c

set_option maxHeartbeats 1000000 in
set_option maxRecDepth 100000 in
theorem room_any {w : World} {B s q : Nat} {p : Po} (h : Pl w B s q p) (ok : Ok p) :
    Calls Try.prog 19 #[.pointer (some ⟨B, 0, none⟩)] w fun e w' => e = .returned (.int .i64 (rm p)) ∧ w.grownBy w' none := by
  have hl := ok.len h.ms.ris
  have hul := us_len p
  have k0 := ok.c2
  have k1 := ok.ck
  have k2 := ok.k
  have c0 := h.c0
  have c1 := h.c1
  have HC := hid_intro (fun (W : World) (hW : w.grownBy W none) => usable_any (h.keptN hW) (by omega))
  have HR : Hid (rm p = ((us p).length : Int) + p.k - p.c) := rfl
  clear h ok
  obtain ⟨n, hn⟩ : ∃ n, n = (us p).length := ⟨_, rfl⟩
  obtain ⟨k, hk⟩ : ∃ k, k = p.k := ⟨_, rfl⟩
  obtain ⟨c, hc⟩ : ∃ c, c = p.c := ⟨_, rfl⟩
  rw [← hk] at c1 k1 k2 HR
  rw [← hc] at c0 k0 k1 HR
  rw [← hn] at hul HR
  have HN := hid_intro hn
  clear hn hk hc
  have e1 : IntKind.i64.wrap ((n : Int) + k) = (n : Int) + k := by simp [IntKind.wrap, IntKind.signed, IntKind.bits]; omega
  have e2 : IntKind.i64.wrap ((n : Int) + k - c) = (n : Int) + k - c := by simp [IntKind.wrap, IntKind.signed, IntKind.bits]; omega
  go_enter Try.func19, Try.ntmps19
  go_wp2_with fail
  go_region_held3 (fun w' => w'.cell? ⟨B, 1, none⟩ = some (.int .i64 k) ∧ w'.cell? ⟨B, 0, none⟩ = some (.int .i64 c)) (first | exact ⟨c1, c0⟩ | exact T2.out | go_keep)
    (first | (go_at_call 14; refine (HC.out w.drew ((Qt.refl w).drew.grown none)).mono ?_; rintro en w2 ⟨v, rfl, ho, hg⟩; have T2 := hid_intro (show w2.cell? ⟨B, 1, none⟩ = some (.int .i64 k) ∧ w2.cell? ⟨B, 0, none⟩ = some (.int .i64 c) from ⟨hg.cell (show w.drew.cell? _ = _ from c1) (by simp), hg.cell (show w.drew.cell? _ = _ from c0) (by simp)⟩); rw [← HN.out] at ho; obtain ⟨ao, cap, rfl, _⟩ := owns_ints ho; have HG := hid_intro (grown_trans ((Qt.refl w).drew.grown none) hg); clear ho hg))
  all_goals
    go_wp2
    go_ret
    exact ⟨by rw [HR.out]; rfl, HG.out⟩
end Go.Proofs.Ytpoflmcmlnghhaa
