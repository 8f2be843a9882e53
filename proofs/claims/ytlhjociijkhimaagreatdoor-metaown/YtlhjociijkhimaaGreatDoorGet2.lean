import Derived.Test.YtlhjociijkhimaaGreatDoorGet
namespace Go.Proofs.YtlhjociijkhimaaGreatDoor
open Go.RowKit

set_option maxHeartbeats 1000000 in
theorem get_u8_ok (R G : Nat) (zs : List Int) (p : Nat) (w : World) (h : Rd w R G zs p 0) (hbt : Bt zs) (hp : p + 1 ≤ zs.length) :
    Calls Tryz.prog 18 #[.pointer (some ⟨R, 0, none⟩)] w fun en w' => en = .returned (.int .u8 (le 1 (zs.drop p) : Nat)) ∧ Rd w' R G zs (p + 1) 0 ∧ w.grownBy w' (some R) := by
  have HR : Hid (Rd w R G zs p 0) := h
  clear h
  go_enter Tryz.func18, Tryz.ntmps18
  go_wp2_with fail
  refine (width_u8 _).mono ?_
  rintro en w0 ⟨rfl, rfl⟩
  go_wp2_with fail
  refine (bytes_ok R G zs p 1 _ HR.out hp).mono ?_
  rintro en w1 ⟨ao, rfl, hao, hby, hr, hg⟩
  have hao' := hao (by omega)
  subst hao'
  have HR1 : Hid (Rd w1 R G zs (p + 1) 0) := hr
  have HG1 : Hid (w0.grownBy w1 (some R)) := hg
  have HB : Hid (Bt ((zs.drop p).take 1)) := (hbt.drop p).take 1
  have hlen : ((zs.drop p).take 1).length = 1 := by simp; omega
  obtain ⟨bs, hbs⟩ : ∃ bs, bs = (zs.drop p).take 1 := ⟨_, rfl⟩
  rw [← hbs] at hby hlen HB
  have HF : Hid (le 1 (zs.drop p) = le 1 bs) := by rw [hbs]; exact (le_take 1 _).symm
  have HC : Hid (∀ i, i < 1 → w1.cell? ⟨G, p + i, none⟩ = some (.int .u8 (bs.getD i 0))) := by
    obtain ⟨b', off', e, _, hh⟩ := hby.at (by omega)
    simp at e; obtain ⟨rfl, rfl⟩ := e; exact hh
  have HL : Hid (bs.length = 1) := hlen
  clear hao hby hr hg hlen hbs
  go_wp2
  go_loopw [3, 10] (fun sx si wr => GetRel bs w1 sx si wr) (fun _ si _ => 1 - (intOf si).toNat)
  case atStart => exact ⟨0, 0, Nat.zero_le _, rfl, rfl, rfl, rfl⟩
  case round =>
    obtain ⟨k, a, hk, rfl, rfl, rfl, ha⟩ := hrel
    have hk' : k ≤ 1 := by rw [HL.out] at hk; exact hk
    have HA : Hid (a = le k bs) := ha
    clear hk ha
    by_cases hlt : k < 1
    · obtain ⟨z, hz⟩ : ∃ z, z = bs.getD k 0 := ⟨_, rfl⟩
      have hcell : wr.cell? ⟨G, p + k, none⟩ = some (.int .u8 z) := by rw [hz]; exact HC.out k hlt
      have hzb : 0 ≤ z ∧ z ≤ 255 := by rw [hz]; exact HB.out.getD k
      obtain ⟨hz0, hz1⟩ := hzb
      have HZ : Hid (z = bs.getD k 0) := hz
      clear hz
      go_wp2
      go_roundw
      case rel => exact GetRel.next (by rw [HL.out]; exact hlt) (by rw [HL.out]; omega) HB.out HZ.out HA.out _ rfl _ (by first | rfl | omega)
      case measure => simp [intOf]; omega
    · have hkn : k = 1 := by omega
      subst hkn
      have ham : a < 256 := by rw [HA.out]; exact le_lt 1 bs HB.out
      go_wp2
      go_ret
      rw [HF.out, ← HA.out]
      exact ⟨rfl, HR1.out, HG1.out⟩

set_option maxHeartbeats 400000 in
theorem get_u8_short (R G : Nat) (zs : List Int) (p : Nat) (w : World) (h : Rd w R G zs p 0) (hp : zs.length < p + 1) :
    Calls Tryz.prog 18 #[.pointer (some ⟨R, 0, none⟩)] w fun en w' => en = .returned (.int .u8 0) ∧ Rd w' R G zs p 10 ∧ w.grownBy w' (some R) := by
  have HR : Hid (Rd w R G zs p 0) := h
  clear h
  go_enter Tryz.func18, Tryz.ntmps18
  go_wp2_with fail
  refine (width_u8 _).mono ?_
  rintro en w0 ⟨rfl, rfl⟩
  go_wp2_with fail
  refine (bytes_short R G zs p 1 _ HR.out (by omega)).mono ?_
  rintro en w1 ⟨rfl, hr, hg⟩
  have HR1 : Hid (Rd w1 R G zs p 10) := hr
  have HG1 : Hid (w0.grownBy w1 (some R)) := hg
  clear hr hg
  go_wp2
  refine wp_loop_rounds 1 ?_
  rw [rounds_succ]
  go_wp2
  go_ret
  exact ⟨rfl, HR1.out, HG1.out⟩

set_option maxHeartbeats 400000 in
theorem get_u8_broken (R G : Nat) (zs : List Int) (p : Nat) (e : Int) (w : World) (h : Rd w R G zs p e) (he : (e == 0) = false) :
    Calls Tryz.prog 18 #[.pointer (some ⟨R, 0, none⟩)] w fun en w' => en = .returned (.int .u8 0) ∧ Rd w' R G zs p e ∧ w.grownBy w' (some R) := by
  have HR : Hid (Rd w R G zs p e) := h
  clear h
  go_enter Tryz.func18, Tryz.ntmps18
  go_wp2_with fail
  refine (width_u8 _).mono ?_
  rintro en w0 ⟨rfl, rfl⟩
  go_wp2_with fail
  refine (bytes_broken R G zs p e 1 _ HR.out he).mono ?_
  rintro en w1 ⟨ao, rfl, hr, hg⟩
  have HR1 : Hid (Rd w1 R G zs p e) := hr
  have HG1 : Hid (w0.grownBy w1 (some R)) := hg
  clear hr hg
  go_wp2
  refine wp_loop_rounds 1 ?_
  rw [rounds_succ]
  go_wp2
  go_ret
  exact ⟨rfl, HR1.out, HG1.out⟩

set_option maxHeartbeats 1000000 in
theorem get_u32_ok (R G : Nat) (zs : List Int) (p : Nat) (w : World) (h : Rd w R G zs p 0) (hbt : Bt zs) (hp : p + 4 ≤ zs.length) :
    Calls Tryz.prog 35 #[.pointer (some ⟨R, 0, none⟩)] w fun en w' => en = .returned (.int .u32 (le 4 (zs.drop p) : Nat)) ∧ Rd w' R G zs (p + 4) 0 ∧ w.grownBy w' (some R) := by
  have HR : Hid (Rd w R G zs p 0) := h
  clear h
  go_enter Tryz.func35, Tryz.ntmps35
  go_wp2_with fail
  refine (width_u32 _).mono ?_
  rintro en w0 ⟨rfl, rfl⟩
  go_wp2_with fail
  refine (bytes_ok R G zs p 4 _ HR.out hp).mono ?_
  rintro en w1 ⟨ao, rfl, hao, hby, hr, hg⟩
  have hao' := hao (by omega)
  subst hao'
  have HR1 : Hid (Rd w1 R G zs (p + 4) 0) := hr
  have HG1 : Hid (w0.grownBy w1 (some R)) := hg
  have HB : Hid (Bt ((zs.drop p).take 4)) := (hbt.drop p).take 4
  have hlen : ((zs.drop p).take 4).length = 4 := by simp; omega
  obtain ⟨bs, hbs⟩ : ∃ bs, bs = (zs.drop p).take 4 := ⟨_, rfl⟩
  rw [← hbs] at hby hlen HB
  have HF : Hid (le 4 (zs.drop p) = le 4 bs) := by rw [hbs]; exact (le_take 4 _).symm
  have HC : Hid (∀ i, i < 4 → w1.cell? ⟨G, p + i, none⟩ = some (.int .u8 (bs.getD i 0))) := by
    obtain ⟨b', off', e, _, hh⟩ := hby.at (by omega)
    simp at e; obtain ⟨rfl, rfl⟩ := e; exact hh
  have HL : Hid (bs.length = 4) := hlen
  clear hao hby hr hg hlen hbs
  go_wp2
  go_loopw [3, 10] (fun sx si wr => GetRel bs w1 sx si wr) (fun _ si _ => 4 - (intOf si).toNat)
  case atStart => exact ⟨0, 0, Nat.zero_le _, rfl, rfl, rfl, rfl⟩
  case round =>
    obtain ⟨k, a, hk, rfl, rfl, rfl, ha⟩ := hrel
    have hk' : k ≤ 4 := by rw [HL.out] at hk; exact hk
    have HA : Hid (a = le k bs) := ha
    clear hk ha
    by_cases hlt : k < 4
    · obtain ⟨z, hz⟩ : ∃ z, z = bs.getD k 0 := ⟨_, rfl⟩
      have hcell : wr.cell? ⟨G, p + k, none⟩ = some (.int .u8 z) := by rw [hz]; exact HC.out k hlt
      have hzb : 0 ≤ z ∧ z ≤ 255 := by rw [hz]; exact HB.out.getD k
      obtain ⟨hz0, hz1⟩ := hzb
      have HZ : Hid (z = bs.getD k 0) := hz
      clear hz
      go_wp2
      go_roundw
      case rel => exact GetRel.next (by rw [HL.out]; exact hlt) (by rw [HL.out]; omega) HB.out HZ.out HA.out _ rfl _ (by first | rfl | omega)
      case measure => simp [intOf]; omega
    · have hkn : k = 4 := by omega
      subst hkn
      have ham : a < 4294967296 := by rw [HA.out]; exact le_lt 4 bs HB.out
      go_wp2
      go_ret
      rw [HF.out, ← HA.out]
      exact ⟨rfl, HR1.out, HG1.out⟩

set_option maxHeartbeats 400000 in
theorem get_u32_short (R G : Nat) (zs : List Int) (p : Nat) (w : World) (h : Rd w R G zs p 0) (hp : zs.length < p + 4) :
    Calls Tryz.prog 35 #[.pointer (some ⟨R, 0, none⟩)] w fun en w' => en = .returned (.int .u32 0) ∧ Rd w' R G zs p 10 ∧ w.grownBy w' (some R) := by
  have HR : Hid (Rd w R G zs p 0) := h
  clear h
  go_enter Tryz.func35, Tryz.ntmps35
  go_wp2_with fail
  refine (width_u32 _).mono ?_
  rintro en w0 ⟨rfl, rfl⟩
  go_wp2_with fail
  refine (bytes_short R G zs p 4 _ HR.out (by omega)).mono ?_
  rintro en w1 ⟨rfl, hr, hg⟩
  have HR1 : Hid (Rd w1 R G zs p 10) := hr
  have HG1 : Hid (w0.grownBy w1 (some R)) := hg
  clear hr hg
  go_wp2
  refine wp_loop_rounds 1 ?_
  rw [rounds_succ]
  go_wp2
  go_ret
  exact ⟨rfl, HR1.out, HG1.out⟩

set_option maxHeartbeats 400000 in
theorem get_u32_broken (R G : Nat) (zs : List Int) (p : Nat) (e : Int) (w : World) (h : Rd w R G zs p e) (he : (e == 0) = false) :
    Calls Tryz.prog 35 #[.pointer (some ⟨R, 0, none⟩)] w fun en w' => en = .returned (.int .u32 0) ∧ Rd w' R G zs p e ∧ w.grownBy w' (some R) := by
  have HR : Hid (Rd w R G zs p e) := h
  clear h
  go_enter Tryz.func35, Tryz.ntmps35
  go_wp2_with fail
  refine (width_u32 _).mono ?_
  rintro en w0 ⟨rfl, rfl⟩
  go_wp2_with fail
  refine (bytes_broken R G zs p e 4 _ HR.out he).mono ?_
  rintro en w1 ⟨ao, rfl, hr, hg⟩
  have HR1 : Hid (Rd w1 R G zs p e) := hr
  have HG1 : Hid (w0.grownBy w1 (some R)) := hg
  clear hr hg
  go_wp2
  refine wp_loop_rounds 1 ?_
  rw [rounds_succ]
  go_wp2
  go_ret
  exact ⟨rfl, HR1.out, HG1.out⟩

set_option maxHeartbeats 1000000 in
theorem get_u64_ok (R G : Nat) (zs : List Int) (p : Nat) (w : World) (h : Rd w R G zs p 0) (hbt : Bt zs) (hp : p + 8 ≤ zs.length) :
    Calls Tryz.prog 34 #[.pointer (some ⟨R, 0, none⟩)] w fun en w' => en = .returned (.int .u64 (le 8 (zs.drop p) : Nat)) ∧ Rd w' R G zs (p + 8) 0 ∧ w.grownBy w' (some R) := by
  have HR : Hid (Rd w R G zs p 0) := h
  clear h
  go_enter Tryz.func34, Tryz.ntmps34
  go_wp2_with fail
  refine (width_u64 _).mono ?_
  rintro en w0 ⟨rfl, rfl⟩
  go_wp2_with fail
  refine (bytes_ok R G zs p 8 _ HR.out hp).mono ?_
  rintro en w1 ⟨ao, rfl, hao, hby, hr, hg⟩
  have hao' := hao (by omega)
  subst hao'
  have HR1 : Hid (Rd w1 R G zs (p + 8) 0) := hr
  have HG1 : Hid (w0.grownBy w1 (some R)) := hg
  have HB : Hid (Bt ((zs.drop p).take 8)) := (hbt.drop p).take 8
  have hlen : ((zs.drop p).take 8).length = 8 := by simp; omega
  obtain ⟨bs, hbs⟩ : ∃ bs, bs = (zs.drop p).take 8 := ⟨_, rfl⟩
  rw [← hbs] at hby hlen HB
  have HF : Hid (le 8 (zs.drop p) = le 8 bs) := by rw [hbs]; exact (le_take 8 _).symm
  have HC : Hid (∀ i, i < 8 → w1.cell? ⟨G, p + i, none⟩ = some (.int .u8 (bs.getD i 0))) := by
    obtain ⟨b', off', e, _, hh⟩ := hby.at (by omega)
    simp at e; obtain ⟨rfl, rfl⟩ := e; exact hh
  have HL : Hid (bs.length = 8) := hlen
  clear hao hby hr hg hlen hbs
  go_wp2
  go_loopw [3, 10] (fun sx si wr => GetRel bs w1 sx si wr) (fun _ si _ => 8 - (intOf si).toNat)
  case atStart => exact ⟨0, 0, Nat.zero_le _, rfl, rfl, rfl, rfl⟩
  case round =>
    obtain ⟨k, a, hk, rfl, rfl, rfl, ha⟩ := hrel
    have hk' : k ≤ 8 := by rw [HL.out] at hk; exact hk
    have HA : Hid (a = le k bs) := ha
    clear hk ha
    by_cases hlt : k < 8
    · obtain ⟨z, hz⟩ : ∃ z, z = bs.getD k 0 := ⟨_, rfl⟩
      have hcell : wr.cell? ⟨G, p + k, none⟩ = some (.int .u8 z) := by rw [hz]; exact HC.out k hlt
      have hzb : 0 ≤ z ∧ z ≤ 255 := by rw [hz]; exact HB.out.getD k
      obtain ⟨hz0, hz1⟩ := hzb
      have HZ : Hid (z = bs.getD k 0) := hz
      clear hz
      go_wp2
      go_roundw
      case rel => exact GetRel.next (by rw [HL.out]; exact hlt) (by rw [HL.out]; omega) HB.out HZ.out HA.out _ rfl _ (by first | rfl | omega)
      case measure => simp [intOf]; omega
    · have hkn : k = 8 := by omega
      subst hkn
      have ham : a < 18446744073709551616 := by rw [HA.out]; exact le_lt 8 bs HB.out
      go_wp2
      go_ret
      rw [HF.out, ← HA.out]
      exact ⟨rfl, HR1.out, HG1.out⟩

set_option maxHeartbeats 400000 in
theorem get_u64_short (R G : Nat) (zs : List Int) (p : Nat) (w : World) (h : Rd w R G zs p 0) (hp : zs.length < p + 8) :
    Calls Tryz.prog 34 #[.pointer (some ⟨R, 0, none⟩)] w fun en w' => en = .returned (.int .u64 0) ∧ Rd w' R G zs p 10 ∧ w.grownBy w' (some R) := by
  have HR : Hid (Rd w R G zs p 0) := h
  clear h
  go_enter Tryz.func34, Tryz.ntmps34
  go_wp2_with fail
  refine (width_u64 _).mono ?_
  rintro en w0 ⟨rfl, rfl⟩
  go_wp2_with fail
  refine (bytes_short R G zs p 8 _ HR.out (by omega)).mono ?_
  rintro en w1 ⟨rfl, hr, hg⟩
  have HR1 : Hid (Rd w1 R G zs p 10) := hr
  have HG1 : Hid (w0.grownBy w1 (some R)) := hg
  clear hr hg
  go_wp2
  refine wp_loop_rounds 1 ?_
  rw [rounds_succ]
  go_wp2
  go_ret
  exact ⟨rfl, HR1.out, HG1.out⟩

set_option maxHeartbeats 400000 in
theorem get_u64_broken (R G : Nat) (zs : List Int) (p : Nat) (e : Int) (w : World) (h : Rd w R G zs p e) (he : (e == 0) = false) :
    Calls Tryz.prog 34 #[.pointer (some ⟨R, 0, none⟩)] w fun en w' => en = .returned (.int .u64 0) ∧ Rd w' R G zs p e ∧ w.grownBy w' (some R) := by
  have HR : Hid (Rd w R G zs p e) := h
  clear h
  go_enter Tryz.func34, Tryz.ntmps34
  go_wp2_with fail
  refine (width_u64 _).mono ?_
  rintro en w0 ⟨rfl, rfl⟩
  go_wp2_with fail
  refine (bytes_broken R G zs p e 8 _ HR.out he).mono ?_
  rintro en w1 ⟨ao, rfl, hr, hg⟩
  have HR1 : Hid (Rd w1 R G zs p e) := hr
  have HG1 : Hid (w0.grownBy w1 (some R)) := hg
  clear hr hg
  go_wp2
  refine wp_loop_rounds 1 ?_
  rw [rounds_succ]
  go_wp2
  go_ret
  exact ⟨rfl, HR1.out, HG1.out⟩

end Go.Proofs.YtlhjociijkhimaaGreatDoor
