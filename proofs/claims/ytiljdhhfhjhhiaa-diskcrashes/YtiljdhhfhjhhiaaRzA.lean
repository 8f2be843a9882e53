import Derived.Test.YtiljdhhfhjhhiaaRk9
namespace Go.Proofs.Ytiljdhhfhjhhiaa
open Go.RowKit Go.MuLone

theorem rz_pages {w : World} {B : Nat} {F : Nat → Prop} {s : Ds} (h : Rz w B F s) (hd : s.done < 1099511627776) : Calls Try.prog 44 #[.pointer (some ⟨B, 0, none⟩)] w fun e w' => e = .returned (.int .i64 s.pages) ∧ w' = w := by
  obtain ⟨d, hk, rfl⟩ := h
  refine (rpages_b hk hd).mono ?_
  rintro e w' ⟨rfl, rfl⟩
  exact ⟨by rw [abs_pages], rfl⟩
theorem rz_arm {w : World} {B : Nat} {F : Nat → Prop} {s : Ds} (h : Rz w B F s) (k : Int) : Calls Try.prog 38 #[.pointer (some ⟨B, 0, none⟩), .int .i64 k] w fun e w' => e = .returned (.int .i64 (s.arm k)) ∧ Rz w' B F (s.armed k) ∧ Kp w w' F := by
  obtain ⟨d, hk, rfl⟩ := h
  refine (rarm_b hk k).mono ?_
  rintro e w' ⟨rfl, h1, h2⟩
  refine ⟨rfl, ⟨_, h1, ?_⟩, Kp.of h2 fun q e => by rw [← Option.some.inj e]; exact hk.fb⟩
  unfold Dd.armed Ds.armed
  split
  · rfl
  · change Dd.abs (if d.off = true then d else _) = if d.off = true then _ else _
    split <;> rfl
theorem rz_write_no {w : World} {B : Nat} {F : Nat → Prop} {s : Ds} (h : Rz w B F s) (hd : s.done < 1099511627776) (i : Int) (ao : Option Addr) (n c : Nat) (hr : s.refuse i n ≠ 0) : Calls Try.prog 53 #[.pointer (some ⟨B, 0, none⟩), .int .i64 i, .slice ao n c] w fun e w' => e = .returned (.int .i64 (s.refuse i n)) ∧ w' = w := by
  obtain ⟨d, hk, rfl⟩ := h
  exact rwrite_no hk hd i ao n c hr
theorem rz_write {w : World} {B : Nat} {F : Nat → Prop} {s : Ds} (h : Rz w B F s) (i : Nat) (ao : Option Addr) (c : Nat) (z : List Int) (hz : Byt w ao 4096 c z) (ha : ∀ ad, ao = some ad → ¬ F ad.block) (bz : Bt z) (hr : s.refuse i 4096 = 0) (hd : s.done < 1099511627776) (hl : s.left < 9223372036854775808) :
    Calls Try.prog 53 #[.pointer (some ⟨B, 0, none⟩), .int .i64 i, .slice ao 4096 c] w fun e w' => e = .returned (.int .i64 s.ans) ∧ Rz w' B (Nf F w w') (s.put i z) ∧ Kp w w' F := by
  obtain ⟨d, hk, rfl⟩ := h
  refine (rwrite_ok hk i ao c z hz ha bz hr hd hl).mono ?_
  rintro e w' ⟨rfl, g, v, h1, h2⟩
  refine ⟨rfl, ⟨_, h1, ?_⟩, h2⟩
  simp [Dd.abs, Ds.put, Dd.spend, Ds.spend]
theorem rz_sync_off {w : World} {B : Nat} {F : Nat → Prop} {s : Ds} (h : Rz w B F s) (ho : s.off = true) : Calls Try.prog 37 #[.pointer (some ⟨B, 0, none⟩)] w fun e w' => e = .returned (.int .i64 123) ∧ w' = w := by
  obtain ⟨d, hk, rfl⟩ := h
  exact rsync_off hk ho
theorem rz_sync_fail {w : World} {B : Nat} {F : Nat → Prop} {s : Ds} (h : Rz w B F s) (ho : s.off = false) (hl : s.left = 1) (hd : s.done < 1099511627776) : Calls Try.prog 37 #[.pointer (some ⟨B, 0, none⟩)] w fun e w' => e = .returned (.int .i64 123) ∧ Rz w' B F s.spend ∧ Kp w w' F := by
  obtain ⟨d, hk, rfl⟩ := h
  refine (rsync_fail hk ho hl hd).mono ?_
  rintro e w' ⟨rfl, h1, h2⟩
  exact ⟨rfl, ⟨_, h1, rfl⟩, Kp.of h2 fun k e => by rw [← Option.some.inj e]; exact hk.fb⟩
theorem rz_sync {w : World} {B : Nat} {F : Nat → Prop} {s : Ds} (h : Rz w B F s) (ho : s.off = false) (hl : s.left ≠ 1) (hd : s.done < 1099511627776) (hl2 : s.left < 9223372036854775808) : Calls Try.prog 37 #[.pointer (some ⟨B, 0, none⟩)] w fun e w' => e = .returned (.int .i64 0) ∧ Rz w' B (Nf F w w') s.sync ∧ Kp w w' F := by
  obtain ⟨d, hk, rfl⟩ := h
  refine (rsync_ok hk ho hl hd hl2).mono ?_
  rintro e w' ⟨rfl, v, bl, h1, h2, h3⟩
  refine ⟨rfl, ⟨_, h1, ?_⟩, h2⟩
  have e2 : landA (d.bl.map (·.2)) d.pl = (d.pl.map fun p => (p.1, p.2.2)).foldl (fun L q => landL L q.1 q.2 4096) (d.bl.map (·.2)) := by
    unfold landA
    rw [List.foldl_map]
  rw [e2] at h3
  simp [Dd.abs, Dd.sync, Ds.sync, Dd.spend, Ds.spend, h3]
theorem rz_crash {w : World} {B : Nat} {F : Nat → Prop} {s : Ds} (h : Rz w B F s) (ao : Option Addr) (fn fc : Nat) (fs : List (Int × Int)) (hF : Fl w ao fs) (hfl : fs.length = fn) (hfz : ∀ b off, ao = some ⟨b, off, none⟩ → 0 < fn → ¬ F b) (hd : s.done < 1099511627776) :
    Calls Try.prog 56 #[.pointer (some ⟨B, 0, none⟩), .slice ao fn fc] w fun e w' => e = .returned (.tuple #[]) ∧ Rz w' B (Nf F w w') (s.crash fs) ∧ Kp w w' F := by
  obtain ⟨d, hk, rfl⟩ := h
  refine (rcrash_b hk ao fn fc fs hF hfl hfz hd).mono ?_
  rintro e w' ⟨rfl, v, bl, h1, h2, h3⟩
  refine ⟨rfl, ⟨_, h1, ?_⟩, h2⟩
  have e2 : landF (d.bl.map (·.2)) (d.pl.zip fs) = ((d.pl.map fun p => (p.1, p.2.2)).zip fs).foldl (fun L q => fateQ L q.1 q.2) (d.bl.map (·.2)) := by
    unfold landF
    rw [List.zip_map_left, List.foldl_map]
    rfl
  rw [e2] at h3
  simp [Dd.abs, Dd.crash, Ds.crash, h3]
theorem rz_read_no {w : World} {B : Nat} {F : Nat → Prop} {s : Ds} (h : Rz w B F s) (hd : s.done < 1099511627776) (i : Int) (hi : i < 0 ∨ s.pages ≤ i) : Calls Try.prog 34 #[.pointer (some ⟨B, 0, none⟩), .int .i64 i] w fun e w' => e = .returned (.tuple #[.slice none 0 0, .int .i64 121]) ∧ w' = w := by
  obtain ⟨d, hk, rfl⟩ := h
  exact rread_no hk hd i (by rw [← abs_pages]; exact hi)
theorem rz_read_off {w : World} {B : Nat} {F : Nat → Prop} {s : Ds} (h : Rz w B F s) (hd : s.done < 1099511627776) (i : Nat) (hi : i < s.pages) (ho : s.off = true) : Calls Try.prog 34 #[.pointer (some ⟨B, 0, none⟩), .int .i64 i] w fun e w' => e = .returned (.tuple #[.slice none 0 0, .int .i64 123]) ∧ w' = w := by
  obtain ⟨d, hk, rfl⟩ := h
  exact rread_off hk hd i (by rw [← abs_pages]; exact hi) ho
theorem rz_read {w : World} {B : Nat} {F : Nat → Prop} {s : Ds} (h : Rz w B F s) (hd : s.done < 1099511627776) (i : Nat) (hi : i < s.pages) (ho : s.off = false) (hr : s.reads < 4611686018427387904) (hgap : s.L.length ≤ i → ∃ q ∈ s.Q, q.1 = i) : Calls Try.prog 34 #[.pointer (some ⟨B, 0, none⟩), .int .i64 i] w fun e w' => ∃ g, e = .returned (.tuple #[.slice (some ⟨g, 0, none⟩) 4096 4096, .int .i64 0]) ∧ Rw w' g (s.page i) ∧ w.heap.size ≤ g ∧ Rz w' B F s.read ∧ Kp w w' F := by
  obtain ⟨d, hk, rfl⟩ := h
  refine (rread_ok hk hd i (by rw [← abs_pages]; exact hi) ho hr ?_).mono ?_
  · intro hb
    obtain ⟨q, hq, e⟩ := hgap (by simpa [Dd.abs] using hb)
    obtain ⟨p, hp, rfl⟩ := List.mem_map.1 hq
    exact ⟨p, hp, e⟩
  · rintro e w' ⟨g, rfl, h1, h2, h3, h4⟩
    exact ⟨g, rfl, h1, h2, ⟨_, h3, rfl⟩, Kp.of h4 fun k e => by rw [← Option.some.inj e]; exact hk.fb⟩
theorem rz_durable {w : World} {B : Nat} {F : Nat → Prop} {s : Ds} (h : Rz w B F s) : Calls Try.prog 43 #[.pointer (some ⟨B, 0, none⟩)] w fun e w' => ∃ ao c, e = .returned (.slice ao (4096 * s.L.length) c) ∧ Byt w' ao (4096 * s.L.length) c s.L.flatten ∧ w.grownBy w' none := by
  obtain ⟨d, hk, rfl⟩ := h
  refine (rdurable_b hk).mono ?_
  rintro e w' ⟨ao, c, rfl, h1, h2⟩
  refine ⟨ao, c, by simp [Dd.abs], ?_, h2⟩
  simpa [Dd.abs, cat] using h1
theorem rz_rot_no {w : World} {B : Nat} {F : Nat → Prop} {s : Ds} (h : Rz w B F s) (i at_ x : Int) (hi : i < 0 ∨ (s.L.length : Int) ≤ i) : Calls Try.prog 41 #[.pointer (some ⟨B, 0, none⟩), .int .i64 i, .int .i64 at_, .int .i64 x] w fun e w' => e = .returned (.int .i64 121) ∧ w' = w := by
  obtain ⟨d, hk, rfl⟩ := h
  exact rrot_no hk i at_ x (by simpa [Dd.abs] using hi)
theorem rz_rot_arg {w : World} {B : Nat} {F : Nat → Prop} {s : Ds} (h : Rz w B F s) (i at_ x : Int) (hi : 0 ≤ i ∧ i < (s.L.length : Int)) (ha : at_ < 0 ∨ 4096 ≤ at_ ∨ x < 1 ∨ 255 < x) : Calls Try.prog 41 #[.pointer (some ⟨B, 0, none⟩), .int .i64 i, .int .i64 at_, .int .i64 x] w fun e w' => e = .returned (.int .i64 124) ∧ w' = w := by
  obtain ⟨d, hk, rfl⟩ := h
  exact rrot_arg hk i at_ x (by simpa [Dd.abs] using hi) ha
theorem rz_rot {w : World} {B : Nat} {F : Nat → Prop} {s : Ds} (h : Rz w B F s) (hd : s.done < 1099511627776) (i k : Nat) (x : Int) (hi : i < s.L.length) (hat : k < 4096) (hx : 1 ≤ x ∧ x ≤ 255) : Calls Try.prog 41 #[.pointer (some ⟨B, 0, none⟩), .int .i64 i, .int .i64 k, .int .i64 x] w fun e w' => e = .returned (.int .i64 0) ∧ Rz w' B (Nf F w w') (s.rot i k x) ∧ Kp w w' F := by
  obtain ⟨d, hk, rfl⟩ := h
  refine (rrot_ok hk hd i k x (by simpa [Dd.abs] using hi) hat hx).mono ?_
  rintro e w' ⟨rfl, bl, pl, h1, h2, h3, h4⟩
  refine ⟨rfl, ⟨_, h1, ?_⟩, h2⟩
  have e2 : pl.map (fun p => (p.1, p.2.2)) = (d.pl.map fun p => (p.1, p.2.2)).map fun q => if q.1 = i then (q.1, rotZ k x q.2) else q := by
    refine Eq.trans h4 ?_
    rw [List.map_map, List.map_map]
    congr 1
    funext p
    simp only [Function.comp, rotP, ab12]
    split <;> rfl
  simp only [Dd.abs, Ds.rot, h3, e2]
end Go.Proofs.Ytiljdhhfhjhhiaa
