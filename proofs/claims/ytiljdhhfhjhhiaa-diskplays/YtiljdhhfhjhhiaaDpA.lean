import Derived.Test.YtiljdhhfhjhhiaaDp9
namespace Go.Proofs.Ytiljdhhfhjhhiaa
open Go.RowKit Go.MuLone

theorem Pp.far {w0 w : World} {P B R : Nat} {F1 F2 : Nat → Prop} {g cap L : Nat} {zs : List Int} {s : Ds} (h : Pp w0 w P B R F1 F2 (.slice (some ⟨g, 0, none⟩) L cap) zs s) {k : Nat} (hk : k < w0.heap.size) : k < w.heap.size ∧ k ≠ P ∧ k ≠ g ∧ ¬ F1 k ∧ ¬ F2 k :=
  ⟨Nat.lt_of_lt_of_le hk h.gr.size, fun e => by have := h.gp; omega, fun e => by have := (h.own.lt g rfl).1; omega, fun e => by have := (h.f1 k e).1; omega, fun e => by have := (h.f2 k e).1; omega⟩

set_option maxHeartbeats 16000000 in
set_option maxRecDepth 8000 in
theorem step12_3 {w0 w : World} {P B R : Nat} {F1 F2 : Nat → Prop} {g cap : Nat} {zs : List Int} {s : Ds} (h : Pp w0 w P B R F1 F2 (.slice (some ⟨g, 0, none⟩) zs.length cap) zs s) (i a x f : Int) (ao : Option Addr) (n c : Nat) (bo : Option Addr) (m e : Nat) (xs : List Int) (hb : Byt w0 ao n c xs) (bt : Bt xs) (hn : n ≤ 10000) (hao : ∀ ad, ao = some ad → 0 < n → ad.block < w0.heap.size) (hd : s.done < 1099511627776) (hl : s.left < 9223372036854775808) : Calls Try.prog 14 #[.pointer (some ⟨P, 0, none⟩), opv 3 i a x f ao n c bo m e] w fun en w' => en = .returned (.bool true) ∧ Pq w0 w' P B R (s.wrt i n xs) := by
  unfold opv
  obtain ⟨wA, hwA⟩ : ∃ wA, wA = w.alloc (.cells #[.int .i64 3, .int .i64 i, .int .i64 a, .int .i64 x, .int .u8 f, .slice ao n c, .slice bo m e] 41) := ⟨_, rfl⟩
  have gA : w.grownBy wA none := by rw [hwA]; exact World.grownBy_alloc _ _ _
  have sA : wA.heap.size = w.heap.size + 1 := by rw [hwA]; simp
  have uA : wA.heap[w.heap.size]? = some (.cells #[.int .i64 3, .int .i64 i, .int .i64 a, .int .i64 x, .int .u8 f, .slice ao n c, .slice bo m e] 41 (0, 0)) := by rw [hwA]; exact heap_alloc_new w _
  have u0 : wA.cell? ⟨w.heap.size, 0, none⟩ = some (.int .i64 3) := cell_of_row wA _ 0 _ _ _ uA
  have u1 : wA.cell? ⟨w.heap.size, 1, none⟩ = some (.int .i64 i) := cell_of_row wA _ 1 _ _ _ uA
  have u5 : wA.cell? ⟨w.heap.size, 5, none⟩ = some (.slice ao n c) := cell_of_row wA _ 5 _ _ _ uA
  have PA := hid_intro (h.keptN gA)
  have HX : Hid (¬ F1 w.heap.size ∧ ¬ F2 w.heap.size ∧ w.heap.size ≠ P ∧ w.heap.size ≠ g) := ⟨fun e => by have := h.dz.low _ e; omega, fun e => by have := h.rz.low _ e; omega, fun e => by have := h.lt; omega, fun e => by have := (h.own.lt g rfl).2; omega⟩
  have HA := hid_intro hwA
  have UA := hid_intro uA
  have SA := hid_intro sA
  have GA := hid_intro gA
  clear hwA gA sA uA h
  go_enter Try.func14, Try.ntmps14
  go_wp2_with fail
  rw [← HA.out]
  refine (write12_any PA.out i ao n c xs (hb.keptN PA.out.gr) bt hn (fun ad e h0 => PA.out.far (hao ad e h0)) hd hl).mono ?_
  rintro en w2 ⟨rfl, ⟨F1', F2', g', cap', zs', hp⟩, _⟩
  have FIN := hid_intro hp
  clear hp
  go_wp2
  go_ret
  exact ⟨rfl, _, _, _, _, _, FIN.out⟩

set_option maxHeartbeats 16000000 in
set_option maxRecDepth 8000 in
theorem step12_6 {w0 w : World} {P B R : Nat} {F1 F2 : Nat → Prop} {g cap : Nat} {zs : List Int} {s : Ds} (h : Pp w0 w P B R F1 F2 (.slice (some ⟨g, 0, none⟩) zs.length cap) zs s) (i a x f : Int) (ao : Option Addr) (n c : Nat) (bo : Option Addr) (m e : Nat) (fs : List (Int × Int)) (hF : Fl w0 bo fs) (hfl : fs.length = m) (hm : m ≤ 8796093021952) (hbo : ∀ b off, bo = some ⟨b, off, none⟩ → 0 < m → b < w0.heap.size) (hd : s.done < 1099511627776) : Calls Try.prog 14 #[.pointer (some ⟨P, 0, none⟩), opv 6 i a x f ao n c bo m e] w fun en w' => en = .returned (.bool true) ∧ Pq w0 w' P B R (s.crash fs) := by
  unfold opv
  obtain ⟨wA, hwA⟩ : ∃ wA, wA = w.alloc (.cells #[.int .i64 6, .int .i64 i, .int .i64 a, .int .i64 x, .int .u8 f, .slice ao n c, .slice bo m e] 41) := ⟨_, rfl⟩
  have gA : w.grownBy wA none := by rw [hwA]; exact World.grownBy_alloc _ _ _
  have sA : wA.heap.size = w.heap.size + 1 := by rw [hwA]; simp
  have uA : wA.heap[w.heap.size]? = some (.cells #[.int .i64 6, .int .i64 i, .int .i64 a, .int .i64 x, .int .u8 f, .slice ao n c, .slice bo m e] 41 (0, 0)) := by rw [hwA]; exact heap_alloc_new w _
  have u0 : wA.cell? ⟨w.heap.size, 0, none⟩ = some (.int .i64 6) := cell_of_row wA _ 0 _ _ _ uA
  have u6 : wA.cell? ⟨w.heap.size, 6, none⟩ = some (.slice bo m e) := cell_of_row wA _ 6 _ _ _ uA
  have PA := hid_intro (h.keptN gA)
  have HX : Hid (¬ F1 w.heap.size ∧ ¬ F2 w.heap.size ∧ w.heap.size ≠ P ∧ w.heap.size ≠ g) := ⟨fun e => by have := h.dz.low _ e; omega, fun e => by have := h.rz.low _ e; omega, fun e => by have := h.lt; omega, fun e => by have := (h.own.lt g rfl).2; omega⟩
  have HA := hid_intro hwA
  have UA := hid_intro uA
  have SA := hid_intro sA
  have GA := hid_intro gA
  clear hwA gA sA uA h
  go_enter Try.func14, Try.ntmps14
  go_wp2_with fail
  rw [← HA.out]
  refine (crash12_any PA.out bo m e fs (hF.keptN PA.out.gr) hfl hm hbo hd).mono ?_
  rintro en w2 ⟨rfl, F1', F2', hp⟩
  have FIN := hid_intro hp
  clear hp
  go_wp2
  go_ret
  exact ⟨rfl, _, _, _, _, _, FIN.out⟩

set_option maxHeartbeats 16000000 in
set_option maxRecDepth 8000 in
theorem step12_8 {w0 w : World} {P B R : Nat} {F1 F2 : Nat → Prop} {g cap : Nat} {zs : List Int} {s : Ds} (h : Pp w0 w P B R F1 F2 (.slice (some ⟨g, 0, none⟩) zs.length cap) zs s) (i a x f : Int) (ao : Option Addr) (n c : Nat) (bo : Option Addr) (m e : Nat) (hd : s.done < 1099511627776) : Calls Try.prog 14 #[.pointer (some ⟨P, 0, none⟩), opv 8 i a x f ao n c bo m e] w fun en w' => en = .returned (.bool true) ∧ Pq w0 w' P B R s := by
  unfold opv
  obtain ⟨wA, hwA⟩ : ∃ wA, wA = w.alloc (.cells #[.int .i64 8, .int .i64 i, .int .i64 a, .int .i64 x, .int .u8 f, .slice ao n c, .slice bo m e] 41) := ⟨_, rfl⟩
  have gA : w.grownBy wA none := by rw [hwA]; exact World.grownBy_alloc _ _ _
  have sA : wA.heap.size = w.heap.size + 1 := by rw [hwA]; simp
  have uA : wA.heap[w.heap.size]? = some (.cells #[.int .i64 8, .int .i64 i, .int .i64 a, .int .i64 x, .int .u8 f, .slice ao n c, .slice bo m e] 41 (0, 0)) := by rw [hwA]; exact heap_alloc_new w _
  have u0 : wA.cell? ⟨w.heap.size, 0, none⟩ = some (.int .i64 8) := cell_of_row wA _ 0 _ _ _ uA
  have PA := hid_intro (h.keptN gA)
  have HX : Hid (¬ F1 w.heap.size ∧ ¬ F2 w.heap.size ∧ w.heap.size ≠ P ∧ w.heap.size ≠ g) := ⟨fun e => by have := h.dz.low _ e; omega, fun e => by have := h.rz.low _ e; omega, fun e => by have := h.lt; omega, fun e => by have := (h.own.lt g rfl).2; omega⟩
  have HA := hid_intro hwA
  have UA := hid_intro uA
  have SA := hid_intro sA
  have GA := hid_intro gA
  have c0 := PA.out.c0
  have c1 := PA.out.c1
  have a0 : (w.alloc (.cells #[.int .i64 8, .int .i64 i, .int .i64 a, .int .i64 x, .int .u8 f, .slice ao n c, .slice bo m e] 41)).cell? ⟨P, 0, none⟩ = some (.pointer (some ⟨B, 0, none⟩)) := by rw [← hwA]; exact c0
  have a1 : (w.alloc (.cells #[.int .i64 8, .int .i64 i, .int .i64 a, .int .i64 x, .int .u8 f, .slice ao n c, .slice bo m e] 41)).cell? ⟨P, 1, none⟩ = some (.pointer (some ⟨R, 0, none⟩)) := by rw [← hwA]; exact c1
  clear hwA gA sA uA h
  go_enter Try.func14, Try.ntmps14
  go_wp2_with fail
  rw [← HA.out]
  refine (dz_pending PA.out.dz hd).mono ?_
  rintro en w2 ⟨q, ql, rfl, hwl, hql, hz1, hk1⟩
  have d1 := (PA.out.cP hk1).2
  have FIN := hid_intro (PA.out.ask hz1 hk1)
  obtain ⟨d, hrk, hab⟩ := PA.out.rK hk1
  obtain ⟨vo, vc, hvP, hwc⟩ := hrk.wc
  have r2 : w2.cell? ⟨R, 2, none⟩ = some (.slice vo d.pl.length vc) := by rw [← hvP]; exact hrk.bx.c2
  have hQ : s.Q.length = d.pl.length := by rw [← hab]; simp [Dd.abs]
  have hQ2 : d.pl.length < 1099511627776 := by have h1 := hrk.dm.pc; have h2 : d.done = s.done := (by rw [← hab]; rfl); omega
  have hlen : ql.length = s.Q.length := by rw [← hql]; simp
  have hmap : ql.map ab12 = d.pl.map ab12 := by
    have : ql.map ab12 = s.Q := hql
    rw [this, ← hab]; rfl
  have SW := hid_intro (sameWrites_yes (some ⟨q, 0, none⟩) vo d.pl.length d.pl.length vc ql d.pl w2 hwl.wc hwc (by omega) hmap hQ2)
  rw [hQ]
  clear hwl hql hz1 hk1 hrk hab hwc hmap c0 c1 a0 a1 hvP
  go_wp2_with fail
  refine SW.out.mono ?_
  rintro en w3 ⟨rfl, hg3⟩
  have FI3 := hid_intro (FIN.out.keptN hg3)
  clear hg3
  go_wp2
  go_ret
  exact ⟨rfl, _, _, _, _, _, FI3.out⟩

set_option maxHeartbeats 16000000 in
set_option maxRecDepth 8000 in
theorem step12_9 {w0 w : World} {P B R : Nat} {F1 F2 : Nat → Prop} {g cap : Nat} {zs : List Int} {s : Ds} (h : Pp w0 w P B R F1 F2 (.slice (some ⟨g, 0, none⟩) zs.length cap) zs s) (i a x f : Int) (ao : Option Addr) (n c : Nat) (bo : Option Addr) (m e : Nat)  : Calls Try.prog 14 #[.pointer (some ⟨P, 0, none⟩), opv 9 i a x f ao n c bo m e] w fun en w' => en = .returned (.bool true) ∧ Pq w0 w' P B R s := by
  unfold opv
  obtain ⟨wA, hwA⟩ : ∃ wA, wA = w.alloc (.cells #[.int .i64 9, .int .i64 i, .int .i64 a, .int .i64 x, .int .u8 f, .slice ao n c, .slice bo m e] 41) := ⟨_, rfl⟩
  have gA : w.grownBy wA none := by rw [hwA]; exact World.grownBy_alloc _ _ _
  have sA : wA.heap.size = w.heap.size + 1 := by rw [hwA]; simp
  have uA : wA.heap[w.heap.size]? = some (.cells #[.int .i64 9, .int .i64 i, .int .i64 a, .int .i64 x, .int .u8 f, .slice ao n c, .slice bo m e] 41 (0, 0)) := by rw [hwA]; exact heap_alloc_new w _
  have u0 : wA.cell? ⟨w.heap.size, 0, none⟩ = some (.int .i64 9) := cell_of_row wA _ 0 _ _ _ uA
  have PA := hid_intro (h.keptN gA)
  have HX : Hid (¬ F1 w.heap.size ∧ ¬ F2 w.heap.size ∧ w.heap.size ≠ P ∧ w.heap.size ≠ g) := ⟨fun e => by have := h.dz.low _ e; omega, fun e => by have := h.rz.low _ e; omega, fun e => by have := h.lt; omega, fun e => by have := (h.own.lt g rfl).2; omega⟩
  have HA := hid_intro hwA
  have UA := hid_intro uA
  have SA := hid_intro sA
  have GA := hid_intro gA
  have c0 := PA.out.c0
  have c1 := PA.out.c1
  have a0 : (w.alloc (.cells #[.int .i64 9, .int .i64 i, .int .i64 a, .int .i64 x, .int .u8 f, .slice ao n c, .slice bo m e] 41)).cell? ⟨P, 0, none⟩ = some (.pointer (some ⟨B, 0, none⟩)) := by rw [← hwA]; exact c0
  have a1 : (w.alloc (.cells #[.int .i64 9, .int .i64 i, .int .i64 a, .int .i64 x, .int .u8 f, .slice ao n c, .slice bo m e] 41)).cell? ⟨P, 1, none⟩ = some (.pointer (some ⟨R, 0, none⟩)) := by rw [← hwA]; exact c1
  clear hwA gA sA uA h
  go_enter Try.func14, Try.ntmps14
  go_wp2_with fail
  rw [← HA.out]
  refine (dz_durable PA.out.dz).mono ?_
  rintro en w2 ⟨q, L, C, rfl, rfl, ho, hz1, hk1⟩
  have d1 := (PA.out.cP hk1).2
  have FIN := hid_intro (PA.out.ask hz1 hk1)
  have R2 := hid_intro (PA.out.rK hk1)
  have O2 := hid_intro (Byt.of_owns ho)
  clear ho hz1 hk1 c0 c1 a0 a1
  go_wp2_with fail
  refine (rz_durable R2.out).mono ?_
  rintro en w3 ⟨vo, vc, rfl, hb3, hg3⟩
  have FI3 := hid_intro (FIN.out.keptN hg3)
  have B3 := hid_intro hb3
  have O3 := hid_intro (O2.out.keptN hg3)
  clear hb3 hg3
  go_wp2_with fail
  refine (same_yes _ _ _ _ _ _ s.L.flatten s.L.flatten w3 O3.out B3.out rfl).mono ?_
  rintro en w4 ⟨rfl, rfl⟩
  go_wp2
  go_ret
  exact ⟨rfl, _, _, _, _, _, FI3.out⟩

end Go.Proofs.Ytiljdhhfhjhhiaa
