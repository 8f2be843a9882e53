import Derived.Test.YtiljdhhfhjhhiaaRk2
import Derived.Deep.RegionLaw
namespace Go.Proofs.Ytiljdhhfhjhhiaa
open Go.RowKit Go.MuLone

theorem row_ne {w : World} {base : Nat} {e : TypeId} {size n : Nat} {v : Value} {xs : List Value} (h : w.ownsRow base e size v n xs) {k : Nat} {cs : Array Value} {t : TypeId} {fz : Nat × Nat} (hk : w.heap[k]? = some (.cells cs t fz)) (ht : t ≠ e) : some k ≠ v.ownBlock := by
  intro hv
  obtain ⟨cur, hg⟩ := row_block h hv.symm
  rw [hk] at hg
  simp only [Option.some.injEq, Obj.cells.injEq] at hg
  exact ht hg.2.1

/-- One write more pends. -/
theorem Rm.push {w w3 : World} {F G : Nat → Prop} {d : Dd} {g i : Nat} {z : List Int} {v' : Value} (h : Rm w F d) (hg : Rw w g z) (hl : z.length = 4096) (bt : Bt z) (hi : i < 524288)
    (h3 : w.grownBy w3 d.vP.ownBlock) (own : w3.ownsRow 0 90 2 v' (d.pl.length + 1) (wcells d.pl ++ [.int .i64 i, pv g])) (loc : v'.ownBlock = d.vP.ownBlock ∨ v'.ownBlock = some w.heap.size)
    (hG : ∀ k, F k → G k) (hGg : G g) (hGs : v'.ownBlock = some w.heap.size → G w.heap.size) (low : ∀ k, G k → k < w3.heap.size) (hpc : d.pl.length + 1 ≤ d.done) :
    Rm w3 G { d with vP := v', pl := d.pl ++ [(i, g, z)] } := by
  have pg : ∀ k y, Pb w F k y → w3.heap[k]? = w.heap[k]? := fun k y hp => h3.block k hp.lt (row_ne h.pr hp.at_ (by decide))
  refine ⟨owns_same h.lr fun k hk => ?_, fun k hk => hG k (h.fl k hk), ?_, fun k hk => ?_, fun x hx => ((h.bp x hx).same (pg _ _ (h.bp x hx))).wide (hG _ (h.bp x hx).mem), fun p hp => ?_, ?_, low⟩
  · obtain ⟨cur, hc⟩ := row_block h.lr hk
    exact h3.block k (Array.getElem?_eq_some_iff.1 hc).1 (row_ne h.pr hc (by decide))
  · rw [List.length_append, wcells_app]
    exact own
  · rcases loc with e | e
    · exact hG k (h.fp k (e ▸ hk))
    · rw [e] at hk
      rw [← Option.some.inj hk]; exact hGs e
  · rcases List.mem_append.1 hp with hp | hp
    · exact ⟨((h.pp p hp).1.same (pg _ _ (h.pp p hp).1)).wide (hG _ (h.pp p hp).1.mem), (h.pp p hp).2⟩
    · simp at hp
      subst hp
      exact ⟨⟨(h3.block g hg.lt (row_ne h.pr hg (by decide))).trans hg, hl, bt, hGg⟩, hi⟩
  · rw [List.length_append]; exact hpc

set_option maxHeartbeats 4000000 in
theorem rwrite_no {w : World} {B : Nat} {F : Nat → Prop} {d : Dd} (hk : Rk w B F d) (hd : d.done < 1099511627776) (i : Int) (ao : Option Addr) (n c : Nat) (hr : d.abs.refuse i n ≠ 0) : Calls Try.prog 53 #[.pointer (some ⟨B, 0, none⟩), .int .i64 i, .slice ao n c] w fun e w' => e = .returned (.int .i64 (d.abs.refuse i n)) ∧ w' = w := by
  have hpg : d.abs.pages = pgs d.bl.length d.pl := abs_pages d
  have c0 := hk.bx.c0
  have c3 := hk.bx.c3
  revert hr
  unfold Ds.refuse
  rw [hpg, show d.abs.cap = d.cap from rfl, show d.abs.off = d.off from rfl]
  intro hr
  have HK := hid_intro hk
  clear hk hpg
  by_cases h1 : i < 0
  · rw [if_pos (.inl h1)]
    go_enter Try.func53, Try.ntmps53
    go_wp2
    go_ret
    exact ⟨rfl, rfl⟩
  by_cases h2 : (pgs d.bl.length d.pl : Int) < i
  · rw [if_pos (.inr h2)]
    go_enter Try.func53, Try.ntmps53
    go_wp2_with fail
    refine (rpages_b HK.out hd).mono ?_
    rintro e w1 ⟨rfl, rfl⟩
    go_wp2
    go_ret
    exact ⟨rfl, rfl⟩
  rw [if_neg (by omega)] at hr ⊢
  have h2' : i ≤ (pgs d.bl.length d.pl : Int) := by omega
  by_cases h3 : (d.cap : Int) ≤ i
  · rw [if_pos h3]
    clear hr
    go_enter Try.func53, Try.ntmps53
    go_wp2_with fail
    refine (rpages_b HK.out hd).mono ?_
    rintro e w1 ⟨rfl, rfl⟩
    go_wp2
    go_ret
    exact ⟨rfl, rfl⟩
  rw [if_neg h3] at hr ⊢
  have h3' : i < (d.cap : Int) := by omega
  by_cases h4 : n ≠ 4096
  · rw [if_pos h4]
    have h4' : ¬ (n : Int) = 4096 := by omega
    clear hr
    go_enter Try.func53, Try.ntmps53
    go_wp2_with fail
    refine (rpages_b HK.out hd).mono ?_
    rintro e w1 ⟨rfl, rfl⟩
    go_wp2
    go_ret
    exact ⟨rfl, rfl⟩
  rw [if_neg h4] at hr ⊢
  obtain rfl : n = 4096 := by omega
  by_cases h5 : d.off = true
  · rw [if_pos h5]
    rw [h5] at c3
    clear hr h4
    go_enter Try.func53, Try.ntmps53
    go_wp2_with fail
    refine (rpages_b HK.out hd).mono ?_
    rintro e w1 ⟨rfl, rfl⟩
    go_wp2
    go_ret
    exact ⟨rfl, rfl⟩
  · rw [if_neg h5] at hr
    exact absurd rfl hr

theorem Rk.push12 {w w2 w3 w4 : World} {B i : Nat} {F : Nat → Prop} {d : Dd} {z : List Int} {v4 : Value} {o : Obj} (hlow : ∀ k, F k → k < w.heap.size) (g2 : w.grownBy w2 (some B)) (K2 : Rk w2 B F d) (G3 : w2.grownBy w3 none) (R3 : Rw w3 w2.heap.size z) (hl : z.length = 4096) (bz : Bt z)
    (G4 : (w3.alloc o).grownBy w4 d.vP.ownBlock) (O4 : w4.ownsRow 0 90 2 v4 (d.pl.length + 1) (wcells d.pl ++ [.int .i64 i, pv w2.heap.size])) (L4 : v4.ownBlock = d.vP.ownBlock ∨ v4.ownBlock = some (w3.alloc o).heap.size) (hpc : d.pl.length + 1 ≤ d.done) (hi : i < 524288) (hle : max (pgs d.bl.length d.pl) (i + 1) ≤ d.cap) :
    Rk (w4.setCell ⟨B, 2, none⟩ v4) B (Nf F w (w4.setCell ⟨B, 2, none⟩ v4)) { d with vP := v4, pl := d.pl ++ [(i, w2.heap.size, z)] } ∧ Kp w (w4.setCell ⟨B, 2, none⟩ v4) F := by
  have gA : w2.grownBy (w3.alloc o) none := grown_trans G3 (World.grownBy_alloc _ _ _)
  have bA := K2.bx.kept gA (by simp)
  have mA := K2.dm.keptN gA
  have hnB := mA.other bA (by decide) (by decide) (by decide)
  have b4 : Rx w4 B d := bA.kept G4 (fun e => hnB (.inr (.inl e.symm)))
  have gs := grown_cell w4 B 2 v4
  have sz : (w4.setCell ⟨B, 2, none⟩ v4).heap.size = w4.heap.size := by simp
  have s2 := g2.size
  have s3 := gA.size
  have s4 := G4.size
  have sr := R3.lt
  have sA : (w3.alloc o).heap.size = w3.heap.size + 1 := by simp
  have rA : Rw (w3.alloc o) w2.heap.size z := R3.keptN (World.grownBy_alloc _ _ _)
  have m4 : Rm w4 (Nf F w w4) { d with vP := v4, pl := d.pl ++ [(i, w2.heap.size, z)] } :=
    mA.push rA hl bz hi G4 O4 L4 (fun k hk => .inl hk) (.inr ⟨s2, by omega⟩) (fun e => .inr ⟨by omega, (O4.lt _ e).2⟩) (fun k hk => hk.elim (fun x => by have := hlow k x; omega) (fun x => x.2)) hpc
  have e : Nf F w (w4.setCell ⟨B, 2, none⟩ v4) = Nf F w w4 := by unfold Nf; rw [sz]
  rw [e]
  refine ⟨⟨b4.set 2 v4 _ rfl, m4.box (d' := d) b4 gs, .inl K2.fb, K2.cap, ?_⟩, ?_⟩
  · show pgs d.bl.length (d.pl ++ [(i, w2.heap.size, z)]) ≤ d.cap
    rw [pgs_snoc]; exact hle
  · refine (Kp.of (F := F) g2 (fun k e => by rw [← Option.some.inj e]; exact K2.fb)).trans ((Kp.of (F := F) gA (fun k e => by cases e)).trans ((Kp.of (F := F) G4 (fun k e => K2.dm.fp k e)).trans (Kp.of (F := F) gs (fun k e => by rw [← Option.some.inj e]; exact K2.fb)) (fun k hk => .inl hk)) (fun k hk => .inl hk)) (fun k hk => .inl hk)

theorem cell_two12 (w : World) (a b : Value) (t : TypeId) : ∀ j u, [a, b][j]? = some u → (w.alloc (.cells #[a, b] t)).cell? ((⟨w.heap.size, 0, none⟩ : Addr).add j) = some u := by
  intro j u hu
  rw [Addr.add_lit, Nat.zero_add, cell_of_row _ w.heap.size j _ _ (0, 0) (heap_alloc_new w _)]
  simpa using hu

set_option maxHeartbeats 8000000 in
set_option maxRecDepth 8000 in
theorem rwrite_ok {w : World} {B : Nat} {F : Nat → Prop} {d : Dd} (hk : Rk w B F d) (i : Nat) (ao : Option Addr) (c : Nat) (z : List Int) (hz : Byt w ao 4096 c z) (ha : ∀ ad, ao = some ad → ¬ F ad.block) (bz : Bt z) (hr : d.abs.refuse i 4096 = 0) (hd : d.done < 1099511627776) (hl : d.left < 9223372036854775808) :
    Calls Try.prog 53 #[.pointer (some ⟨B, 0, none⟩), .int .i64 i, .slice ao 4096 c] w fun e w' => e = .returned (.int .i64 d.abs.ans) ∧ ∃ g v, Rk w' B (Nf F w w') { d.spend with vP := v, pl := d.pl ++ [(i, g, z)] } ∧ Kp w w' F := by
  obtain ⟨i0, hinf, hz0, hz1, hz2⟩ := info_parts info_write
  have hpg : d.abs.pages = pgs d.bl.length d.pl := abs_pages d
  have c0 := hk.bx.c0
  have c3 := hk.bx.c3
  unfold Ds.refuse at hr
  rw [hpg, show d.abs.cap = d.cap from rfl, show d.abs.off = d.off from rfl] at hr
  by_cases h1 : (i : Int) < 0 ∨ (pgs d.bl.length d.pl : Int) < i
  · rw [if_pos h1] at hr; cases hr
  rw [if_neg h1] at hr
  by_cases h2 : (d.cap : Int) ≤ i
  · rw [if_pos h2] at hr; cases hr
  rw [if_neg h2, if_neg (by simp)] at hr
  by_cases ho : d.off = true
  · rw [if_pos ho] at hr; cases hr
  have hoff : d.off = false := by simpa using ho
  rw [hoff] at c3
  have hle := hk.le
  have hcap := hk.cap
  have k2 : (i : Int) ≤ (pgs d.bl.length d.pl : Int) := by omega
  have k3 : (i : Int) < (d.cap : Int) := by omega
  have hpl : d.pl.length < 1099511627776 := Nat.lt_of_le_of_lt hk.dm.pc hd
  have HK := hid_intro hk
  have HZ := hid_intro hz
  have HA := hid_intro ha
  have HBz := hid_intro bz
  clear hk hz hr h1 h2 ho hpg ha bz
  go_enter Try.func53, Try.ntmps53
  go_wp2_with fail
  refine (rpages_b HK.out hd).mono ?_
  rintro e w1 ⟨rfl, rfl⟩
  go_wp2_with fail
  refine (rfails_b HK.out hoff hd hl).mono ?_
  rintro e w2 ⟨rfl, hk2, hg2⟩
  have K2 := hid_intro hk2
  have G2 := hid_intro hg2
  obtain ⟨ap, cp, evP⟩ := owns_slice hk2.dm.pr
  have c2 := hk2.bx.c2
  have f2 := hk2.bx.fz 2
  rw [evP] at c2
  rw [show d.spend.pl.length = d.pl.length from rfl] at c2 evP
  have EP := hid_intro evP
  have Y2 : Hid (∀ W : World, w2.grownBy W none → Byt W ao 4096 c z) := fun W hW => (HZ.out.kept hg2 (fun ad e _ e2 => HA.out ad e (by rw [Option.some.inj e2]; exact HK.out.fb))).keptN hW
  clear hk2 hg2 evP c0 c3
  go_wp2_with fail
  go_region_law ((first
    | (go_simp; go_at_call 11; refine (refBytes_any _ _ _ z _ (by exact Y2.out _ ((Qt.refl _).drew.grown none)) (by omega)).mono ?_; rintro en w3 ⟨rfl, ho3, hg3, hs3⟩; have G3 := hid_intro (grown_trans ((Qt.refl w2).drew.grown none) hg3); have R3 := hid_intro (show Rw w3 w2.heap.size z from Rw.of_owns ho3); have c2b := G3.out.cell c2 (by simp); have c2c := (World.grownBy_alloc w3 (.cells #[.int .i64 i, .slice (some ⟨w2.heap.size, 0, none⟩) 4096 4096] 90) none).cell c2b (by simp); clear ho3 hg3 hs3)
    | (refine step_append_at rfl (.tmp 35) (.tmp 40) 50 (by rfl) 0 90 i0 (.agg #[.int .i64 0, .slice none 0 0]) 2 32 Try.underlying50 hinf hz0 hz1 hz2 rfl (by decide) (.slice ap d.pl.length cp) d.pl.length (wcells d.pl) (by rfl) (by have := K2.out.dm.pr; rw [EP.out] at this; exact this.kept (grown_trans G3.out (World.grownBy_alloc w3 (.cells #[.int .i64 i, .slice (some ⟨w2.heap.size, 0, none⟩) 4096 4096] 90) none)) (Classical.em _)) ⟨w3.heap.size, 0, none⟩ 1 1 [.int .i64 i, pv w2.heap.size] (by rfl) (by rfl) (by exact cell_two12 _ _ _ _) (by intro u hu; simp at hu; rcases hu with rfl | rfl <;> rfl) (by unfold maxLen; omega) (by omega) (Nat.zero_le _) ?_; intro v4 w4 ho4 hg4 loc4; obtain ⟨g4, cap4, cur4, e4, -⟩ := ho4.2.resolve_left (fun e => by have := e.2; omega); subst e4; have b4 := K2.out.bx.kept (grown_trans G3.out (World.grownBy_alloc w3 (.cells #[.int .i64 i, .slice (some ⟨w2.heap.size, 0, none⟩) 4096 4096] 90) none)) (by simp); have hnB := (K2.out.dm.keptN (grown_trans G3.out (World.grownBy_alloc w3 (.cells #[.int .i64 i, .slice (some ⟨w2.heap.size, 0, none⟩) 4096 4096] 90) none))).other b4 (by decide) (by decide) (by decide); have b4' := b4.kept hg4 (fun e => hnB (.inr (.inl (by rw [EP.out]; exact e.symm)))); have c24 := b4'.c2; have f24 := b4'.fz 2; have B4 := hid_intro b4'; have O4 := hid_intro ho4; have G4 := hid_intro hg4; have L4 := hid_intro loc4; clear ho4 hg4 loc4 b4 b4' hnB)))
  all_goals
    have hfin := Rk.push12 (d := d.spend) (i := i) HK.out.dm.low G2.out K2.out G3.out R3.out HZ.out.len HBz.out (by rw [show d.spend.vP = _ from EP.out]; exact G4.out) O4.out (by rw [show d.spend.vP = _ from EP.out]; exact L4.out) (Nat.succ_le_succ HK.out.dm.pc) (by omega) (by show max (pgs d.bl.length d.pl) (i + 1) ≤ d.cap; omega)
    have FIN := hid_intro hfin
    clear hfin
    by_cases hone : d.left = 1
    · have hone' : (d.left == 1) = true := by rw [hone]; rfl
      go_wp2
      go_ret
      exact ⟨by unfold Ds.ans; rw [show d.abs.left = d.left from rfl, if_pos hone]; rfl, _, _, FIN.out⟩
    · have hone' : (d.left == 1) = false := beq_eq_false_iff_ne.2 hone
      go_wp2
      go_ret
      exact ⟨by unfold Ds.ans; rw [show d.abs.left = d.left from rfl, if_neg hone]; rfl, _, _, FIN.out⟩
end Go.Proofs.Ytiljdhhfhjhhiaa
