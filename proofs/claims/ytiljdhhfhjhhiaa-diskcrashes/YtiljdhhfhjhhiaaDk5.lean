import Derived.Test.YtiljdhhfhjhhiaaDk4
namespace Go.Proofs.Ytiljdhhfhjhhiaa
open Go.RowKit Go.MuLone

/-- The map while what pends is forgotten. -/
def nwk (l : List (Nat × Nat × List Int)) (k j : Nat) : Option Nat := if (l.take k).any (fun p => p.1 == j) then none else nw l j
theorem nwk_zero (l : List (Nat × Nat × List Int)) : nwk l 0 = nw l := by funext j; simp [nwk]
theorem nwk_succ (l : List (Nat × Nat × List Int)) (k : Nat) (p : Nat × Nat × List Int) (h : l[k]? = some p) : (fun j => if p.1 = j then none else nwk l k j) = nwk l (k + 1) := by
  funext j
  unfold nwk
  rw [List.take_add_one, h, List.any_append]
  by_cases e : p.1 = j
  · simp [e]
  · rw [if_neg e]
    have e' : (p.1 == j) = false := by simp [e]
    simp only [Option.toList_some, List.any_cons, List.any_nil, e', Bool.or_false]
theorem nwk_all (l : List (Nat × Nat × List Int)) : nwk l l.length = nw [] := by
  funext j
  unfold nwk
  rw [List.take_length]
  by_cases e : l.any (fun p => p.1 == j) = true
  · rw [if_pos e, nw_nil]
  · rw [if_neg e, nw_nil]
    unfold nw
    rw [List.find?_eq_none.2, Option.map_none]
    intro p hp hc
    exact e (List.any_eq_true.2 ⟨p, List.mem_reverse.1 hp, hc⟩)

/-- What pends is forgotten. -/
theorem Dm.clear {w wr : World} {F : Nat → Prop} {d : Dd} (h : Dm w F d) (hg : w.grownBy wr (some d.m)) (hmp : ∃ n, n ≤ d.done ∧ Mp wr d.m n (nw [])) : Dm wr F { d with vP := .slice none 0 0, pl := [] } := by
  obtain ⟨n0, hn0, hmp0⟩ := h.mp
  obtain ⟨es, clock, hmm⟩ := hmp0.isMap
  have st : ∀ (k : Nat) (cs : Array Value) (t : TypeId) (fz : Nat × Nat), w.heap[k]? = some (.cells cs t fz) → wr.heap[k]? = w.heap[k]? := by
    intro k cs t fz hk
    refine hg.block k (Array.getElem?_eq_some_iff.1 hk).1 (fun e => ?_)
    have := Option.some.inj e
    subst this
    rw [hk] at hmm
    cases hmm
  refine ⟨owns_same h.lr fun k hk => ?_, h.fl, World.ownsRow_nil _ _ _ _, fun g e => (by cases e), fun x hx => (h.bp x hx).same (st _ _ _ _ (h.bp x hx).at_), fun x hx => (by cases hx), ?_, hmp, Nat.zero_le _, h.fm, fun k hk => Nat.lt_of_lt_of_le (h.low k hk) hg.size⟩
  · rcases h.lr.2 with ⟨hv, _⟩ | ⟨g', cap, cur, hv, _, hg', _⟩
    · rw [hv] at hk; cases hk
    rw [hv] at hk
    have := Option.some.inj hk
    simp at this
    subst this
    exact st _ _ _ _ hg'
  · have := (List.nodup_append.1 h.nd).1
    simpa using this

set_option maxHeartbeats 4000000 in
set_option maxRecDepth 4000 in
theorem settle_b {w : World} {B : Nat} {F : Nat → Prop} {s : Int} {d : Dd} (hb : Bx w B s d) (hm : Dm w F d) (fb : F B) (hd : d.pl.length < 1099511627776) :
    Calls Try.prog 50 #[.pointer (some ⟨B, 0, none⟩)] w fun e w' => e = .returned (.tuple #[]) ∧ Bx w' B s { d with vP := .slice none 0 0, pl := [], pg := d.bl.length } ∧ Dm w' (fun k => F k ∨ w.heap.size ≤ k ∧ k < w'.heap.size) { d with vP := .slice none 0 0, pl := [], pg := d.bl.length } ∧ Kp w w' F := by
  have c3 := hb.c3
  have c4 := hb.c4
  obtain ⟨ap, cp, ev⟩ := owns_slice hm.pr
  obtain ⟨al, cl, el⟩ := owns_slice hm.lr
  rw [ev] at c4
  have hnB := hm.other hb (by decide) (by decide) (by decide)
  have hmB : d.m ≠ B := fun e => hnB (.inr (.inr (.inr (.inr e.symm))))
  have HM := hid_intro hm
  have HB := hid_intro hb
  have HV := hid_intro ev
  have HE := hid_intro el
  clear hm hb ev el
  go_enter Try.func50, Try.ntmps50
  go_wp2_with fail
  go_loopw [9] (fun si wr => ∃ k : Nat, k ≤ d.pl.length ∧ si = .int .i64 k ∧ (∃ n, n ≤ d.done ∧ Mp wr d.m n (nwk d.pl k)) ∧ w.grownBy wr (some d.m)) (fun si _ => d.pl.length - (intOf si).toNat)
  case atStart => exact ⟨0, Nat.zero_le _, rfl, by rw [nwk_zero]; exact HM.out.mp, World.grownBy.refl _ _⟩
  case round =>
    obtain ⟨k, hk, rfl, ⟨n, hn, hmp⟩, hg⟩ := hrel
    have bR := HB.out.kept hg (fun e => hmB (Option.some.inj e).symm)
    by_cases hlt : k < d.pl.length
    · have hlt' : (k : Int) < (d.pl.length : Int) := by omega
      have c5 := bR.c5
      obtain ⟨gP, capP, curP, hv, _, hgP, hcap, _⟩ := HM.out.pr.2.resolve_left (fun e => by have := e.2; omega)
      have hv2 := HV.out
      rw [hv] at hv2
      simp only [Value.slice.injEq] at hv2
      obtain ⟨rfl, _, rfl⟩ := hv2
      have hx : d.pl[k]? = some d.pl[k] := List.getElem?_eq_getElem hlt
      revert hx
      generalize d.pl[k] = x
      intro hx
      obtain ⟨no, h, z⟩ := x
      have hno : no < 524288 := (HM.out.pp _ (List.mem_of_getElem? hx)).2
      have hgPm : gP ≠ d.m := fun e => by
        obtain ⟨n, _, hmp'⟩ := HM.out.mp
        obtain ⟨es, clock, hmm⟩ := hmp'.isMap
        subst e
        rw [hgP] at hmm
        cases hmm
      have own : wr.ownsRow 0 90 2 (.slice (some ⟨gP, 0, none⟩) d.pl.length capP) d.pl.length (wcells d.pl) := by
        have := HM.out.pr
        rw [hv] at this
        exact this.kept hg (.inr (fun e => hgPm (Option.some.inj e)))
      have q0 : wr.cell? ⟨gP, k * 2, none⟩ = some (.int .i64 no) := by
        rw [own.cellAt (k * 2) (by omega), Nat.mul_comm]; exact (wcells_at _ _ _ hx).1
      have q1 : wr.cell? ⟨gP, k * 2 + 1, none⟩ = some (.slice (some ⟨h, 0, none⟩) 4096 4096) := by
        rw [own.cellAt (k * 2 + 1) (by omega), Nat.mul_comm]; exact (wcells_at _ _ _ hx).2
      have HX := hid_intro hx
      have HG := hid_intro hg
      have HMP := hid_intro hmp
      have BR := hid_intro bR
      clear hx hg hmp bR own hgP hcap c3 c4
      have c5a : (wr.alloc (.cells #[.int .i64 no, .slice (some ⟨h, 0, none⟩) 4096 4096] 90)).cell? ⟨B, 5, none⟩ = some (.map (some d.m)) := (BR.out.kept (World.grownBy_alloc wr _ none) (by simp)).c5
      have MA : Hid (∀ W : World, W.heap = (wr.alloc (.cells #[.int .i64 no, .slice (some ⟨h, 0, none⟩) 4096 4096] 90)).heap → Mp W d.m n (nwk d.pl k)) := fun W e => by
        obtain ⟨es, clock, hmm⟩ := HMP.out.isMap
        refine HMP.out.same ?_
        rw [e]
        exact (World.grownBy_alloc wr _ none).block d.m (Array.getElem?_eq_some_iff.1 hmm).1 (by simp)
      go_wp2_with fail
      go_region_law (refine step_delete_mp rfl (.tmp 16) (.tmp 18) (by rfl) d.m n _ (by rfl) (by exact MA.out _ rfl) no (by rfl) (by omega) ?_; intro w4 mp4 ht4; have M4 := hid_intro mp4; have T4 := hid_intro ht4; clear mp4 ht4)
      all_goals
        go_wp2
        go_roundw
        case rel =>
          have m4 := M4.out
          rw [nwk_succ d.pl k _ HX.out] at m4
          exact ⟨k + 1, by omega, by go_num, ⟨n, hn, m4⟩, grown_trans (grown_trans HG.out (World.grownBy_alloc wr (.cells #[.int .i64 no, .slice (some ⟨h, 0, none⟩) 4096 4096] 90) _)) (grown_trans ((Qt.refl _).drew.grown _) T4.out.grown)⟩
        case measure => simp [intOf]; omega
    · have hkn : k = d.pl.length := by omega
      subst hkn
      rw [nwk_all] at hmp
      have c3 := bR.c3
      have c4 := bR.c4
      have c6 := bR.c6
      have f4 := bR.fz 4
      have f6 := bR.fz 6
      rw [HE.out] at c3
      have dm1 := HM.out.clear hg ⟨n, hn, hmp⟩
      have hs1 := hg.size
      have kp1 : Kp w wr F := Kp.of hg (fun k e => by rw [← Option.some.inj e]; exact HM.out.fm)
      have low := HM.out.low
      have fin : ∀ W, Qt ((wr.setCell ⟨B, 4, none⟩ (.slice none 0 0)).setCell ⟨B, 6, none⟩ (.int .i64 d.bl.length)) W → Bx W B s { d with vP := .slice none 0 0, pl := [], pg := d.bl.length } ∧ Dm W (fun k => F k ∨ w.heap.size ≤ k ∧ k < W.heap.size) { d with vP := .slice none 0 0, pl := [], pg := d.bl.length } ∧ Kp w W F := by
        intro W q
        have gW : wr.grownBy W (some B) := grown_trans (grown_trans (grown_cell _ _ _ _) (grown_cell _ _ _ _)) (q.grown _)
        have sW : W.heap.size = wr.heap.size := by rw [q.heap]; simp
        refine ⟨?_, ?_, kp1.trans (Kp.of (F := F) gW (fun k e => by rw [← Option.some.inj e]; exact fb)) (fun k hk => .inl hk)⟩
        · exact ((bR.set 4 (.slice none 0 0) s { d with vP := .slice none 0 0 } rfl).set 6 (.int .i64 d.bl.length) s { d with vP := .slice none 0 0, pl := [], pg := d.bl.length } rfl).same (by rw [q.heap])
        · have := dm1.box bR gW
          exact (this.wide (G := fun k => F k ∨ w.heap.size ≤ k ∧ k < W.heap.size) (fun k hk => .inl hk) (fun k hk => hk.elim (fun x => by have := low k x; omega) (fun x => x.2))).scal rfl rfl rfl rfl rfl (Nat.le_refl _)
      have FIN := hid_intro fin
      clear fin dm1 kp1 hmp hg
      go_wp2
      go_end0
      exact ⟨rfl, FIN.out _ (Qt.refl _)⟩

theorem landL_len (L : List (List Int)) (i : Nat) (z : List Int) (n : Nat) : (landL L i z n).length = max L.length (i + 1) := by
  unfold landL
  rw [List.length_set, List.length_append, List.length_replicate]
  omega
/-- All that pends lands. -/
def landA (L : List (List Int)) (l : List (Nat × Nat × List Int)) : List (List Int) := l.foldl (fun L p => landL L p.1 p.2.2 4096) L
theorem landA_snoc (L : List (List Int)) (l : List (Nat × Nat × List Int)) (p : Nat × Nat × List Int) : landA L (l ++ [p]) = landL (landA L l) p.1 p.2.2 4096 := by simp [landA, List.foldl_append]
theorem landA_len (L : List (List Int)) (l : List (Nat × Nat × List Int)) : (landA L l).length = pgs L.length l := by
  induction l generalizing L with
  | nil => rfl
  | cons p l ih => simp only [landA, pgs, List.foldl_cons] at ih ⊢; rw [ih, landL_len]
theorem pgs_le (n : Nat) (l : List (Nat × Nat × List Int)) : n ≤ pgs n l := by
  induction l generalizing n with
  | nil => exact Nat.le_refl _
  | cons p l ih => have := ih (max n (p.1 + 1)); simp only [pgs, List.foldl_cons] at this ⊢; omega
theorem pgs_app (n : Nat) (a b : List (Nat × Nat × List Int)) : pgs n (a ++ b) = pgs (pgs n a) b := by simp [pgs, List.foldl_append]
theorem pgs_take (n k : Nat) (l : List (Nat × Nat × List Int)) : pgs n (l.take k) ≤ pgs n l := by
  have := pgs_app n (l.take k) (l.drop k)
  rw [List.take_append_drop] at this
  rw [this]
  exact pgs_le _ _

set_option maxHeartbeats 800000 in
theorem sync_off {w : World} {B : Nat} {d : Dd} (hb : Bx w B 0 d) (ho : d.off = true) : Calls Try.prog 27 #[.pointer (some ⟨B, 0, none⟩)] w fun e w' => e = .returned (.int .i64 123) ∧ Bx w' B 0 d ∧ w.grownBy w' (some B) := by
  go_enter_defers Try.func27, Try.ntmps27
  go_wp2_with fail
  refine (lock_b hb).mono ?_
  rintro e w1 ⟨rfl, hb1, hg1⟩
  have c8 := hb1.c8
  rw [ho] at c8
  go_wp2_with fail
  refine leaves_cons (f := 46) (args := #[.pointer (some ⟨B, 0, none⟩)]) (by simp) (by simp [go_sem]) ?_
  refine (unlock_b .returning hb1).mono ?_
  rintro e u' w2 ⟨rfl, rfl, hb2, hg2⟩
  exact ⟨_, results_tmp rfl _ _ _, rfl, hb2, grown_trans hg1 hg2⟩

set_option maxHeartbeats 800000 in
theorem sync_fail {w : World} {B : Nat} {d : Dd} (hb : Bx w B 0 d) (ho : d.off = false) (hl : d.left = 1) (hd : d.done < 1099511627776) : Calls Try.prog 27 #[.pointer (some ⟨B, 0, none⟩)] w fun e w' => e = .returned (.int .i64 123) ∧ Bx w' B 0 d.spend ∧ w.grownBy w' (some B) := by
  go_enter_defers Try.func27, Try.ntmps27
  go_wp2_with fail
  refine (lock_b hb).mono ?_
  rintro e w1 ⟨rfl, hb1, hg1⟩
  have c8 := hb1.c8
  rw [ho] at c8
  go_wp2_with fail
  refine (spend_b hb1 ho (by omega) (by omega)).mono ?_
  rintro e w2 ⟨rfl, hb2, hg2⟩
  rw [show d.ans = 123 by unfold Dd.ans; rw [if_pos hl]]
  go_wp2_with fail
  refine leaves_cons (f := 46) (args := #[.pointer (some ⟨B, 0, none⟩)]) (by simp) (by simp [go_sem]) ?_
  refine (unlock_b .returning hb2).mono ?_
  rintro e u' w3 ⟨rfl, rfl, hb3, hg3⟩
  exact ⟨_, results_tmp rfl _ _ _, rfl, hb3, grown_trans (grown_trans hg1 hg2) hg3⟩

/-- What a Sync leaves. -/
def Dd.sync (d : Dd) (v : Value) (bl : List (Nat × List Int)) : Dd := { d.spend with vL := v, bl := bl, vP := .slice none 0 0, pl := [], pg := bl.length }

set_option maxHeartbeats 4000000 in
set_option maxRecDepth 4000 in
theorem sync_ok {w : World} {B : Nat} {F : Nat → Prop} {d : Dd} (hk : Dk w B F d) (ho : d.off = false) (hl : d.left ≠ 1) (hd : d.done < 1099511627776) (hl2 : d.left < 9223372036854775808) :
    Calls Try.prog 27 #[.pointer (some ⟨B, 0, none⟩)] w fun e w' => e = .returned (.int .i64 0) ∧ ∃ v bl, Dk w' B (fun k => F k ∨ w.heap.size ≤ k ∧ k < w'.heap.size) (d.sync v bl) ∧ Kp w w' F ∧ bl.map (·.2) = landA (d.bl.map (·.2)) d.pl := by
  have hb := hk.bx
  have HK := hid_intro hk
  have hpc := hk.dm.pc
  have hpg := hk.pg
  have hcap := hk.cap
  have hle := hk.le
  clear hk
  go_enter_defers Try.func27, Try.ntmps27
  go_wp2_with fail
  refine (lock_b hb).mono ?_
  rintro e w1 ⟨rfl, hb1, hg1⟩
  have c8 := hb1.c8
  rw [ho] at c8
  go_wp2_with fail
  refine (spend_b hb1 ho (by omega) hl2).mono ?_
  rintro e w2 ⟨rfl, hb2, hg2⟩
  rw [show d.ans = 0 by unfold Dd.ans; rw [if_neg hl]]
  have hg12 := grown_trans hg1 hg2
  have hm2 : Dm w2 F d.spend := (HK.out.dm.box HK.out.bx hg12).scal rfl rfl rfl rfl rfl (Nat.le_succ _)
  have c4 := hb2.c4
  obtain ⟨ap, cp, ev⟩ := owns_slice hm2.pr
  change d.vP = .slice ap d.pl.length cp at ev
  change w2.cell? _ = some d.vP at c4
  rw [ev] at c4
  have EV := hid_intro ev
  have B2 := hid_intro hb2
  have M2 := hid_intro hm2
  have G12 := hid_intro hg12
  clear hb2 hm2 hg12 ev hb1 hb c8 hg1 hg2
  go_wp2_with fail
  go_loopw [27] (fun si wr => ∃ (k : Nat) (v : Value) (bl : List (Nat × List Int)), k ≤ d.pl.length ∧ si = .int .i64 k ∧ Bx wr B 1 { d.spend with vL := v, bl := bl } ∧ Dm wr (fun k => F k ∨ w.heap.size ≤ k ∧ k < wr.heap.size) { d.spend with vL := v, bl := bl } ∧ Kp w wr F ∧ bl.map (·.2) = landA (d.bl.map (·.2)) (d.pl.take k)) (fun si _ => d.pl.length - (intOf si).toNat)
  case atStart =>
    have hs := G12.out.size
    exact ⟨0, d.vL, d.bl, Nat.zero_le _, rfl, B2.out, M2.out.wide (fun k hk => .inl hk) (fun k hk => hk.elim (fun x => by have := HK.out.dm.low k x; omega) (fun x => x.2)), Kp.of G12.out (fun k e => by rw [← Option.some.inj e]; exact HK.out.fb), rfl⟩
  case round =>
    obtain ⟨k, v, bl, hk, rfl, hbr, hmr, hkp, hL⟩ := hrel
    have hbl : bl.length = pgs d.bl.length (d.pl.take k) := by
      have := congrArg List.length hL
      rw [List.length_map, landA_len, List.length_map] at this
      exact this
    have hblc : bl.length < 524288 := by have := pgs_take d.bl.length k d.pl; omega
    have HBL := hid_intro hbl
    clear hbl
    by_cases hlt : k < d.pl.length
    · have hlt' : (k : Int) < (d.pl.length : Int) := by omega
      obtain ⟨gP, capP, curP, hv, _, hgP, hcapP, _⟩ := hmr.pr.2.resolve_left (fun e => by have := e.2; change d.pl.length = 0 at this; omega)
      change d.vP = .slice (some ⟨gP, 0, none⟩) d.pl.length capP at hv
      have hv2 := EV.out
      rw [hv] at hv2
      simp only [Value.slice.injEq] at hv2
      obtain ⟨rfl, _, rfl⟩ := hv2
      have hx : d.pl[k]? = some d.pl[k] := List.getElem?_eq_getElem hlt
      revert hx
      generalize d.pl[k] = x
      intro hx
      obtain ⟨no, h, z⟩ := x
      have own : wr.ownsRow 0 90 2 (.slice (some ⟨gP, 0, none⟩) d.pl.length capP) d.pl.length (wcells d.pl) := by
        have := hmr.pr
        change wr.ownsRow 0 90 2 d.vP d.pl.length (wcells d.pl) at this
        rw [hv] at this
        exact this
      have q0 : wr.cell? ⟨gP, k * 2, none⟩ = some (.int .i64 no) := by
        rw [own.cellAt (k * 2) (by omega), Nat.mul_comm]; exact (wcells_at _ _ _ hx).1
      have q1 : wr.cell? ⟨gP, k * 2 + 1, none⟩ = some (.slice (some ⟨h, 0, none⟩) 4096 4096) := by
        rw [own.cellAt (k * 2 + 1) (by omega), Nat.mul_comm]; exact (wcells_at _ _ _ hx).2
      have HX := hid_intro hx
      have gA := World.grownBy_alloc wr (.cells #[.int .i64 no, .slice (some ⟨h, 0, none⟩) 4096 4096] 90) none
      have LA := hid_intro (land_b (hbr.kept gA (by simp)) (hmr.keptN gA) (.inl HK.out.fb) no h 4096 z (Nat.le_refl _) (List.mem_of_getElem? hx) hblc)
      have HKP := hid_intro hkp
      have HLL := hid_intro hL
      have HMR := hid_intro hmr
      clear hx own hgP hcapP hkp hL hmr hbr gA c4
      go_wp2_with fail
      refine LA.out.mono ?_
      rintro e w3 ⟨rfl, v3, bl3, hb3, hm3, hkp3, hL3⟩
      have B3 := hid_intro hb3
      have M3 := hid_intro hm3
      have K3 := hid_intro hkp3
      have L3 := hid_intro hL3
      clear hb3 hm3 hkp3 hL3
      go_wp2
      go_roundw
      case rel =>
        have s0 := HKP.out.size
        have s3 := K3.out.size
        rw [show (wr.alloc (.cells #[.int .i64 no, .slice (some ⟨h, 0, none⟩) 4096 4096] 90)).heap.size = wr.heap.size + 1 by simp] at s3
        refine ⟨k + 1, v3, bl3, by omega, by go_num, B3.out, M3.out.wide (fun j hj => ?_) (fun j hj => hj.elim (fun x => by have := M3.out.low j (.inl (.inl x)); exact this) (fun x => x.2)), ?_, ?_⟩
        · rcases hj with (x | x) | x
          · exact .inl x
          · exact .inr ⟨x.1, by omega⟩
          · exact .inr ⟨by have := x.1; simp at this; omega, x.2⟩
        · exact (HKP.out.trans (Kp.of (F := F) (World.grownBy_alloc wr _ none) (fun j e => by cases e)) (fun j hj => .inl hj)).trans K3.out (fun j hj => hj.imp id (fun x => x.1))
        · rw [List.take_add_one, HX.out, Option.toList_some, landA_snoc, ← HLL.out]
          exact L3.out
      case measure => simp [intOf]; omega
    · have hkn : k = d.pl.length := by omega
      subst hkn
      rw [List.take_length] at hL
      have SE := hid_intro (settle_b hbr hmr (.inl HK.out.fb) (show d.pl.length < _ by omega))
      have HKP := hid_intro hkp
      have HLL := hid_intro hL
      have HMR := hid_intro hmr
      clear hkp hL hmr hbr c4
      go_wp2_with fail
      refine SE.out.mono ?_
      rintro e w3 ⟨rfl, hb3, hm3, hkp3⟩
      go_wp2_with fail
      refine leaves_cons (f := 46) (args := #[.pointer (some ⟨B, 0, none⟩)]) (by simp) (by simp [go_sem]) ?_
      refine (unlock_b .returning hb3).mono ?_
      rintro e u' w4 ⟨rfl, rfl, hb4, hg4⟩
      have s0 := HKP.out.size
      have s3 := hkp3.size
      have s4 := hg4.size
      have hbl := HBL.out
      rw [List.take_length] at hbl
      refine ⟨_, results_tmp rfl _ _ _, rfl, v, bl, ⟨hb4, ?_, .inl HK.out.fb, rfl, HK.out.cap, by show bl.length ≤ d.cap; omega, fun j h1 h2 => by change bl.length ≤ j at h1; change j < bl.length at h2; omega⟩, ?_, HLL.out⟩
      · refine (hm3.box hb3 hg4).wide (fun j hj => ?_) (fun j hj => hj.elim (fun x => by have := hm3.low j (.inl (.inl x)); omega) (fun x => x.2))
        rcases hj with (x | x) | x
        · exact .inl x
        · exact .inr ⟨x.1, by omega⟩
        · exact .inr ⟨by omega, by omega⟩
      · exact (HKP.out.trans hkp3 (fun j hj => hj.imp id (fun x => x.1))).trans (Kp.of (F := F) hg4 (fun j e => by rw [← Option.some.inj e]; exact HK.out.fb)) (fun j hj => .inl hj)
end Go.Proofs.Ytiljdhhfhjhhiaa
