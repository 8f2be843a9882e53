import Derived.Test.YtcjgmiilfjjbcaaGreatDoorDu4
import Derived.Lib.Builder
import Derived.Lib.AppendStr
import Derived.Lib.Walk
import Derived.Lib.OthersKept
import Derived.Lib.ConvBytes
import Derived.KernelRfl
import Derived.Laws.Concat
import Derived.Deep.RegionHeld3
import Derived.Deep.DrawnRows
namespace Go.Proofs.YtcjgmiilfjjbcaaGreatDoor
open Go.RowKit

/-! ### strings.Builder, a block of the call's own -/
abbrev Bld (w : World) (B b : Nat) (bs : List Value) : Prop := Lib.IsBuilder 52 5 B b bs w
theorem Bld.keptN {w w' : World} {B b : Nat} {bs : List Value} (h : Bld w B b bs) (hg : w.grownBy w' none) : Bld w' B b bs := by
  have H : ∀ p, Lib.BuilderAt 52 5 B b p bs w → Lib.BuilderAt 52 5 B b p bs w' := by
    rintro p ⟨h1, v, h2, h3, h4⟩
    refine ⟨h1, v, (hg.block b (Array.getElem?_eq_some_iff.1 h2).1 (by simp)).trans h2, h3.kept hg ?_, h4⟩
    cases v.ownBlock with
    | none => exact .inl rfl
    | some g => exact .inr (by simp)
  exact h.elim (fun x => .inl (H _ x)) (fun x => .inr (H _ x))
theorem own_cells20 {w : World} {base e n : Nat} {v : Value} {xs : List Value} (h : w.ownsRow base e 1 v n xs) {g : Nat} (hg : v.ownBlock = some g) : ∃ c fz, w.heap[g]? = some (.cells c e fz) := by
  rcases h.2 with ⟨h1, _⟩ | ⟨g', cap, cur, h1, _, h3, _⟩
  · rw [h1] at hg; cases hg
  · rw [h1] at hg
    simp only [Value.ownBlock, Option.some.injEq] at hg
    subst hg
    exact ⟨cur, _, h3⟩
theorem info_bld : (Tryz.prog.info? 52).map (fun i => i.size) = some 2 := by kernel_rfl
theorem lies_bld : liesAt Tryz.prog Tryz.prog.depth 52 (2 / Tryz.prog.cellsOf 52) 0 52 1 = true := by kernel_rfl

set_option maxHeartbeats 1000000 in
set_option maxRecDepth 100000 in
theorem copyCheck_used (b : Nat) (w : World) (h0 : w.cell? ⟨b, 0, none⟩ = some (.pointer (some ⟨b, 0, none⟩))) :
    Calls Tryz.prog 60 #[.pointer (some ⟨b, 0, none⟩)] w fun e w' => e = .returned (.tuple #[]) ∧ w' = w := by
  obtain ⟨j, hj, _⟩ := Option.map_eq_some_iff.1 info_bld
  go_enter Tryz.func60, Tryz.ntmps60
  go_wp2
  rw [Lib.run_neq_ptr_same w _ Tryz.underlying50 hj]
  go_wp2
  go_end0
  exact ⟨rfl, rfl⟩
set_option maxHeartbeats 1000000 in
set_option maxRecDepth 100000 in
theorem copyCheck_fresh (b : Nat) (w : World) (h0 : w.cell? ⟨b, 0, none⟩ = some (.pointer none)) (hsh : w.shape? b = some (52, 2)) (hfz : w.frozen? ⟨b, 0, none⟩ = false) :
    Calls Tryz.prog 60 #[.pointer (some ⟨b, 0, none⟩)] w fun e w' => e = .returned (.tuple #[]) ∧ w' = w.setCell ⟨b, 0, none⟩ (.pointer (some ⟨b, 0, none⟩)) := by
  obtain ⟨j, hj, hjs⟩ := Option.map_eq_some_iff.1 info_bld
  go_enter Tryz.func60, Tryz.ntmps60
  go_wp2
  rw [Lib.run_to_unsafe w ⟨b, 0, none⟩ Tryz.underlying50 Tryz.underlying118 hj (by rw [hjs]; decide) hsh (Nat.zero_lt_succ 1)]
  simp only [Result.andThen]
  rw [Oper.upon_value]
  go_wp2
  rw [run_callFunc_extern Tryz.func77 (by kernel_rfl) (by kernel_rfl) (by kernel_rfl) (e := Extern.AbiNoEscape.same) (by kernel_rfl)]
  rw [Lib.run_noEscape]
  simp only [Result.andThen]
  rw [Oper.upon_value]
  go_wp2
  rw [Lib.run_from_unsafe w ⟨b, 0, none⟩ Tryz.underlying118 Tryz.underlying50 hj hsh lies_bld]
  simp only [Result.andThen]
  rw [Oper.upon_value]
  go_wp2
  go_end0
  exact ⟨rfl, rfl⟩
theorem copyCheck_any (B b : Nat) (bs : List Value) (w : World) (h : Bld w B b bs) :
    Calls Tryz.prog 60 #[.pointer (some ⟨b, 0, none⟩)] w fun e w' => e = .returned (.tuple #[]) ∧ (Lib.BuilderAt 52 5 B b (.pointer (some ⟨b, 0, none⟩)) bs w' ∧ Below B w w' ∧ Lib.OthersKept 5 (some b) w w') := by
  rcases h with h | h
  · refine (copyCheck_fresh b w h.cell0 h.shape h.frozen0).mono ?_
    rintro e w' ⟨rfl, rfl⟩
    exact ⟨rfl, h.used _, (Below.refl B w).setCell (p := ⟨b, 0, none⟩) h.1 _, (Lib.OthersKept.refl _ (some b) _).setCell (b := b) ⟨b, 0, none⟩ rfl _⟩
  · refine (copyCheck_used b w h.cell0).mono ?_
    rintro e w' ⟨rfl, rfl⟩
    exact ⟨rfl, h, Below.refl B _, Lib.OthersKept.refl _ _ _⟩
set_option maxHeartbeats 2000000 in
set_option maxRecDepth 100000 in
theorem writeString_any (B b : Nat) (bs : List Value) (s : ByteArray) (w : World) (h : Bld w B b bs) (hlen : bs.length + s.size ≤ 140737488355328) (hBw : B ≤ w.heap.size) :
    Calls Tryz.prog 38 #[.pointer (some ⟨b, 0, none⟩), .string s] w fun e w' => e = .returned (.tuple #[.int .i64 s.size, .nilIface]) ∧ Bld w' B b (bs ++ Lib.strCells s) ∧ Below B w w' ∧ Lib.OthersKept 5 (some b) w w' := by
  obtain ⟨i0, hi, hz0, hz1, hz2⟩ := info_parts info_u8
  have HC := hid_intro (copyCheck_any B b bs w h)
  clear h
  go_enter Tryz.func38, Tryz.ntmps38
  go_wp2_with fail
  refine HC.out.mono ?_
  rintro e w1 ⟨rfl, h1, hb1, hk1⟩
  have HK1 := hid_intro hk1
  clear hk1
  obtain ⟨hB, v, hbk, hown, hne⟩ := h1
  have c0 : w1.cell? ⟨b, 0, none⟩ = some (.pointer (some ⟨b, 0, none⟩)) := by rw [Lib.cell_of_heap hbk]; rfl
  have c1 : w1.cell? ⟨b, 1, none⟩ = some v := by rw [Lib.cell_of_heap hbk]; rfl
  go_wp2_with (at_builtin; refine Lib.wpList_append_own_string _ rfl _ _ 32 9 rfl B 5 i0 Tryz.underlying32 Tryz.underlying9 hi hz0 hz1 hz2 _ _ _ rfl hown s rfl ?c3 ?c4 ?c5 ?_)
  case c3 => unfold maxLen; omega
  case c4 => omega
  case c5 => have := hb1.size; omega
  intro v' w2 hown' hgrow _
  have hlt : b < w1.heap.size := (Array.getElem?_eq_some_iff.1 hbk).1
  have hb2 : w2.heap[b]? = some (.cells #[.pointer (some ⟨b, 0, none⟩), v] 52 (0, 0)) := by
    rw [hgrow.block b hlt (fun e => hne e.symm)]
    exact hbk
  have d0 : w2.cell? ⟨b, 0, none⟩ = some (.pointer (some ⟨b, 0, none⟩)) := by rw [Lib.cell_of_heap hb2]; rfl
  have d1 : w2.cell? ⟨b, 1, none⟩ = some v := by rw [Lib.cell_of_heap hb2]; rfl
  have f1 : w2.frozen? ⟨b, 1, none⟩ = false := Lib.frozen_of_heap hb2 1
  obtain ⟨ao, cap, rfl⟩ := own_shape20 hown'
  go_wp2
  go_ret2
  refine ⟨rfl, .inr ?_, ?_, ?_⟩
  · exact Lib.BuilderAt.put (T := 52) (e := 5) hB hb2 (bs' := bs ++ Lib.strCells s) (by simpa [Lib.strCells_length] using hown') (by decide)
  · exact (hb1.grown hgrow (by have := hb1.size; omega) (fun k hk => (hown.lt k hk).1)).setCell (p := ⟨b, 1, none⟩) hB _
  · exact (HK1.out.grown hgrow (fun g hg => own_cells20 hown hg)).setCell (b := b) ⟨b, 1, none⟩ rfl _
end Go.Proofs.YtcjgmiilfjjbcaaGreatDoor

namespace Go.Proofs.YtcjgmiilfjjbcaaGreatDoor
open Go.RowKit

/-- The table that strconv.Itoa reads is there. -/
def Tzd (w : World) : Prop := Lib.TabIs Tryz.prog w "internal/strconv.uint64pow10" .u64 Lib.pow10Tab
theorem tzd_named : Tryz.prog.globalNamed "internal/strconv.uint64pow10" = some 2 := by kernel_rfl
theorem Tzd.lt {w : World} (h : Tzd w) : 2 < w.heap.size := by
  unfold Tzd Lib.TabIs World.var? at h
  rw [tzd_named] at h
  simp only [Option.bind_some] at h
  rcases Nat.lt_or_ge 2 w.heap.size with h' | h'
  · exact h'
  · simp [Array.getElem?_eq_none h'] at h
theorem Tzd.keptN {w w' : World} (h : Tzd w) (hg : w.grownBy w' none) : Tzd w' := by
  have hb := hg.block 2 h.lt (by simp)
  unfold Tzd Lib.TabIs World.var? at h ⊢
  rw [tzd_named] at h ⊢
  simp only [Option.bind_some] at h ⊢
  rw [hb]
  exact h
theorem sort_grownD (w : World) (k : Nat) (os : Array Obj) : w.grownBy (Sort.grow (w.drewN k) os) none := by
  have hq := (Qt.drewN w k)
  refine ⟨hq.os, hq.tape, hq.output, ?_, fun i hi _ => ?_⟩
  · have := congrArg Array.size hq.heap; simp [Sort.grow]
  · show ((w.drewN k).heap ++ os)[i]? = _
    rw [hq.heap, Array.getElem?_append_left hi]
theorem grown_below {w w' : World} {B : Nat} (h : Below B w w') (hB : w.heap.size ≤ B) : w.grownBy w' none := ⟨h.os, h.tape, h.output, h.size, fun k hk _ => h.block k (by omega)⟩

/-! ### Pairs in memory -/
structure Pm (w : World) (a : Option Addr) (l : List Pq) : Prop where
  el : ∀ i p, l[i]? = some p → ∃ b off ao c bo d, a = some ⟨b, off, none⟩ ∧ w.cell? ⟨b, off + i * 2, none⟩ = some (.slice ao p.1.length c) ∧ w.cell? ⟨b, off + i * 2 + 1, none⟩ = some (.slice bo p.2.length d) ∧ Byt w ao p.1.length c p.1 ∧ Bt p.1 ∧ Byt w bo p.2.length d p.2 ∧ Bt p.2
theorem Pm.keptN {w w' : World} {a : Option Addr} {l : List Pq} (h : Pm w a l) (hg : w.grownBy w' none) : Pm w' a l :=
  ⟨fun i p hp => by
    obtain ⟨b, off, ao, c, bo, d, h1, h2, h3, h4, h5, h6, h7⟩ := h.el i p hp
    exact ⟨b, off, ao, c, bo, d, h1, hg.cell h2 (by simp), hg.cell h3 (by simp), h4.keptN hg, h5, h6.keptN hg, h7⟩⟩
theorem Pm.nil (w : World) (a : Option Addr) : Pm w a [] := ⟨fun i p h => by simp at h⟩
theorem Pm.bt {w : World} {a : Option Addr} {l : List Pq} (h : Pm w a l) : BtP l := fun p hp => by
  obtain ⟨i, hi, e⟩ := List.mem_iff_getElem.1 hp
  obtain ⟨b, off, ao, c, bo, d, h1, h2, h3, h4, h5, h6, h7⟩ := h.el i p (by rw [List.getElem?_eq_getElem hi, e])
  exact ⟨h5, h7⟩

theorem less_numsD : ∀ {a b : List Int}, Bt a → Bt b → Op.bytesLess (a.map fun n => UInt8.ofNat n.toNat) (b.map fun n => UInt8.ofNat n.toNat) = decide (cmpZ a b < 0)
  | [], [], _, _ => by simp [Op.bytesLess, cmpZ]
  | _ :: _, [], _, _ => by simp [Op.bytesLess, cmpZ]
  | [], _ :: _, _, _ => by simp [Op.bytesLess, cmpZ]
  | a :: xs, b :: ys, ha, hb => by
    have h1 := ha a (List.mem_cons_self ..)
    have h2 := hb b (List.mem_cons_self ..)
    have ih := less_numsD (a := xs) (b := ys) (fun z hz => ha z (List.mem_cons_of_mem _ hz)) (fun z hz => hb z (List.mem_cons_of_mem _ hz))
    have e1 : (UInt8.ofNat a.toNat < UInt8.ofNat b.toNat) ↔ a < b := by
      rw [UInt8.lt_iff_toNat_lt]; simp; omega
    have e2 : (UInt8.ofNat a.toNat = UInt8.ofNat b.toNat) ↔ a = b := by
      rw [← UInt8.toNat_inj]; simp; omega
    rw [List.map_cons, List.map_cons, Op.bytesLess, ih, cmp_cons]
    by_cases h3 : a < b
    · simp [e1, h3]
    · by_cases h4 : b < a
      · have h5 : ¬ a = b := by omega
        simp [e1, e2, h3, h4, h5]
      · have h5 : a = b := by omega
        subst h5
        simp

theorem jdg_drop {l : List Pq} {i : Nat} {p : Pq} (a : List Int) (h : l[i]? = some p) : jdg a (l.drop i) = if flt a p = 0 then jdg p.1 (l.drop (i + 1)) else flt a p := by
  obtain ⟨hi, e⟩ := List.getElem?_eq_some_iff.1 h
  rw [List.drop_eq_getElem_cons hi, e]; rfl
/-- The key ahead of a pair. -/
def ahd (l : List Pq) : Nat → List Int
  | 0 => []
  | i + 1 => ((l[i]?).getD ([], [])).1
theorem cmp_gt_nil {k : List Int} (h : 1 ≤ k.length) : ¬ cmpZ k [] ≤ 0 := by
  cases k with
  | nil => simp at h
  | cons x t => simp [cmpZ]
end Go.Proofs.YtcjgmiilfjjbcaaGreatDoor

namespace Go.Proofs.YtcjgmiilfjjbcaaGreatDoor
open Go.RowKit

theorem tstr_app (a b : List UInt8) : tstr a ++ tstr b = tstr (a ++ b) := by
  unfold tstr
  rw [ByteArray.mk_append_mk]
theorem tstr_size (a : List UInt8) : (tstr a).size = a.length := by unfold tstr; rfl
theorem tstr_data (a : List UInt8) : (tstr a).data.toList = a := rfl
theorem tstr_mk (s : ByteArray) : tstr s.data.toList = s := Lib.mk_data s
theorem digs_cut (q : Nat) (h : q < 16) : (⟨#[48, 49, 50, 51, 52, 53, 54, 55, 56, 57, 97, 98, 99, 100, 101, 102]⟩ : ByteArray).extract q (q + 1) = tstr [dgt q] := by
  have : ∀ q : Fin 16, ((⟨#[48, 49, 50, 51, 52, 53, 54, 55, 56, 57, 97, 98, 99, 100, 101, 102]⟩ : ByteArray).extract q.1 (q.1 + 1)).data = (tstr [dgt q.1]).data := by decide +kernel
  exact ByteArray.ext (this ⟨q, h⟩)
theorem dgt_dec {q : Nat} (h : q < 10) : dgt q = UInt8.ofNat (48 + q) := by unfold dgt; rw [if_pos h]
theorem dec_len : ∀ (k n : Nat), n < 10 ^ (k + 1) → (Lib.decDigits n).length ≤ k + 1
  | 0, n, h => by rw [dec_small (by simpa using h)]; simp
  | k + 1, n, h => by
    by_cases h10 : n < 10
    · rw [dec_small h10]; simp
    · rw [dec_big h10, List.length_append]
      have := dec_len k (n / 10) (by rw [Nat.pow_succ] at h; omega)
      simp; omega
end Go.Proofs.YtcjgmiilfjjbcaaGreatDoor

namespace Go.Proofs.YtcjgmiilfjjbcaaGreatDoor
open Go.RowKit

theorem jdg_small : ∀ {l : List Pq} {a : List Int}, jdg a l = 0 → ∀ p ∈ l, p.1.length ≤ 255 ∧ p.2.length ≤ 262144
  | [], _, _, p, hp => by cases hp
  | q :: l, a, h, p, hp => by
    simp only [jdg] at h
    split at h
    · rename_i hf
      rcases List.mem_cons.1 hp with rfl | hp
      · unfold flt at hf
        split at hf
        · cases hf
        · rename_i hh; omega
      · exact jdg_small h p hp
    · rename_i hf; exact absurd h hf
theorem lne_len {p : Pq} (h : p.1.length ≤ 255 ∧ p.2.length ≤ 262144) : (lne p).length ≤ 525000 := by
  have h1 := (hx_len p.1).1
  have h2 := (hx_len p.2).1
  unfold lne lnh
  simp
  omega
def hdr (n : Nat) : List UInt8 := (ttl ++ Lib.decDigits n) ++ [10]
def txi (l : List Pq) (i : Nat) : List UInt8 := hdr l.length ++ (l.take i).flatMap lne
theorem txi_all (l : List Pq) : txi l l.length = tx l := by unfold txi tx hdr; rw [List.take_length]; simp
theorem txi_snoc {l : List Pq} {i : Nat} {p : Pq} (h : l[i]? = some p) : txi l (i + 1) = txi l i ++ lne p := by
  obtain ⟨hi, e⟩ := List.getElem?_eq_some_iff.1 h
  unfold txi
  rw [List.take_succ_eq_append_getElem hi, e, List.flatMap_append]
  simp
theorem hdr_len {n : Nat} (h : n ≤ 100000000) : (hdr n).length ≤ 30 := by
  have := dec_len 9 n (by omega)
  unfold hdr ttl
  simp
  omega
theorem txi_len {l : List Pq} (hl : l.length ≤ 100000000) (h : ∀ p ∈ l, p.1.length ≤ 255 ∧ p.2.length ≤ 262144) : ∀ i, i ≤ l.length → (txi l i).length ≤ 30 + i * 525000
  | 0, _ => by unfold txi; simp; exact hdr_len hl
  | i + 1, hi => by
    have hp : l[i]? = some (l[i]'(by omega)) := List.getElem?_eq_getElem (by omega)
    rw [txi_snoc hp, List.length_append]
    have h1 := txi_len hl h i (by omega)
    have h2 := lne_len (h _ (List.getElem_mem (by omega : i < l.length)))
    omega
theorem str_cells (t : List UInt8) : Lib.strCells (tstr t) = Lib.byteCells t := rfl

/-- What Text answers. -/
def txt (l : List Pq) : List UInt8 := if jdg [] l = 0 then tx l else []
end Go.Proofs.YtcjgmiilfjjbcaaGreatDoor
