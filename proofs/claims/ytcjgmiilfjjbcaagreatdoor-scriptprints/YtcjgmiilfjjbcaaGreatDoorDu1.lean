import Derived.Test.YtcjgmiilfjjbcaaGreatDoorKeys1
import Derived.Test.YtcjgmiilfjjbcaaGreatDoorDuM
import Derived.Deep.RegionLawGrows
import Derived.Deep.RegionHeld3
import Derived.Deep.CutBlock
import Derived.Laws.OwnMore
namespace Go.Proofs.YtcjgmiilfjjbcaaGreatDoor
open Go.RowKit

/-- A text as the bytes of a string. -/
def tstr (t : List UInt8) : ByteArray := ⟨t.toArray⟩
def dz (t : List UInt8) : List Int := t.map fun c => (c.toNat : Int)


def digs : ByteArray := ⟨#[48, 49, 50, 51, 52, 53, 54, 55, 56, 57, 97, 98, 99, 100, 101, 102]⟩
theorem digs_at (q : Nat) (h : q < 16) : ∀ h' : q < digs.size, (digs[q]'h').toNat = (dgt q).toNat := by
  have : ∀ q : Fin 16, ∀ h' : q.1 < digs.size, (digs[q.1]'h').toNat = (dgt q.1).toNat := by decide
  exact this ⟨q, h⟩
theorem digs_get (q : Nat) (h : q < 16) : ∀ h' : q < (⟨#[48, 49, 50, 51, 52, 53, 54, 55, 56, 57, 97, 98, 99, 100, 101, 102]⟩ : ByteArray).size, (⟨#[48, 49, 50, 51, 52, 53, 54, 55, 56, 57, 97, 98, 99, 100, 101, 102]⟩ : ByteArray)[q]'h' = dgt q :=
  fun h' => UInt8.toNat_inj.1 (digs_at q h h')
theorem dz_app (a b : List UInt8) : dz (a ++ b) = dz a ++ dz b := by unfold dz; exact List.map_append
theorem dz_len (a : List UInt8) : (dz a).length = a.length := by unfold dz; exact List.length_map _
theorem dz_bt (a : List UInt8) : Bt (dz a) := by
  intro z hz
  unfold dz at hz
  obtain ⟨c, _, rfl⟩ := List.mem_map.1 hz
  have := c.toNat_lt
  omega
theorem dz_str (t : List UInt8) : strOfNums (dz t) = tstr t := by
  have h : (strOfNums (dz t)).data.toList = t := by
    rw [strOfNums_data]
    unfold dz
    rw [List.map_map]
    have : ((fun n : Int => UInt8.ofNat n.toNat) ∘ fun c : UInt8 => (c.toNat : Int)) = id := by funext c; simp
    rw [this, List.map_id]
  unfold tstr
  generalize strOfNums (dz t) = s at h
  rw [← h]
theorem hxs_snoc : ∀ (l : List Int) (x : Int), hxs (l ++ [x]) = hxs l ++ [dgt (x.toNat / 16), dgt (x.toNat % 16)]
  | [], x => rfl
  | y :: l, x => by show _ :: _ :: hxs (l ++ [x]) = _; rw [hxs_snoc l x]; rfl
theorem take_snoc20 {l : List Int} {i : Nat} (h : i < l.length) : l.take (i + 1) = l.take i ++ [l.getD i 0] := by
  rw [List.take_succ_eq_append_getElem h]
  simp [List.getD, List.getElem?_eq_getElem h]
theorem cell_two_new (w : World) (e : TypeId) (a b : Value) : ∀ j u, [a, b][j]? = some u → (w.alloc (.cells #[a, b] e)).cell? ((⟨w.heap.size, 0, none⟩ : Addr).add j) = some u := by
  intro j u hj
  match j, hj with
  | 0, hj => simp at hj; subst hj; simp [Addr.add]
  | 1, hj => simp at hj; subst hj; simp [Addr.add]

theorem own_same20 {w W : World} {base e sz n : Nat} {v : Value} {xs : List Value} (h : w.ownsRow base e sz v n xs) (hW : W.heap = w.heap) : W.ownsRow base e sz v n xs := by
  refine ⟨h.1, ?_⟩
  rcases h.2 with h | ⟨g, cap, cur, h1, h2, h3, h4⟩
  · exact .inl h
  · exact .inr ⟨g, cap, cur, h1, h2, by rw [hW]; exact h3, h4⟩
/-- append within a region that draws its order. -/
theorem step_append20 {ops : Array Oper} {o : Oper} {a : Act} {w : World} {K : Act → World → Prop} {Q : Exit → Act → World → Prop} {E : Prop} (hgd : o.guard = none) (s x : Operand) (t : TypeId)
    (ho : o.op = .call { callee := .builtin .append, args := #[s, x], argTypes := #[t, t] })
    (base : Nat) (e : TypeId) (i : TypeInfo) (z : Value) (size bytes : Nat) (ht : Tryz.prog.underlying t = some (.slice e)) (hi : Tryz.prog.info? e = some i) (hz : i.zero = some z) (hsize : i.size = size) (hby : i.bytes = bytes) (hzs : z.cells.size = size) (hsz : 0 < size)
    (v : Value) (n : Nat) (xs : List Value) (hs : a.eval s = v) (hown : w.ownsRow base e size v n xs)
    (ad : Addr) (m c : Nat) (news : List Value) (hx : a.eval x = .slice (some ad) m c) (hl : news.length = m * size) (hnews : ∀ j u, news[j]? = some u → w.cell? (ad.add j) = some u) (h1 : ∀ u ∈ news, u.oneCell' = true)
    (h63 : n + m ≤ maxLen) (hbytes : (n + m) * bytes ≤ 140737488355328) (hbase : base ≤ w.heap.size)
    (h : ∀ v' w', w'.ownsRow base e size v' (n + m) (xs ++ news) → w.grownBy w' v.ownBlock → K (a.put o.dst v') w') :
    if Region.wanted o (yielded ops a.tmps) = true then Oper.wp Tryz.prog o a w K Q else E := by
  have hw : Region.wanted o (yielded ops a.tmps) = true := by simp [Region.wanted, hgd]
  rw [if_pos hw]
  obtain ⟨v', w', hrun, r1, r2, _⟩ := run_append_own (P := Tryz.prog) w base t o.type e i z size bytes ht hi hz hsize hby hzs hsz v n xs hown ad m c news hl hnews h1 h63 hbytes hbase
  unfold Oper.wp
  simp [execOp, ho, resolve, invoke, builtin, hs, hx, hrun, Result.andThen]
  exact h v' w' r1 r2
theorem own_shape20 {w : World} {base e sz n : Nat} {v : Value} {xs : List Value} (h : w.ownsRow base e sz v n xs) : ∃ a c, v = .slice a n c := by
  rcases h.2 with ⟨h1, h2⟩ | ⟨g, cap, cur, h1, _⟩
  · exact ⟨none, 0, by rw [h1, h2]⟩
  · exact ⟨_, cap, h1⟩
theorem grown_undrew {x y : World} {r : Option Nat} (h : x.drew.grownBy y r) : x.grownBy y r := ⟨h.os, h.tape, h.output, h.size, h.block⟩
theorem own_alloc20 {w : World} {base e sz n : Nat} {v : Value} {xs : List Value} (h : w.ownsRow base e sz v n xs) (o : Obj) : (w.alloc o).ownsRow base e sz v n xs := h.alloc o
theorem grown_app20 {w wr w1 : World} {o : Obj} {base e sz n : Nat} {v : Value} {xs : List Value} (hg : w.grownBy wr none) (hown : wr.ownsRow base e sz v n xs) (hb : w.heap.size ≤ base) (h : (wr.alloc o).grownBy w1 v.ownBlock) : w.grownBy w1 none := by
  refine ⟨h.os.trans hg.os, h.tape.trans hg.tape, h.output.trans hg.output, ?_, fun k hk _ => ?_⟩
  · have := h.size; have := hg.size; simp at *; omega
  · have hk2 : k < wr.heap.size := Nat.lt_of_lt_of_le hk hg.size
    rw [h.block k (by simp; omega) (by intro e; have := (hown.lt k e.symm).1; omega), Below.heap_alloc wr o k hk2]
    exact hg.block k hk (by simp)

set_option maxHeartbeats 400000 in
set_option maxRecDepth 100000 in
theorem hex_none (ao : Option Addr) (c : Nat) (w : World) :
    Calls Tryz.prog 44 #[.slice ao 0 c] w fun en w' => en = .returned (.string (tstr (hx []))) ∧ w' = w := by
  go_enter Tryz.func44, Tryz.ntmps44
  go_wp2
  go_ret
  exact ⟨rfl, rfl⟩

set_option maxHeartbeats 4000000 in
set_option maxRecDepth 100000 in
theorem hex_some (ao : Option Addr) (n c : Nat) (zs : List Int) (w : World) (hb : Byt w ao n c zs) (bt : Bt zs) (h0 : 0 < n) (hn : n ≤ 10000000) :
    Calls Tryz.prog 44 #[.slice ao n c] w fun en w' => en = .returned (.string (tstr (hx zs))) ∧ w.grownBy w' none := by
  obtain ⟨i0, hi, hz0, hz1, hz2⟩ := info_parts info_u8
  have HB := hid_intro hb
  have HL := hid_intro hb.len
  have BT := hid_intro bt
  clear hb bt
  go_enter Tryz.func44, Tryz.ntmps44
  go_wp2_with (at_make; refine wpList_make_own _ rfl _ _ 32 rfl w.heap.size 5 i0 (.int .u8 0) 1 Tryz.underlying32 hi hz0 hz1 _ _ _ (2 * n) rfl rfl ?b1 ?b2 ?b3 (Nat.le_refl _) ?_)
  case b1 => omega
  case b2 => rw [hz2]; omega
  case b3 => unfold maxLen; omega
  intro w0 hown0 hg0
  have O0 := hid_intro hown0
  have G0 := hid_intro hg0
  clear hown0 hg0
  go_wp2
  go_loopw [3, 5, 15] (fun sl _ si wr => ∃ (i : Nat), i ≤ n ∧ si = .int .i64 (i : Nat) ∧ wr.ownsRow w.heap.size 5 1 sl (2 * i) ((dz (hxs (zs.take i))).map (Value.int .u8)) ∧ w.grownBy wr none) (fun _ _ si _ => n - (intOf si).toNat)
  case atStart => exact ⟨0, Nat.zero_le _, rfl, O0.out, G0.out⟩
  case round =>
    obtain ⟨i, hi', rfl, hown, hg⟩ := hrel
    obtain ⟨so, sc, rfl, hsb⟩ := owns_any hown
    have HO := hid_intro hown
    have HG := hid_intro hg
    have HSB := hid_intro hsb
    clear hown hg O0 G0 hsb
    by_cases hlt : i < n
    · obtain ⟨b1, off, rfl, _, k1⟩ := HB.out.at (by omega)
      have c0 := HG.out.cell (k1 i hlt) (by simp)
      have hxr := BT.out.getD i
      have HT : Hid (hxs (zs.take (i + 1)) = hxs (zs.take i) ++ [dgt ((zs.getD i 0).toNat / 16), dgt ((zs.getD i 0).toNat % 16)]) := by
        show _ = _
        rw [take_snoc20 (by have := HL.out; omega), hxs_snoc]
      generalize zs.getD i 0 = x at *
      obtain ⟨q, hq⟩ : ∃ q : Nat, x.toNat / 16 = q := ⟨_, rfl⟩
      obtain ⟨r, hr⟩ : ∃ r : Nat, x.toNat % 16 = r := ⟨_, rfl⟩
      rw [hq, hr] at HT
      have e1 : x / 16 = (q : Int) := by omega
      have e2 : bits .and .u8 x 15 = (r : Int) := by rw [u8_and15 (x := x) hxr.1 (by omega)]; omega
      have q1 : q < 16 := by omega
      have q2 : (q : Int) < 16 := by omega
      have r1 : r < 16 := by omega
      have r2 : (r : Int) < 16 := by omega
      have s3 := digs_get q q1
      have s4 := digs_get r r1
      clear k1 hq hr hxr
      generalize dgt q = dq at *
      generalize dgt r = dr at *
      have HA : Hid (∀ W : World, W.heap = wr.heap → (W.alloc (.cells #[.int .u8 (dq.toNat : Nat), .int .u8 (dr.toNat : Nat)] 5)).ownsRow w.heap.size 5 1 (.slice so (2 * i) sc) (2 * i) ((dz (hxs (zs.take i))).map (Value.int .u8))) := fun W hW => (own_same20 HO.out hW).alloc _
      go_upto_region 7 with fail
      go_region_law (refine step_append20 rfl (.tmp 19) (.tmp 26) 32 (by rfl) w.heap.size 5 i0 (.int .u8 0) 1 1 Tryz.underlying32 hi hz0 hz1 hz2 rfl (by decide) (.slice so (2 * i) sc) (2 * i) _ (by rfl) (by exact HA.out _ rfl) ⟨wr.heap.size, 0, none⟩ 2 2 [.int .u8 (dq.toNat : Nat), .int .u8 (dr.toNat : Nat)] (by rfl) rfl (by exact cell_two_new _ _ _ _) (by intro u hu; simp at hu; rcases hu with rfl | rfl <;> rfl) (by unfold maxLen; omega) (by omega) (by have := HG.out.size; simp; omega) ?_; intro v3 w3 ho3 hg3; obtain ⟨va, vc, hv3⟩ := own_shape20 ho3; subst hv3; have O3 := hid_intro ho3; have G3 := hid_intro hg3; clear ho3 hg3)
      all_goals
        go_wp2
        go_roundw
        case rel =>
          refine ⟨i + 1, by omega, by go_num, ?_, grown_app20 (HG.out) HO.out (Nat.le_refl _) (grown_undrew G3.out)⟩
          have h := O3.out
          rw [HT.out, dz_app, List.map_append]
          exact h
        case measure => simp [intOf]; omega
    · obtain rfl : i = n := by omega
      have e : zs.take i = zs := by rw [← HL.out, List.take_length]
      rw [e] at HO HSB
      have hc := conv_str HSB.out
      rw [dz_str] at hc
      go_wp2
      go_ret
      refine ⟨?_, HG.out⟩
      have : hx zs = hxs zs := by
        unfold hx
        rw [if_neg (fun e => by rw [e] at HL; have := HL.out; simp at this; omega)]
      rw [this]
      rfl
theorem hex_any (ao : Option Addr) (n c : Nat) (zs : List Int) (w : World) (hb : Byt w ao n c zs) (bt : Bt zs) (hn : n ≤ 10000000) :
    Calls Tryz.prog 44 #[.slice ao n c] w fun en w' => en = .returned (.string (tstr (hx zs))) ∧ w.grownBy w' none := by
  by_cases h0 : n = 0
  · subst h0
    have : zs = [] := List.length_eq_zero_iff.1 hb.len
    subst this
    refine (hex_none ao c w).mono ?_
    rintro en w' ⟨rfl, rfl⟩
    exact ⟨rfl, World.grownBy.refl _ _⟩
  · exact hex_some ao n c zs w hb bt (by omega) hn

set_option maxHeartbeats 4000000 in
set_option maxRecDepth 100000 in
theorem refHex_some (ao : Option Addr) (n c : Nat) (zs : List Int) (w : World) (hb : Byt w ao n c zs) (bt : Bt zs) (h0 : 0 < n) (hn : n ≤ 10000000) :
    Calls Tryz.prog 51 #[.slice ao n c] w fun en w' => en = .returned (.string (tstr (hx zs))) ∧ w.grownBy w' none := by
  obtain ⟨i0, hi, hz0, hz1, hz2⟩ := info_parts info_u8
  have HB := hid_intro hb
  have HL := hid_intro hb.len
  have BT := hid_intro bt
  clear hb bt
  have hn0 : ((n : Int) == 0) = false := by rw [beq_eq_false_iff_ne]; omega
  go_enter Tryz.func51, Tryz.ntmps51
  go_wp2
  go_loopw [3, 4] (fun sl si wr => ∃ (i : Nat), i ≤ n ∧ si = .int .i64 (i : Nat) ∧ wr.ownsRow w.heap.size 5 1 sl (2 * i) ((dz (hxs (zs.take i))).map (Value.int .u8)) ∧ w.grownBy wr none) (fun _ si _ => n - (intOf si).toNat)
  case atStart => exact ⟨0, Nat.zero_le _, rfl, ⟨rfl, .inl ⟨rfl, rfl⟩⟩, World.grownBy.refl _ _⟩
  case round =>
    obtain ⟨i, hi', rfl, hown, hg⟩ := hrel
    obtain ⟨so, sc, rfl, hsb⟩ := owns_any hown
    have HO := hid_intro hown
    have HG := hid_intro hg
    have HSB := hid_intro hsb
    clear hown hg hsb
    by_cases hlt : i < n
    · obtain ⟨b1, off, rfl, _, k1⟩ := HB.out.at (by omega)
      have c0 := HG.out.cell (k1 i hlt) (by simp)
      have hxr := BT.out.getD i
      have HT : Hid (hxs (zs.take (i + 1)) = hxs (zs.take i) ++ [dgt ((zs.getD i 0).toNat / 16), dgt ((zs.getD i 0).toNat % 16)]) := by
        show _ = _
        rw [take_snoc20 (by have := HL.out; omega), hxs_snoc]
      generalize zs.getD i 0 = x at *
      obtain ⟨q, hq⟩ : ∃ q : Nat, x.toNat / 16 = q := ⟨_, rfl⟩
      obtain ⟨r, hr⟩ : ∃ r : Nat, x.toNat % 16 = r := ⟨_, rfl⟩
      rw [hq, hr] at HT
      have e1 : x / 16 = (q : Int) := by omega
      have e2 : x % 16 = (r : Int) := by omega
      have e3 : x.tdiv 16 = (q : Int) := by rw [Int.tdiv_eq_ediv_of_nonneg hxr.1]; omega
      have e4 : x.tmod 16 = (r : Int) := by rw [Int.tmod_eq_emod_of_nonneg hxr.1]; omega
      have e5 : IntKind.u8.wrap (q : Int) = (q : Int) := by rw [IntKind.wrap_u8]; omega
      have e6 : IntKind.u8.wrap (r : Int) = (r : Int) := by rw [IntKind.wrap_u8]; omega
      have g0 : (0 : Int) ≤ (i : Int) := by omega
      have g1 : (i : Int) < (n : Int) := by omega
      have q1 : q < 16 := by omega
      have q2 : (q : Int) < 16 := by omega
      have r1 : r < 16 := by omega
      have r2 : (r : Int) < 16 := by omega
      have s3 := digs_get q q1
      have s4 := digs_get r r1
      clear k1 hq hr hxr
      generalize dgt q = dq at *
      generalize dgt r = dr at *
      have HA : Hid (∀ W : World, W.heap = wr.heap → (W.alloc (.cells #[.int .u8 (dq.toNat : Nat), .int .u8 (dr.toNat : Nat)] 5)).ownsRow w.heap.size 5 1 (.slice so (2 * i) sc) (2 * i) ((dz (hxs (zs.take i))).map (Value.int .u8))) := fun W hW => (own_same20 HO.out hW).alloc _
      go_upto_region 7 with fail
      go_region_law (refine step_append20 rfl (.tmp 14) (.tmp 27) 32 (by rfl) w.heap.size 5 i0 (.int .u8 0) 1 1 Tryz.underlying32 hi hz0 hz1 hz2 rfl (by decide) (.slice so (2 * i) sc) (2 * i) _ (by rfl) (by exact HA.out _ rfl) ⟨wr.heap.size, 0, none⟩ 2 2 [.int .u8 (dq.toNat : Nat), .int .u8 (dr.toNat : Nat)] (by rfl) rfl (by exact cell_two_new _ _ _ _) (by intro u hu; simp at hu; rcases hu with rfl | rfl <;> rfl) (by unfold maxLen; omega) (by omega) (by have := HG.out.size; simp; omega) ?_; intro v3 w3 ho3 hg3; obtain ⟨va, vc, hv3⟩ := own_shape20 ho3; subst hv3; have O3 := hid_intro ho3; have G3 := hid_intro hg3; clear ho3 hg3)
      all_goals
        go_wp2
        go_roundw
        case rel =>
          refine ⟨i + 1, by omega, by go_num, ?_, grown_app20 (HG.out) HO.out (Nat.le_refl _) (grown_undrew G3.out)⟩
          have h := O3.out
          rw [HT.out, dz_app, List.map_append]
          exact h
        case measure => simp [intOf]; omega
    · obtain rfl : i = n := by omega
      have e : zs.take i = zs := by rw [← HL.out, List.take_length]
      rw [e] at HO HSB
      have hc := conv_str HSB.out
      rw [dz_str] at hc
      go_wp2
      go_ret
      refine ⟨?_, HG.out⟩
      have : hx zs = hxs zs := by
        unfold hx
        rw [if_neg (fun e => by rw [e] at HL; have := HL.out; simp at this; omega)]
      rw [this]
      rfl
set_option maxHeartbeats 400000 in
set_option maxRecDepth 100000 in
theorem refHex_none (ao : Option Addr) (c : Nat) (w : World) :
    Calls Tryz.prog 51 #[.slice ao 0 c] w fun en w' => en = .returned (.string (tstr (hx []))) ∧ w' = w := by
  go_enter Tryz.func51, Tryz.ntmps51
  go_wp2
  go_ret
  exact ⟨rfl, rfl⟩
theorem refHex_any (ao : Option Addr) (n c : Nat) (zs : List Int) (w : World) (hb : Byt w ao n c zs) (bt : Bt zs) (hn : n ≤ 10000000) :
    Calls Tryz.prog 51 #[.slice ao n c] w fun en w' => en = .returned (.string (tstr (hx zs))) ∧ w.grownBy w' none := by
  by_cases h0 : n = 0
  · subst h0
    have : zs = [] := List.length_eq_zero_iff.1 hb.len
    subst this
    refine (refHex_none ao c w).mono ?_
    rintro en w' ⟨rfl, rfl⟩
    exact ⟨rfl, World.grownBy.refl _ _⟩
  · exact refHex_some ao n c zs w hb bt (by omega) hn
end Go.Proofs.YtcjgmiilfjjbcaaGreatDoor
