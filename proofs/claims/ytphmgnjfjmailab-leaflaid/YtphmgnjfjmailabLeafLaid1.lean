import Derived.Test.YtphmgnjfjmailabItemsIn
import Derived.Test.YtphmgnjfjmailabLeafR3
import Derived.Test.YtphmgnjfjmailabLeafL2
namespace Go.Proofs.Ytphmgnjfjmailab
open Go.RowKit

theorem putV_own (x : Nat) (w : World) (hx : x < 18446744073709551616) :
    Calls Try.prog 12 #[.slice none 0 0, .int .u64 x] w fun e w' => e = .returned (.slice (some ⟨w.heap.size, 0, none⟩) (vform x).length (vform x).length) ∧ w'.ownsRow w.heap.size 5 1 (.slice (some ⟨w.heap.size, 0, none⟩) (vform x).length (vform x).length) (vform x).length ((vform x).map (Value.int .u8)) ∧ w.grownBy w' none := by
  refine (putV_any none 0 0 [] x w (Byt.empty w) (by omega) hx).mono ?_
  rintro e w' ⟨rfl, h1, h2, h3⟩
  rw [Nat.zero_add, List.nil_append] at h1
  exact ⟨by rw [Nat.zero_add], h1, h2⟩

/-- 'append' to what the call owns: all that lay below is as it was. -/
theorem grown_own0 {w wr w1 : World} {base n : Nat} {v : Value} {xs : List Value} (hg : w.grownBy wr none) (hown : wr.ownsRow base 5 1 v n xs) (hb : w.heap.size ≤ base) (h : wr.grownBy w1 v.ownBlock) : w.grownBy w1 none := by
  refine ⟨h.os.trans hg.os, h.tape.trans hg.tape, h.output.trans hg.output, Nat.le_trans hg.size h.size, fun k hk _ => ?_⟩
  rw [h.block k (Nat.lt_of_lt_of_le hk hg.size) (by intro e; have := (hown.lt k e.symm).1; omega)]
  exact hg.block k hk (by simp)

set_option maxHeartbeats 1000000 in
set_option maxRecDepth 100000 in
theorem u16_any (G n : Nat) (zs : List Int) (p : Nat) (w : World) (h : Rw w G zs) (hl : zs.length = n) (hp : p + 1 < n) (hn : n ≤ 65536) (bt : Bt zs) :
    Calls Try.prog 11 #[.slice (some ⟨G, 0, none⟩) n n, .int .i64 p] w fun en w' => en = .returned (.int .i64 ((le 2 (zs.drop p) : Nat) : Int)) ∧ Qt w w' := by
  have c0 := h.cell p (by omega)
  have c1 := h.cell (p + 1) (by omega)
  have b0 := bt.getD p
  have b1 := bt.getD (p + 1)
  have HE : Hid (((le 2 (zs.drop p) : Nat) : Int) = zs.getD p 0 + 256 * zs.getD (p + 1) 0) := by
    show _ = _
    have e0 : zs.drop p = zs.getD p 0 :: zs.getD (p + 1) 0 :: zs.drop (p + 2) := by
      rw [drop_cons (by omega), drop_cons (i := p + 1) (by omega)]
    rw [e0]
    simp only [le]
    omega
  generalize zs.getD p 0 = z0 at *
  generalize zs.getD (p + 1) 0 = z1 at *
  have g0 : (0 : Int) ≤ (p : Int) := by omega
  have g1 : (p : Int) < (n : Int) := by omega
  have g2 : (0 : Int) ≤ (p : Int) + 1 := by omega
  have g3 : (p : Int) + 1 < (n : Int) := by omega
  have g4 : ((p : Int) + 1).toNat = p + 1 := by omega
  go_enter Try.func11, Try.ntmps11
  go_wp2
  go_quiet (fail)
  go_wp2
  go_ret
  refine ⟨ret_int ?_, Qt.drewN _ _⟩
  rw [HE.out]

/-- The cell of an item, as the law lays it: in whatever world the item lies. -/
theorem cell_same {p r : Nat} {x : It} {s f : Int} (hk : x.key.length - p = r) (hs : x.size = s) (hf : x.first = f) : cb p x = (vform r ++ x.key.drop p) ++ (vform (tg s) ++ (if 512 < s then lb 4 f.toNat else x.val)) := by
  unfold cb
  rw [hk, hs, hf, List.append_assoc]
end Go.Proofs.Ytphmgnjfjmailab
