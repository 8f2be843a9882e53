import Derived.Test.YtgipnfbojnllnaaGreatDoorApp
namespace Go.Proofs.YtgipnfbojnllnaaGreatDoor
open Go.RowKit

/-- How wide a number is put: 1, 2, 4 or 8; 0: in its least form. -/
def wd (n : Int) : Nat := match ((n.tmod 5 + 5) % 5).toNat with | 0 => 1 | 1 => 2 | 2 => 4 | 3 => 8 | _ => 0

theorem tmod5 (n : Int) : -4 ≤ n.tmod 5 ∧ n.tmod 5 ≤ 4 := by
  rcases Int.le_total 0 n with h | h
  · have := Int.tmod_nonneg 5 h
    have := Int.tmod_lt_of_pos n (show (0 : Int) < 5 by omega)
    omega
  · have h1 : (-n).tmod 5 = -(n.tmod 5) := Int.neg_tmod n 5
    have := Int.tmod_nonneg 5 (show 0 ≤ -n by omega)
    have := Int.tmod_lt_of_pos (-n) (show (0 : Int) < 5 by omega)
    omega

theorem wd_cases (n : Int) : wd n = 0 ∨ wd n = 1 ∨ wd n = 2 ∨ wd n = 4 ∨ wd n = 8 := by
  unfold wd
  split <;> simp

set_option maxHeartbeats 400000 in
theorem wide_any (n : Int) (w : World) : Calls Tryz.prog 9 #[.int .i64 n] w fun e w' => e = .returned (.int .i64 (wd n : Nat)) ∧ w' = w := by
  obtain ⟨h1, h2⟩ := tmod5 n
  have hr : (n.tmod 5 + 5) % 5 = 0 ∨ (n.tmod 5 + 5) % 5 = 1 ∨ (n.tmod 5 + 5) % 5 = 2 ∨ (n.tmod 5 + 5) % 5 = 3 ∨ (n.tmod 5 + 5) % 5 = 4 := by omega
  rcases hr with hr | hr | hr | hr | hr
  · have e : wd n = 1 := by unfold wd; rw [hr]; rfl
    rw [e]
    clear e
    go_enter Tryz.func9, Tryz.ntmps9
    go_wp2
    go_ret
    exact ⟨rfl, rfl⟩
  · have e : wd n = 2 := by unfold wd; rw [hr]; rfl
    rw [e]
    clear e
    go_enter Tryz.func9, Tryz.ntmps9
    go_wp2
    go_ret
    exact ⟨rfl, rfl⟩
  · have e : wd n = 4 := by unfold wd; rw [hr]; rfl
    rw [e]
    clear e
    go_enter Tryz.func9, Tryz.ntmps9
    go_wp2
    go_ret
    exact ⟨rfl, rfl⟩
  · have e : wd n = 8 := by unfold wd; rw [hr]; rfl
    rw [e]
    clear e
    go_enter Tryz.func9, Tryz.ntmps9
    go_wp2
    go_ret
    exact ⟨rfl, rfl⟩
  · have e : wd n = 0 := by unfold wd; rw [hr]; rfl
    rw [e]
    clear e
    go_enter Tryz.func9, Tryz.ntmps9
    go_wp2
    go_ret
    exact ⟨rfl, rfl⟩

/-- The bytes of a number of that width. -/
def form (d x : Nat) : List Int := if d = 0 then vform x else lb d x
/-- What is read back of it. -/
def cutTo (d x : Nat) : Nat := if d = 0 then x else x % 256 ^ d

theorem form_bt (d x : Nat) : Bt (form d x) := by
  unfold form; split
  · exact lf_bt 10 x
  · exact lb_bt d x
theorem form_len (d x : Nat) : (form d x).length = if d = 0 then (vform x).length else d := by
  unfold form; split
  · rfl
  · exact lb_len d x
theorem form_le (n : Int) (x : Nat) : (form (wd n) x).length ≤ 10 ∧ 1 ≤ (form (wd n) x).length := by
  rw [form_len]
  have h1 := vform_le x
  have h2 := vform_pos x
  rcases wd_cases n with h | h | h | h | h <;> rw [h] <;> simp <;> omega

set_option maxHeartbeats 1000000 in
/-- put of a number of that width. -/
theorem put_any (ao : Option Addr) (n cap : Nat) (zs : List Int) (x : Nat) (d : Int) (w : World) (hb : Byt w ao n cap zs) (hn : n ≤ 140737488351232) (hx : x < 18446744073709551616) :
    Calls Tryz.prog 8 #[.slice ao n cap, .int .u64 x, .int .i64 (wd d : Nat)] w fun e w' =>
      ∃ m, m = n + (form (wd d) x).length ∧ e = .returned (.slice (some ⟨w.heap.size, 0, none⟩) m m) ∧ w'.ownsRow w.heap.size 5 1 (.slice (some ⟨w.heap.size, 0, none⟩) m m) m ((zs ++ form (wd d) x).map (Value.int .u8)) ∧ w.grownBy w' none ∧ w.heap.size < w'.heap.size := by
  have HB : Hid (Byt w ao n cap zs) := hb
  clear hb
  rcases wd_cases d with hw | hw | hw | hw | hw <;> rw [hw] <;> clear hw
  · go_enter Tryz.func8, Tryz.ntmps8
    go_wp2_with fail
    refine (putV_any ao n cap zs x _ HB.out hn hx).mono ?_
    rintro e w1 ⟨rfl, hown, hg, hs⟩
    have HO : Hid (w1.ownsRow w.heap.size 5 1 (.slice (some ⟨w.heap.size, 0, none⟩) (n + (vform x).length) (n + (vform x).length)) (n + (vform x).length) ((zs ++ vform x).map (Value.int .u8))) := hown
    have HG : Hid (w.grownBy w1 none ∧ w.heap.size < w1.heap.size) := ⟨hg, hs⟩
    clear hown hg hs
    go_wp2
    go_ret
    exact ⟨_, rfl, rfl, HO.out, HG.out.1, HG.out.2⟩
  · have hf : form 1 x = lb 1 x := rfl
    have hc : form 1 x = lb 1 (x % 256) := (lb_mod 1 x).symm
    have HC : Hid (form 1 x = lb 1 (x % 256)) := hc
    have HF : Hid ((form 1 x).length = 1) := lb_len 1 x
    clear hc hf
    go_enter Tryz.func8, Tryz.ntmps8
    go_wp2_with fail
    rw [show (x : Int) % 256 = ((x % 256 : Nat) : Int) by omega]
    refine (put_u8 ao n cap zs (x % 256) _ HB.out hn (by omega)).mono ?_
    rintro e w1 ⟨rfl, hown, hg, hs⟩
    have HO : Hid (w1.ownsRow w.heap.size 5 1 (.slice (some ⟨w.heap.size, 0, none⟩) (n + 1) (n + 1)) (n + 1) ((zs ++ lb 1 (x % 256)).map (Value.int .u8))) := hown
    have HG : Hid (w.grownBy w1 none ∧ w.heap.size < w1.heap.size) := ⟨hg, hs⟩
    clear hown hg hs
    go_wp2
    go_ret
    exact ⟨n + 1, by rw [HF.out], rfl, by rw [HC.out]; exact HO.out, HG.out.1, HG.out.2⟩
  · have hf : form 2 x = lb 2 x := rfl
    have hc : form 2 x = lb 2 (x % 65536) := (lb_mod 2 x).symm
    have HC : Hid (form 2 x = lb 2 (x % 65536)) := hc
    have HF : Hid ((form 2 x).length = 2) := lb_len 2 x
    clear hc hf
    go_enter Tryz.func8, Tryz.ntmps8
    go_wp2_with fail
    first | rw [show (x : Int) % 65536 = ((x % 65536 : Nat) : Int) by omega] | rw [show IntKind.u16.wrap (x : Int) = ((x % 65536 : Nat) : Int) by rw [IntKind.wrap_u16]; omega]
    refine (put_u16 ao n cap zs (x % 65536) _ HB.out hn (by omega)).mono ?_
    rintro e w1 ⟨rfl, hown, hg, hs⟩
    have HO : Hid (w1.ownsRow w.heap.size 5 1 (.slice (some ⟨w.heap.size, 0, none⟩) (n + 2) (n + 2)) (n + 2) ((zs ++ lb 2 (x % 65536)).map (Value.int .u8))) := hown
    have HG : Hid (w.grownBy w1 none ∧ w.heap.size < w1.heap.size) := ⟨hg, hs⟩
    clear hown hg hs
    go_wp2
    go_ret
    exact ⟨n + 2, by rw [HF.out], rfl, by rw [HC.out]; exact HO.out, HG.out.1, HG.out.2⟩
  · have hf : form 4 x = lb 4 x := rfl
    have hc : form 4 x = lb 4 (x % 4294967296) := (lb_mod 4 x).symm
    have HC : Hid (form 4 x = lb 4 (x % 4294967296)) := hc
    have HF : Hid ((form 4 x).length = 4) := lb_len 4 x
    clear hc hf
    go_enter Tryz.func8, Tryz.ntmps8
    go_wp2_with fail
    first | rw [show (x : Int) % 4294967296 = ((x % 4294967296 : Nat) : Int) by omega] | rw [show IntKind.u32.wrap (x : Int) = ((x % 4294967296 : Nat) : Int) by rw [IntKind.wrap_u32']; omega]
    refine (put_u32 ao n cap zs (x % 4294967296) _ HB.out hn (by omega)).mono ?_
    rintro e w1 ⟨rfl, hown, hg, hs⟩
    have HO : Hid (w1.ownsRow w.heap.size 5 1 (.slice (some ⟨w.heap.size, 0, none⟩) (n + 4) (n + 4)) (n + 4) ((zs ++ lb 4 (x % 4294967296)).map (Value.int .u8))) := hown
    have HG : Hid (w.grownBy w1 none ∧ w.heap.size < w1.heap.size) := ⟨hg, hs⟩
    clear hown hg hs
    go_wp2
    go_ret
    exact ⟨n + 4, by rw [HF.out], rfl, by rw [HC.out]; exact HO.out, HG.out.1, HG.out.2⟩
  · have hf : form 8 x = lb 8 x := rfl
    have hc : form 8 x = lb 8 (x % 18446744073709551616) := (lb_mod 8 x).symm
    have HC : Hid (form 8 x = lb 8 (x % 18446744073709551616)) := hc
    have HF : Hid ((form 8 x).length = 8) := lb_len 8 x
    clear hc hf
    go_enter Tryz.func8, Tryz.ntmps8
    go_wp2_with fail
    skip
    refine (put_u64 ao n cap zs x _ HB.out hn (by omega)).mono ?_
    rintro e w1 ⟨rfl, hown, hg, hs⟩
    have HO : Hid (w1.ownsRow w.heap.size 5 1 (.slice (some ⟨w.heap.size, 0, none⟩) (n + 8) (n + 8)) (n + 8) ((zs ++ lb 8 x).map (Value.int .u8))) := hown
    have HG : Hid (w.grownBy w1 none ∧ w.heap.size < w1.heap.size) := ⟨hg, hs⟩
    clear hown hg hs
    go_wp2
    go_ret
    exact ⟨n + 8, by rw [HF.out], rfl, by rw [show form 8 x = lb 8 x from rfl]; exact HO.out, HG.out.1, HG.out.2⟩

end Go.Proofs.YtgipnfbojnllnaaGreatDoor
